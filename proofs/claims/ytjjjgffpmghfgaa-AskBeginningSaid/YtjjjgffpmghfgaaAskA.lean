/-
  Asks: sorts, letters of names, as the program tells them and as the reference does.
-/
import Derived.Test.YtjjjgffpmghfgaaAskX
namespace Go.Proofs.Ytjjjgffpmghfgaa
open Go.RowKit

theorem Try.cells3 : Try.prog.cellsOf 3 = 1 := by kernel_rfl
/-- Sorts by kind. -/
def sTh (s : Int) : Bool := s == 4
def sBo (s : Int) : Bool := s == 1
def sIn (s : Int) : Bool := s == 2
def sNu (s : Int) : Bool := s == 2 || s == 3
def sWd (s : Int) : Bool := decide (10 < s) && decide (s ≤ 18)
def sSo (s : Int) : Bool := (decide (1 ≤ s) && decide (s ≤ 5)) || sWd s
/-- The bits of a word's sort. -/
def wBits (s : Int) : Int := if 10 < s ∧ s ≤ 18 then s - 10 else 0
theorem isthing_any (s : Int) (w : World) : Calls Try.prog 40 #[.int .i64 s] w fun e w' => e = .returned (.bool (sTh s)) ∧ w = w' := by
  go_enter Try.func40, Try.ntmps40
  go_wp2
  go_ret
  exact ⟨rfl, rfl⟩
theorem isbool_any (s : Int) (w : World) : Calls Try.prog 74 #[.int .i64 s] w fun e w' => e = .returned (.bool (sBo s)) ∧ w = w' := by
  go_enter Try.func74, Try.ntmps74
  go_wp2
  go_ret
  exact ⟨rfl, rfl⟩
theorem isint_any (s : Int) (w : World) : Calls Try.prog 103 #[.int .i64 s] w fun e w' => e = .returned (.bool (sIn s)) ∧ w = w' := by
  go_enter Try.func103, Try.ntmps103
  go_wp2
  go_ret
  exact ⟨rfl, rfl⟩
theorem isnumeric_any (s : Int) (w : World) : Calls Try.prog 75 #[.int .i64 s] w fun e w' => e = .returned (.bool (sNu s)) ∧ w = w' := by
  unfold sNu
  cases d : s == 2 with
  | true =>
    rw [Bool.true_or]
    go_enter Try.func75, Try.ntmps75
    go_wp2
    go_ret
    exact ⟨rfl, rfl⟩
  | false =>
    rw [Bool.false_or]
    go_enter Try.func75, Try.ntmps75
    go_wp2
    go_ret
    exact ⟨rfl, rfl⟩
theorem isnumber_any (s : Int) (w : World) : Calls Try.prog 98 #[.int .i64 s] w fun e w' => e = .returned (.bool (sNu s)) ∧ w = w' := by
  unfold sNu
  cases d : s == 2 with
  | true =>
    rw [Bool.true_or]
    go_enter Try.func98, Try.ntmps98
    go_wp2
    go_ret
    exact ⟨rfl, rfl⟩
  | false =>
    rw [Bool.false_or]
    go_enter Try.func98, Try.ntmps98
    go_wp2
    go_ret
    exact ⟨rfl, rfl⟩
theorem isword_any (s : Int) (w : World) : Calls Try.prog 70 #[.int .i64 s] w fun e w' => e = .returned (.bool (sWd s)) ∧ w = w' := by
  unfold sWd
  cases d : decide (10 < s) with
  | true =>
    rw [Bool.true_and]
    go_enter Try.func70, Try.ntmps70
    go_wp2
    go_ret
    exact ⟨rfl, rfl⟩
  | false =>
    rw [Bool.false_and]
    go_enter Try.func70, Try.ntmps70
    go_wp2
    go_ret
    exact ⟨rfl, rfl⟩
theorem issort_any (s : Int) (w : World) : Calls Try.prog 38 #[.int .i64 s] w fun e w' => e = .returned (.bool (sSo s)) ∧ w = w' := by
  unfold sSo
  cases d : decide (1 ≤ s) with
  | true =>
    cases d2 : decide (s ≤ 5) with
    | true =>
      go_enter Try.func38, Try.ntmps38
      go_wp2
      go_ret
      exact ⟨rfl, rfl⟩
    | false =>
      go_enter Try.func38, Try.ntmps38
      go_wp2_with fail
      refine (isword_any s _).mono ?_
      rintro e w1 ⟨rfl, rfl⟩
      go_wp2_with fail
      go_ret
      exact ⟨rfl, rfl⟩
  | false =>
    go_enter Try.func38, Try.ntmps38
    go_wp2_with fail
    refine (isword_any s _).mono ?_
    rintro e w1 ⟨rfl, rfl⟩
    go_wp2_with fail
    go_ret
    exact ⟨rfl, rfl⟩
theorem wordbits_any (s : Int) (w : World) : Calls Try.prog 94 #[.int .i64 s] w fun e w' => e = .returned (.int .i64 (wBits s)) ∧ w = w' := by

  by_cases h : 10 < s
  · by_cases h2 : s ≤ 18
    · have d1 : decide (11 ≤ s) = true := by simp; omega
      have d2 : decide (s ≤ 18) = true := by simp; omega
      have e : wBits s = s - 10 := by simp [wBits, h, h2]
      rw [e]
      clear e
      go_enter Try.func94, Try.ntmps94
      go_wp2
      go_ret
      exact ⟨rfl, rfl⟩
    · have d1 : decide (11 ≤ s) = true := by simp; omega
      have d2 : decide (s ≤ 18) = false := by simp; omega
      have e : wBits s = 0 := by simp [wBits, h2]
      rw [e]
      clear e
      go_enter Try.func94, Try.ntmps94
      go_wp2
      go_ret
      exact ⟨rfl, rfl⟩
  · have d1 : decide (11 ≤ s) = false := by simp; omega
    have e : wBits s = 0 := by simp [wBits, h]
    rw [e]
    clear e
    go_enter Try.func94, Try.ntmps94
    go_wp2
    go_ret
    exact ⟨rfl, rfl⟩
theorem when_any (b : Bool) (s : Int) (w : World) : Calls Try.prog 73 #[.bool b, .int .i64 s] w fun e w' => e = .returned (.int .i64 (if b then s else 0)) ∧ w = w' := by
  cases b with
  | true =>
    go_enter Try.func73, Try.ntmps73
    go_wp2
    go_ret
    exact ⟨rfl, rfl⟩
  | false =>
    go_enter Try.func73, Try.ntmps73
    go_wp2
    go_ret
    exact ⟨rfl, rfl⟩
end Go.Proofs.Ytjjjgffpmghfgaa
