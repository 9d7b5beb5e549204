/-
  Asks: sorts, letters of names, as the program tells them and as the reference does.
-/
import Derived.Test.YtjflfelmiopicaaAskX
namespace Go.Proofs.Ytjflfelmiopicaa
open Go.RowKit

theorem Try.cells3 : Try.prog.cellsOf 3 = 1 := by kernel_rfl
/-- Sorts by kind. -/
def sTh (s : Int) : Bool := s == 4
def sBo (s : Int) : Bool := s == 1
def sIn (s : Int) : Bool := s == 2
def sNu (s : Int) : Bool := s == 2 || s == 3
def sWd (s : Int) : Bool := decide (10 < s) && decide (s ≤ 18)
def sSo (s : Int) : Bool := (decide (1 ≤ s) && decide (s ≤ 5)) || sWd s
/-- The bits of a word's sort. -/
def wBits (s : Int) : Int := if 10 < s ∧ s ≤ 18 then s - 10 else 0
theorem isthing_any (s : Int) (w : World) : Calls Try.prog 39 #[.int .i64 s] w fun e w' => e = .returned (.bool (sTh s)) ∧ w = w' := by
  go_enter Try.func39, Try.ntmps39
  go_wp2
  go_ret
  exact ⟨rfl, rfl⟩
theorem isbool_any (s : Int) (w : World) : Calls Try.prog 60 #[.int .i64 s] w fun e w' => e = .returned (.bool (sBo s)) ∧ w = w' := by
  go_enter Try.func60, Try.ntmps60
  go_wp2
  go_ret
  exact ⟨rfl, rfl⟩
theorem isint_any (s : Int) (w : World) : Calls Try.prog 67 #[.int .i64 s] w fun e w' => e = .returned (.bool (sIn s)) ∧ w = w' := by
  go_enter Try.func67, Try.ntmps67
  go_wp2
  go_ret
  exact ⟨rfl, rfl⟩
theorem isnumeric_any (s : Int) (w : World) : Calls Try.prog 61 #[.int .i64 s] w fun e w' => e = .returned (.bool (sNu s)) ∧ w = w' := by
  unfold sNu
  cases d : s == 2 with
  | true =>
    rw [Bool.true_or]
    go_enter Try.func61, Try.ntmps61
    go_wp2
    go_ret
    exact ⟨rfl, rfl⟩
  | false =>
    rw [Bool.false_or]
    go_enter Try.func61, Try.ntmps61
    go_wp2
    go_ret
    exact ⟨rfl, rfl⟩
theorem isnumber_any (s : Int) (w : World) : Calls Try.prog 49 #[.int .i64 s] w fun e w' => e = .returned (.bool (sNu s)) ∧ w = w' := by
  unfold sNu
  cases d : s == 2 with
  | true =>
    rw [Bool.true_or]
    go_enter Try.func49, Try.ntmps49
    go_wp2
    go_ret
    exact ⟨rfl, rfl⟩
  | false =>
    rw [Bool.false_or]
    go_enter Try.func49, Try.ntmps49
    go_wp2
    go_ret
    exact ⟨rfl, rfl⟩
theorem isword_any (s : Int) (w : World) : Calls Try.prog 55 #[.int .i64 s] w fun e w' => e = .returned (.bool (sWd s)) ∧ w = w' := by
  unfold sWd
  cases d : decide (10 < s) with
  | true =>
    rw [Bool.true_and]
    go_enter Try.func55, Try.ntmps55
    go_wp2
    go_ret
    exact ⟨rfl, rfl⟩
  | false =>
    rw [Bool.false_and]
    go_enter Try.func55, Try.ntmps55
    go_wp2
    go_ret
    exact ⟨rfl, rfl⟩
theorem issort_any (s : Int) (w : World) : Calls Try.prog 37 #[.int .i64 s] w fun e w' => e = .returned (.bool (sSo s)) ∧ w = w' := by
  unfold sSo
  cases d : decide (1 ≤ s) with
  | true =>
    cases d2 : decide (s ≤ 5) with
    | true =>
      go_enter Try.func37, Try.ntmps37
      go_wp2
      go_ret
      exact ⟨rfl, rfl⟩
    | false =>
      go_enter Try.func37, Try.ntmps37
      go_wp2_with fail
      refine (isword_any s _).mono ?_
      rintro e w1 ⟨rfl, rfl⟩
      go_wp2_with fail
      go_ret
      exact ⟨rfl, rfl⟩
  | false =>
    go_enter Try.func37, Try.ntmps37
    go_wp2_with fail
    refine (isword_any s _).mono ?_
    rintro e w1 ⟨rfl, rfl⟩
    go_wp2_with fail
    go_ret
    exact ⟨rfl, rfl⟩
theorem wordbits_any (s : Int) (w : World) : Calls Try.prog 45 #[.int .i64 s] w fun e w' => e = .returned (.int .i64 (wBits s)) ∧ w = w' := by

  by_cases h : 10 < s
  · by_cases h2 : s ≤ 18
    · have d1 : decide (11 ≤ s) = true := by simp; omega
      have d2 : decide (s ≤ 18) = true := by simp; omega
      have e : wBits s = s - 10 := by simp [wBits, h, h2]
      rw [e]
      clear e
      go_enter Try.func45, Try.ntmps45
      go_wp2
      go_ret
      exact ⟨rfl, rfl⟩
    · have d1 : decide (11 ≤ s) = true := by simp; omega
      have d2 : decide (s ≤ 18) = false := by simp; omega
      have e : wBits s = 0 := by simp [wBits, h2]
      rw [e]
      clear e
      go_enter Try.func45, Try.ntmps45
      go_wp2
      go_ret
      exact ⟨rfl, rfl⟩
  · have d1 : decide (11 ≤ s) = false := by simp; omega
    have e : wBits s = 0 := by simp [wBits, h]
    rw [e]
    clear e
    go_enter Try.func45, Try.ntmps45
    go_wp2
    go_ret
    exact ⟨rfl, rfl⟩
theorem when_any (b : Bool) (s : Int) (w : World) : Calls Try.prog 59 #[.bool b, .int .i64 s] w fun e w' => e = .returned (.int .i64 (if b then s else 0)) ∧ w = w' := by
  cases b with
  | true =>
    go_enter Try.func59, Try.ntmps59
    go_wp2
    go_ret
    exact ⟨rfl, rfl⟩
  | false =>
    go_enter Try.func59, Try.ntmps59
    go_wp2
    go_ret
    exact ⟨rfl, rfl⟩
end Go.Proofs.Ytjflfelmiopicaa
