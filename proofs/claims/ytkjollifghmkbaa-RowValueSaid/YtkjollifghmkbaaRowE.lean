/-
  The contracts of row's Check and bounded.
-/
import Derived.Test.YtkjollifghmkbaaRowC
namespace Go.Proofs.Ytkjollifghmkbaa
open Go.RowKit

/-- A number of a list. -/
def nth (xs : List Int) (i : Nat) : Int := xs.getD i 0
/-- A slice of whole numbers that reads as a list. -/
def Is (w : World) (A : Option Addr) (xs : List Int) : Prop := 0 < xs.length → ∃ b o, A = some ⟨b, o, none⟩ ∧ b < w.heap.size ∧ ∀ k, k < xs.length → w.cell? ⟨b, o + k, none⟩ = some (.int .i64 (nth xs k))
theorem Is.below {w w' : World} {A : Option Addr} {xs : List Int} (h : Is w A xs) (hb : Below w.heap.size w w') : Is w' A xs := fun z => by
  obtain ⟨b, o, e, l, f⟩ := h z
  exact ⟨b, o, e, Nat.lt_of_lt_of_le l hb.size, fun k hk => (hb.cell (p := ⟨b, o + k, none⟩) l).trans (f k hk)⟩
theorem Is.drewN {w : World} {A : Option Addr} {xs : List Int} (h : Is w A xs) (n : Nat) : Is (w.drewN n) A xs := h
theorem Is.drew {w : World} {A : Option Addr} {xs : List Int} (h : Is w A xs) : Is w.drew A xs := h
/-- May a number stand in a row? -/
def inB (n : Int) : Bool := decide (-1000000 ≤ n ∧ n ≤ 1000000)
theorem inB_iff {n : Int} : inB n = true ↔ -1000000 ≤ n ∧ n ≤ 1000000 := by simp [inB]
theorem bounded_any (n : Int) (w : World) : Calls Try.prog 38 #[.int .i64 n] w fun e w' => e = .returned (.bool (inB n)) ∧ w = w' := by
  by_cases h1 : -1000000 ≤ n
  · have e : inB n = decide (n ≤ 1000000) := by simp [inB, h1]
    rw [e]
    have d : decide (-1000000 ≤ n) = true := by simpa using h1
    clear e
    go_enter Try.func38, Try.ntmps38
    go_wp2
    go_ret
    exact ⟨rfl, rfl⟩
  · have e : inB n = false := by simp [inB, h1]
    rw [e]
    have d : decide (-1000000 ≤ n) = false := by simpa using h1
    clear e
    go_enter Try.func38, Try.ntmps38
    go_wp2
    go_ret
    exact ⟨rfl, rfl⟩
/-- The way in which a call that yields a fault ends. -/
def GivesF (c i : Int) (w : World) (e : Ending) (w' : World) : Prop := e = .returned (.agg #[.int .i64 c, .int .i64 i]) ∧ Below w.heap.size w w'
/-- The place of the first number that may not stand there. -/
def badAt (xs : List Int) : Nat := xs.findIdx (fun c => !inB c)
def inC (tt : Int) (xs : List Int) : Int := if badAt xs < xs.length then 3 else if inB tt = true then 0 else 3
def inI (tt : Int) (xs : List Int) : Int := if badAt xs < xs.length then badAt xs else if inB tt = true then 0 else xs.length
def chkC (kind tt : Int) (xs : List Int) (n : Int) : Int :=
  if n < 0 ∨ 12 < n then 3 else if ¬ (kind = 1 ∨ kind = 2 ∨ kind = 3) then 4 else if n < xs.length then 9 else inC tt xs
def chkI (kind tt : Int) (xs : List Int) (n : Int) : Int :=
  if n < 0 ∨ 12 < n then -1 else if ¬ (kind = 1 ∨ kind = 2 ∨ kind = 3) then 0 else if n < xs.length then 0 else inI tt xs
theorem badAt_here {xs : List Int} {i : Nat} (hi : i < xs.length) (h : ∀ j, j < i → inB (nth xs j) = true) (hb : inB (nth xs i) = false) : badAt xs = i := by
  unfold badAt
  rw [List.findIdx_eq hi]
  refine ⟨by simpa [nth, List.getD, hi] using hb, fun j hj => ?_⟩
  have := h j hj
  simpa [nth, List.getD, show j < xs.length by omega] using this
theorem badAt_none {xs : List Int} (h : ∀ j, j < xs.length → inB (nth xs j) = true) : badAt xs = xs.length := by
  unfold badAt
  rw [List.findIdx_eq_length]
  intro x hx
  obtain ⟨j, hj, rfl⟩ := List.getElem_of_mem hx
  have := h j hj
  simpa [nth, List.getD, hj] using this
theorem badAt_le (xs : List Int) : badAt xs ≤ xs.length := List.findIdx_le_length
set_option maxHeartbeats 1000000 in
theorem check_out (A : Option Addr) (L c : Nat) (kind tt n : Int) (hn : n < 0 ∨ 12 < n) (w : World) :
    Calls Try.prog 14 #[.agg #[.slice A L c, .int .i64 kind, .int .i64 tt], .int .i64 n] w (GivesF 3 (-1) w) := by
  by_cases h : n < 0
  · have d : decide (n < 0) = true := by simpa using h
    clear hn
    go_enter Try.func14, Try.ntmps14
    go_wp2
    refine bodyPost_ret (v := .agg #[.int .i64 3, .int .i64 (-1)]) (by simp [results, Try.results14, go_sem]) rfl ⟨rfl, ?_⟩
    go_grown
  · have d : decide (n < 0) = false := by simpa using h
    have d2 : decide (12 < n) = true := by simp; omega
    clear hn
    go_enter Try.func14, Try.ntmps14
    go_wp2
    refine bodyPost_ret (v := .agg #[.int .i64 3, .int .i64 (-1)]) (by simp [results, Try.results14, go_sem]) rfl ⟨rfl, ?_⟩
    go_grown
set_option maxHeartbeats 1000000 in
theorem check_kind (A : Option Addr) (L c : Nat) (kind tt n : Int) (hn : 0 ≤ n) (hn2 : n ≤ 12) (hk : ¬ (kind = 1 ∨ kind = 2 ∨ kind = 3)) (w : World) :
    Calls Try.prog 14 #[.agg #[.slice A L c, .int .i64 kind, .int .i64 tt], .int .i64 n] w (GivesF 4 0 w) := by
  have d : decide (n < 0) = false := by simp; omega
  have d2 : decide (12 < n) = false := by simp; omega
  have k1 : (kind != 1) = true := by simp; omega
  have k2 : (kind != 2) = true := by simp; omega
  have k3 : (kind != 3) = true := by simp; omega
  clear hk
  go_enter Try.func14, Try.ntmps14
  go_wp2
  refine bodyPost_ret (v := .agg #[.int .i64 4, .int .i64 0]) (by simp [results, Try.results14, go_sem]) rfl ⟨rfl, ?_⟩
  go_grown
theorem kind_tests {kind : Int} (hk : kind = 1 ∨ kind = 2 ∨ kind = 3) : ∃ a b : Bool, (kind != 1) = a ∧ (kind != 2) = b ∧ (kind != 3) = (!(a && b)) := by
  rcases hk with rfl | rfl | rfl <;> exact ⟨_, _, rfl, rfl, rfl⟩
set_option maxHeartbeats 1000000 in
theorem check_size (A : Option Addr) (L c : Nat) (kind tt n : Int) (hn : 0 ≤ n) (hn2 : n ≤ 12) (hk : kind = 1 ∨ kind = 2 ∨ kind = 3) (hL : n < L) (w : World) :
    Calls Try.prog 14 #[.agg #[.slice A L c, .int .i64 kind, .int .i64 tt], .int .i64 n] w (GivesF 9 0 w) := by
  have d : decide (n < 0) = false := by simp; omega
  have d2 : decide (12 < n) = false := by simp; omega
  have d3 : decide (n < (L : Int)) = true := by simpa using hL
  rcases hk with rfl | rfl | rfl
  all_goals
    go_enter Try.func14, Try.ntmps14
    go_wp2
    refine bodyPost_ret (v := .agg #[.int .i64 9, .int .i64 0]) (by simp [results, Try.results14, go_sem]) rfl ⟨rfl, ?_⟩
    go_grown
set_option maxHeartbeats 2000000 in
theorem check_in (A : Option Addr) (xs : List Int) (L c : Nat) (kind tt n : Int) (hn : 0 ≤ n) (hn2 : n ≤ 12) (hk : kind = 1 ∨ kind = 2 ∨ kind = 3) (hxs : L = xs.length) (hL : ¬ n < L) (w : World) (h : Is w A xs) :
    Calls Try.prog 14 #[.agg #[.slice A L c, .int .i64 kind, .int .i64 tt], .int .i64 n] w (GivesF (inC tt xs) (inI tt xs) w) := by
  have d : decide (n < 0) = false := by simp; omega
  have d2 : decide (12 < n) = false := by simp; omega
  have d3 : decide (n < (L : Int)) = false := by simpa using hL
  have HX := Lib.hid h
  have HL := Lib.hid hxs
  have hL12 : L ≤ 12 := by omega
  clear h hxs hL
  rcases hk with rfl | rfl | rfl
  all_goals
    go_enter Try.func14, Try.ntmps14
    go_wp2
    go_loop [37] (fun k => ∃ i : Nat, i ≤ L ∧ k = .int .i64 i ∧ Hid (∀ j, j < i → inB (nth xs j) = true)) (fun k => L - (intOf k).toNat)
    case atStart => exact ⟨0, by omega, rfl, fun j hj => by omega⟩
    case round =>
      obtain ⟨i, hi, rfl, HI⟩ := hrel
      by_cases hlt : i < L
      · obtain ⟨b, o, rfl, hb, hc⟩ := HX.out (by rw [← HL.out]; omega)
        have cx := hc i (by rw [← HL.out]; exact hlt)
        have t1 : (0 : Int) ≤ i := by omega
        have t2 : (i : Int) < L := by omega
        have t3 : decide (i < L) = true := by simpa using hlt
        clear hc
        by_cases hin : inB (nth xs i) = true
        · have HIN := Lib.hid hin
          clear hin
          go_wp2_with fail
          refine (bounded_any _ _).mono ?_
          rintro e w1 ⟨rfl, rfl⟩
          rw [HIN.out]
          go_wp2
          go_round
          case rel => exact ⟨i + 1, by omega, by go_num, fun j hj => by
            rcases Nat.lt_or_ge j i with z | z
            · exact HI.out j z
            · obtain rfl : j = i := by omega
              exact HIN.out⟩
          case measure => simp [intOf]; omega
        · have HIN := Lib.hid (by simpa using hin : inB (nth xs i) = false)
          have hbad := badAt_here (by rw [← HL.out]; exact hlt) HI.out HIN.out
          have hE1 : inC tt xs = 3 := by unfold inC; rw [hbad, if_pos (by rw [← HL.out]; exact hlt)]
          have hE2 : inI tt xs = i := by unfold inI; rw [hbad, if_pos (by rw [← HL.out]; exact hlt)]
          have HE1 := Lib.hid hE1
          have HE2 := Lib.hid hE2
          clear hin hbad hE1 hE2
          go_wp2_with fail
          refine (bounded_any _ _).mono ?_
          rintro e w1 ⟨rfl, rfl⟩
          rw [HIN.out]
          go_wp2
          refine bodyPost_ret (v := .agg #[.int .i64 3, .int .i64 i]) (by simp [results, Try.results14, go_sem]) rfl ⟨by rw [HE1.out, HE2.out], ?_⟩
          go_grown
      · obtain rfl : i = L := by omega
        have hbad := badAt_none (xs := xs) (by rw [← HL.out]; exact HI.out)
        have hF1 : inC tt xs = if inB tt = true then 0 else 3 := by unfold inC; rw [hbad, if_neg (by omega)]
        have hF2 : inI tt xs = if inB tt = true then 0 else (xs.length : Int) := by unfold inI; rw [hbad, if_neg (by omega)]
        have t3 : decide (i < i) = false := by simp
        have HE := Lib.hid (show (xs.length : Int) = i by rw [HL.out])
        clear hbad hlt
        by_cases hin : inB tt = true
        · rw [if_pos hin] at hF1 hF2
          have HE1 := Lib.hid hF1
          have HE2 := Lib.hid hF2
          have HIN := Lib.hid hin
          clear hin hF1 hF2
          go_wp2_with fail
          refine (bounded_any _ _).mono ?_
          rintro e w1 ⟨rfl, rfl⟩
          rw [HIN.out]
          go_wp2
          refine bodyPost_ret (v := .agg #[.int .i64 0, .int .i64 0]) (by simp [results, Try.results14, go_sem]) rfl ⟨by rw [HE1.out, HE2.out], ?_⟩
          go_grown
        · rw [if_neg hin] at hF1 hF2
          rw [HE.out] at hF2
          have HE1 := Lib.hid hF1
          have HE2 := Lib.hid hF2
          have HIN := Lib.hid (by simpa using hin : inB tt = false)
          clear hin hF1 hF2
          go_wp2_with fail
          refine (bounded_any _ _).mono ?_
          rintro e w1 ⟨rfl, rfl⟩
          rw [HIN.out]
          go_wp2
          refine bodyPost_ret (v := .agg #[.int .i64 3, .int .i64 i]) (by simp [results, Try.results14, go_sem]) rfl ⟨by rw [HE1.out, HE2.out], ?_⟩
          go_grown
theorem check_any (A : Option Addr) (xs : List Int) (L c : Nat) (kind tt n : Int) (hxs : L = xs.length) (w : World) (h : Is w A xs) :
    Calls Try.prog 14 #[.agg #[.slice A L c, .int .i64 kind, .int .i64 tt], .int .i64 n] w (GivesF (chkC kind tt xs n) (chkI kind tt xs n) w) := by
  unfold chkC chkI
  by_cases h1 : n < 0 ∨ 12 < n
  · rw [if_pos h1, if_pos h1]; exact check_out A L c kind tt n h1 w
  · rw [if_neg h1, if_neg h1]
    by_cases h2 : kind = 1 ∨ kind = 2 ∨ kind = 3
    · rw [if_neg (show ¬ ¬ (kind = 1 ∨ kind = 2 ∨ kind = 3) from fun k => k h2), if_neg (show ¬ ¬ (kind = 1 ∨ kind = 2 ∨ kind = 3) from fun k => k h2)]
      by_cases h3 : n < xs.length
      · rw [if_pos h3, if_pos h3]; exact check_size A L c kind tt n (by omega) (by omega) h2 (by omega) w
      · rw [if_neg h3, if_neg h3]; exact check_in A xs L c kind tt n (by omega) (by omega) h2 hxs (by omega) w h
    · rw [if_pos h2, if_pos h2]; exact check_kind A L c kind tt n (by omega) (by omega) h2 w
end Go.Proofs.Ytkjollifghmkbaa
