/-
  The contracts of SameInts and SameRow of the document's answer.
-/
import Derived.Test.YtkjollifghmkbaaRowE
namespace Go.Proofs.Ytkjollifghmkbaa
open Go.RowKit

theorem list_same {xs ys : List Int} (hl : xs.length = ys.length) (h : ∀ j, j < xs.length → nth xs j = nth ys j) : xs = ys := by
  apply List.ext_getElem hl
  intro j h1 h2
  have := h j h1
  simpa [nth, List.getD, h1, h2] using this
set_option maxHeartbeats 2000000 in
theorem sameints_any (A A' : Option Addr) (xs ys : List Int) (L c L' c' : Nat) (hL : L = xs.length) (hL' : L' = ys.length) (hb : L ≤ 1073741824) (hb' : L' ≤ 1073741824) (w : World) (h : Is w A xs) (h' : Is w A' ys) :
    Calls Try.prog 49 #[.slice A L c, .slice A' L' c'] w fun e w' => e = .returned (.bool (decide (xs = ys))) ∧ ∃ n, w' = w.drewN n := by
  by_cases hne : L = L'
  · subst hne
    have HX := Lib.hid h
    have HY := Lib.hid h'
    have HL := Lib.hid hL
    have HL' := Lib.hid hL'
    clear h h' hL hL'
    have d1 : ((L : Int) != L) = false := by simp
    go_enter Try.func49, Try.ntmps49
    go_wp2
    go_loopw [5] (fun k wr => ∃ i n : Nat, i ≤ L ∧ k = .int .i64 i ∧ Hid (∀ j, j < i → nth xs j = nth ys j) ∧ wr = w.drewN n) (fun k _ => L - (intOf k).toNat)
    case atStart => exact ⟨0, 0, by omega, rfl, fun j hj => absurd hj (by omega), rfl⟩
    case round =>
      obtain ⟨i, n, hi, rfl, hs, rfl⟩ := hrel
      by_cases hlt : i < L
      · obtain ⟨b, o, rfl, _, hc⟩ := HX.out (by rw [← HL.out]; omega)
        obtain ⟨b', o', rfl, _, hc'⟩ := HY.out (by rw [← HL'.out]; omega)
        have cx := hc i (by rw [← HL.out]; exact hlt)
        have cy := hc' i (by rw [← HL'.out]; exact hlt)
        have t1 : (0 : Int) ≤ i := by omega
        have t2 : (i : Int) < L := by omega
        have t3 : decide (i < L) = true := by simpa using hlt
        clear hc hc'
        by_cases he : nth xs i = nth ys i
        · have hs' : Hid (∀ j, j < i + 1 → nth xs j = nth ys j) := by
            intro j hj
            rcases Nat.lt_or_ge j i with h1 | h1
            · exact hs.out j h1
            · obtain rfl : j = i := by omega
              exact he
          have d2 : (nth xs i != nth ys i) = false := by simpa using he
          clear he
          go_wp2
          go_quiet (fail)
          go_wp2
          go_roundw
          case rel => exact ⟨i + 1, _, by omega, by go_num, hs', rfl⟩
          case measure => simp [intOf]; omega
        · have d2 : (nth xs i != nth ys i) = true := by simpa using he
          have hd : decide (xs = ys) = false := by
            rw [decide_eq_false_iff_not]
            intro e
            exact he (by rw [e])
          have HD := Lib.hid hd
          clear he hd
          go_wp2
          go_quiet (fail)
          go_wp2
          go_ret
          exact ⟨ret_bool HD.out.symm, _, World.drewN_drewN _ _ _⟩
      · obtain rfl : i = L := by omega
        have t3 : decide (i < i) = false := by simp
        have hd : decide (xs = ys) = true := by
          rw [decide_eq_true_iff]
          exact list_same (by rw [← HL.out, ← HL'.out]) (fun j hj => hs.out j (by rw [HL.out]; exact hj))
        have HD := Lib.hid hd
        clear hd
        go_wp2
        go_ret
        exact ⟨ret_bool HD.out.symm, n, rfl⟩
  · have d1 : ((L : Int) != L') = true := by simp; omega
    have hd : decide (xs = ys) = false := by
      rw [decide_eq_false_iff_not]
      intro e
      subst e
      omega
    rw [hd]
    clear hd hne hL hL' h h'
    go_enter Try.func49, Try.ntmps49
    go_wp2
    go_ret
    exact ⟨rfl, 0, rfl⟩
/-- A row in hand. -/
def rowV (A : Option Addr) (L c : Nat) (kind tt : Int) : Value := .agg #[.slice A L c, .int .i64 kind, .int .i64 tt]
set_option maxHeartbeats 2000000 in
theorem samerow_any (A A' : Option Addr) (xs ys : List Int) (L c L' c' : Nat) (kind tt kind' tt' : Int) (hL : L = xs.length) (hL' : L' = ys.length) (hb : L ≤ 1073741824) (hb' : L' ≤ 1073741824) (w : World) (h : Is w A xs) (h' : Is w A' ys) :
    Calls Try.prog 22 #[.agg #[.slice A L c, .int .i64 kind, .int .i64 tt], .agg #[.slice A' L' c', .int .i64 kind', .int .i64 tt']] w fun e w' => e = .returned (.bool (decide (kind = kind') && decide (tt = tt') && decide (xs = ys))) ∧ Below w.heap.size w w' := by
  by_cases h1 : kind = kind'
  · subst h1
    have d1 : (kind == kind) = true := by simp
    by_cases h2 : tt = tt'
    · subst h2
      have d2 : (tt == tt) = true := by simp
      have HX := Lib.hid h
      have HY := Lib.hid h'
      have HL := Lib.hid hL
      have HL' := Lib.hid hL'
      clear h h' hL hL'
      go_enter Try.func22, Try.ntmps22
      go_wp2_with fail
      refine (sameints_any A A' xs ys L c L' c' HL.out HL'.out hb hb' _ (HX.out.below (by go_grown)) (HY.out.below (by go_grown))).mono ?_
      rintro e w1 ⟨rfl, n, rfl⟩
      go_wp2_with fail
      go_ret
      exact ⟨by simp, below_drewN (by go_grown) n⟩
    · have d2 : (tt == tt') = false := by simpa using h2
      have d3 : decide (tt = tt') = false := by simpa using h2
      rw [d3]
      clear h h' hL hL' h2 d3
      go_enter Try.func22, Try.ntmps22
      go_wp2_with fail
      go_ret
      exact ⟨by simp, by go_grown⟩
  · have d2 : (kind == kind') = false := by simpa using h1
    have d3 : decide (kind = kind') = false := by simpa using h1
    rw [d3]
    clear h h' hL hL' h1 d3
    go_enter Try.func22, Try.ntmps22
    go_wp2_with fail
    go_ret
    exact ⟨by simp, by go_grown⟩
end Go.Proofs.Ytkjollifghmkbaa
