/-
  The mathematics of RowSame: a row in its plainest form is a row, and holds where it held.
-/
import Derived.Test.YtkjollifghmkbaaRowV
namespace Go.Proofs.Ytkjollifghmkbaa
open Go.RowKit

theorem chk_of {kind tt n : Int} {xs : List Int} (hn : 0 ≤ n) (h12 : n ≤ 12) (hk : kind = 1 ∨ kind = 2 ∨ kind = 3) (hl : (xs.length : Int) ≤ n) (hx : ∀ j, j < xs.length → inB (nth xs j) = true) (ht : inB tt = true) : chkC kind tt xs n = 0 ∧ chkI kind tt xs n = 0 := by
  have hb := badAt_none hx
  unfold chkC chkI inC inI
  rw [if_neg (by omega), if_neg (by omega), if_neg (by omega), if_neg (by rw [hb]; omega), if_pos ht]
  rw [if_neg (by omega), if_neg (by omega), if_neg (by omega), if_neg (by rw [hb]; omega), if_pos ht]
  exact ⟨rfl, rfl⟩
theorem nth_upL (kind : Int) (ys : List Int) (j : Nat) : nth (upL kind ys) j = if kind = 3 ∧ upN ys = true then - nth ys j else nth ys j := by
  unfold upL
  split
  · exact nth_negL _ _
  · rfl
theorem inB_up {kind : Int} {ys : List Int} {j : Nat} (h : inB (nth ys j) = true) : inB (nth (upL kind ys) j) = true := by
  rw [nth_upL]
  split
  · rw [inB_neg]; exact h
  · exact h
theorem inB_upT {kind : Int} {ys : List Int} {t : Int} (h : inB t = true) : inB (upT kind ys t) = true := by
  unfold upT
  split
  · rw [inB_neg]; exact h
  · exact h
theorem inB_quot {xs : List Int} {g : Int} {j : Nat} (hj : j < rK xs) (h : inB (nth xs j) = true) : inB (nth (quotL xs g) j) = true := by
  rw [nth_quotL _ _ _ hj]
  obtain ⟨h1, h2⟩ := inB_iff.1 h
  exact inB_iff.2 (tdiv_bd' _ _ h1 h2)
theorem tidyL_len (kind tt : Int) (xs : List Int) : (tidyL kind tt xs).length = rK xs := by
  unfold tidyL
  split
  · rename_i h; rw [h]; rfl
  · rw [upL_len, quotL_len]
theorem inB_bareT (kind tt : Int) : inB (bareT kind tt) = true := by
  unfold bareT
  split
  · split <;> rfl
  · split
    · split <;> rfl
    · split <;> rfl
theorem tidy_chk {kind tt n : Int} {xs : List Int} (h : chkC kind tt xs n = 0) : chkC kind (tidyT kind tt xs) (tidyL kind tt xs) n = 0 ∧ chkI kind (tidyT kind tt xs) (tidyL kind tt xs) n = 0 := by
  obtain ⟨_, h1, h2, hk, hl, hb, ht⟩ := chk_zero h
  have hall := bad_all hb
  have kle := rK_le xs
  by_cases hz : rK xs = 0
  · have e1 : tidyL kind tt xs = [] := by unfold tidyL; rw [if_pos hz]
    have e2 : tidyT kind tt xs = bareT kind tt := by unfold tidyT; rw [if_pos hz]
    rw [e1, e2]
    exact chk_of h1 h2 hk (by simpa using h1) (fun j hj => absurd hj (by simp)) (inB_bareT kind tt)
  · rw [tidyL_pos kind tt hz, tidyT_pos kind tt hz]
    obtain ⟨t1, t2⟩ := inB_iff.1 ht
    refine chk_of h1 h2 hk (by rw [upL_len, quotL_len]; omega) (fun j hj => ?_) (inB_upT (inB_iff.2 (tdiv_bd' _ _ t1 t2)))
    rw [upL_len, quotL_len] at hj
    exact inB_up (inB_quot hj (hall j (by omega)))
theorem tidy_at {kind tt : Int} {xs : List Int} {ps : List (Int × Int)} (h : atC kind tt xs ps = 0) : atC kind (tidyT kind tt xs) (tidyL kind tt xs) ps = 0 ∧ atI kind (tidyT kind tt xs) (tidyL kind tt xs) ps = 0 := by
  obtain ⟨_, h1, h2⟩ := at_zero h
  obtain ⟨c1, c2⟩ := tidy_chk h1
  unfold atC atI
  rw [if_pos c1, if_pos c1]
  exact ⟨h2, (pt_zero h2).1⟩
theorem EN_nil (t : Int) (ps : List (Int × Int)) : EN t [] ps = -(dD ps ps.length * t) := by
  have : ∀ k, dS [] ps k = 0 := by
    intro k
    induction k with
    | zero => rfl
    | succ k ih => simp [dS, ih, nth]
  unfold EN
  rw [this]
  omega
theorem nth_out {xs : List Int} {j : Nat} (h : xs.length ≤ j) : nth xs j = 0 := by simp [nth, List.getD, List.getElem?_eq_none h]
theorem nth_past {xs : List Int} {j : Nat} (h : rK xs ≤ j) : nth xs j = 0 := by
  rcases Nat.lt_or_ge j xs.length with h1 | h1
  · exact trimK_zero xs xs.length j h h1
  · exact nth_out h1
theorem mul_signs {q z : Int} (q0 : 0 < q) : (q * z ≤ 0 ↔ z ≤ 0) ∧ (q * z < 0 ↔ z < 0) ∧ (q * z = 0 ↔ z = 0) := by
  refine ⟨⟨fun h => ?_, fun h => Int.mul_nonpos_of_nonneg_of_nonpos (Int.le_of_lt q0) h⟩, ⟨fun h => ?_, fun h => Int.mul_neg_of_pos_of_neg q0 h⟩, ?_⟩
  · rcases Int.lt_or_le 0 z with r | r
    · have := Int.mul_pos q0 r; omega
    · exact r
  · rcases Int.lt_or_le z 0 with r | r
    · exact r
    · have := Int.mul_nonneg (Int.le_of_lt q0) r; omega
  · rw [Int.mul_eq_zero]
    exact ⟨fun h => h.resolve_left (by omega), Or.inr⟩
/-- What a row's kind says of how its sum stands to its bound. -/
def kindV (kind z : Int) : Bool := if kind = 1 then decide (z ≤ 0) else if kind = 2 then decide (z < 0) else decide (z = 0)
theorem kindV_mul {kind q z : Int} (q0 : 0 < q) : kindV kind (q * z) = kindV kind z := by
  obtain ⟨h1, h2, h3⟩ := mul_signs (z := z) q0
  unfold kindV
  simp only [h1, h2, h3]
theorem kindV_neg {z : Int} : kindV 3 (-z) = kindV 3 z := by
  unfold kindV
  have : (-z = 0) ↔ (z = 0) := by omega
  simp [this]
theorem bare_holds {kind tt D : Int} (hk : kind = 1 ∨ kind = 2 ∨ kind = 3) (hD : 0 < D) : kindV kind (-(D * bareT kind tt)) = kindV kind (-(D * tt)) := by
  rw [← Int.mul_neg, ← Int.mul_neg, kindV_mul hD, kindV_mul hD]
  rcases hk with rfl | rfl | rfl
  · unfold kindV bareT
    simp only [if_true]
    split <;> simp <;> omega
  · unfold kindV bareT
    simp
    split <;> simp <;> omega
  · unfold kindV bareT
    simp
theorem EN_up {kind t : Int} {ys : List Int} {ps : List (Int × Int)} : kindV kind (EN (upT kind ys t) (upL kind ys) ps) = kindV kind (EN t ys ps) := by
  unfold upL upT
  by_cases h : kind = 3 ∧ upN ys = true
  · rw [if_pos h, if_pos h, EN_neg, h.1, kindV_neg]
  · rw [if_neg h, if_neg h]
theorem holds_tidy {kind tt : Int} {xs : List Int} {ps : List (Int × Int)} (h : atC kind tt xs ps = 0) : holdsV kind (tidyT kind tt xs) (tidyL kind tt xs) ps = holdsV kind tt xs ps := by
  obtain ⟨l1, _, l2⟩ := at_pos h
  obtain ⟨_, c1, _⟩ := at_zero h
  obtain ⟨_, _, _, hk, _⟩ := chk_zero c1
  have kle := rK_le xs
  have hD := dD_pos ps ps.length l2
  rw [holds_EN (by rw [tidyL_len]; omega) l2, holds_EN l1 l2]
  show kindV kind (EN _ _ ps) = kindV kind (EN tt xs ps)
  by_cases hz : rK xs = 0
  · have e1 : tidyL kind tt xs = [] := by unfold tidyL; rw [if_pos hz]
    have e2 : tidyT kind tt xs = bareT kind tt := by unfold tidyT; rw [if_pos hz]
    have e3 : EN tt xs ps = EN tt [] ps := by
      have := EN_mul (ps := ps) (xs := []) (zs := xs) (a := 1) (t1 := tt) (t := tt) (fun j _ => by rw [nth_past (by omega)]; rfl) (by omega)
      omega
    rw [e1, e2, e3, EN_nil, EN_nil]
    exact bare_holds hk hD
  · rw [tidyL_pos kind tt hz, tidyT_pos kind tt hz, EN_up]
    have g0 : (0 : Int) < tidyG tt xs := by have := tidyG_pos tt xs (by omega); omega
    have e : EN tt xs ps = (tidyG tt xs : Int) * EN (tt.tdiv (tidyG tt xs)) (quotL xs (tidyG tt xs)) ps := EN_mul (fun j _ => by
      rcases Nat.lt_or_ge j (rK xs) with h1 | h1
      · rw [nth_quotL _ _ _ h1]
        exact (Int.mul_tdiv_cancel' (tidyG_dvd tt xs j h1)).symm
      · rw [nth_past h1, nth_out (by rw [quotL_len]; exact h1)]
        omega) (Int.mul_tdiv_cancel' (tidyG_dvdt tt xs)).symm
    rw [e, kindV_mul g0]
end Go.Proofs.Ytkjollifghmkbaa
