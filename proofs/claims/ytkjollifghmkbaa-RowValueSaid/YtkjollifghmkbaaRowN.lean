/-
  The mathematics of a row's sum at a point.
-/
import Derived.Test.YtkjollifghmkbaaRowH
import Derived.Test.YtkjollifghmkbaaRowM
namespace Go.Proofs.Ytkjollifghmkbaa
open Go.RowKit

/-- The product of the first denominators, and the sum of the first products times that. -/
def dD (ps : List (Int × Int)) : Nat → Int
  | 0 => 1
  | i + 1 => dD ps i * fden ps i
def dS (xs : List Int) (ps : List (Int × Int)) : Nat → Int
  | 0 => 0
  | i + 1 => dS xs ps i * fden ps i + dD ps i * (nth xs i * fnum ps i)
theorem mag_mul {c n : Int} : (mag c : Int) * (mag n : Int) = if (decide (c < 0) == decide (n < 0)) = true then c * n else -(c * n) := by
  have hc : (mag c : Int) = if c < 0 then -c else c := by unfold mag; split <;> omega
  have hn : (mag n : Int) = if n < 0 then -n else n := by unfold mag; split <;> omega
  rw [hc, hn]
  by_cases h1 : c < 0
  · by_cases h2 : n < 0
    · simp [h1, h2, Int.neg_mul_neg]
    · simp [h1, h2, Int.neg_mul]
  · by_cases h2 : n < 0
    · simp [h1, h2, Int.mul_neg]
    · simp [h1, h2]
theorem plusAB (a b u : Nat) (c n : Int) (d : Nat) : ((plusA a u c n d : Nat) : Int) - (plusB b u c n d : Nat) = ((a : Int) - b) * d + u * (c * n) := by
  have h := mag_mul (c := c) (n := n)
  unfold plusA plusB
  by_cases hb : (decide (c < 0) == decide (n < 0)) = true
  · simp only [if_pos hb] at h ⊢
    rw [← h]
    simp only [Int.natCast_add, Int.natCast_mul]
    grind
  · simp only [if_neg hb] at h ⊢
    have e : c * n = -((mag c : Int) * (mag n : Int)) := by omega
    rw [e]
    simp only [Int.natCast_add, Int.natCast_mul]
    grind
theorem sA_spec (xs : List Int) (ps : List (Int × Int)) (k : Nat) (h : ∀ i, i < k → 0 < fden ps i) : ((sA xs ps k).1 : Int) - ((sA xs ps k).2.1 : Nat) = dS xs ps k ∧ ((sA xs ps k).2.2 : Int) = dD ps k := by
  induction k with
  | zero => exact ⟨rfl, rfl⟩
  | succ k ih =>
    obtain ⟨h1, h2⟩ := ih fun i hi => h i (by omega)
    have hd : ((fden ps k).toNat : Int) = fden ps k := Int.toNat_of_nonneg (Int.le_of_lt (h k (by omega)))
    have e1 := plusAB (sA xs ps k).1 (sA xs ps k).2.1 (sA xs ps k).2.2 (nth xs k) (fnum ps k) (fden ps k).toNat
    rw [h1, h2, hd] at e1
    refine ⟨e1, ?_⟩
    show (((sA xs ps k).2.2 * (fden ps k).toNat : Nat) : Int) = dD ps k * fden ps k
    rw [Int.natCast_mul, h2, hd]
theorem dD_pos (ps : List (Int × Int)) (k : Nat) (h : ∀ i, i < k → 0 < fden ps i) : 0 < dD ps k := by
  induction k with
  | zero => exact Int.one_pos
  | succ k ih => exact Int.mul_pos (ih fun i hi => h i (by omega)) (h k (by omega))
theorem cmpN_lt (m n : Nat) : (cmpN m n < 0 ↔ (m : Int) - n < 0) ∧ (cmpN m n ≤ 0 ↔ (m : Int) - n ≤ 0) ∧ (cmpN m n = 0 ↔ (m : Int) - n = 0) := by
  unfold cmpN
  by_cases h1 : m < n
  · simp only [if_pos h1]; omega
  · by_cases h2 : n < m
    · simp only [if_neg h1, if_pos h2]; omega
    · obtain rfl : m = n := by omega
      simp
/-- How a row's sum stands to its bound, over all numbers of the point. -/
def EN (tt : Int) (xs : List Int) (ps : List (Int × Int)) : Int := dS xs ps ps.length - dD ps ps.length * tt
theorem dS_more (xs : List Int) (ps : List (Int × Int)) (tt : Int) (k : Nat) (hk : xs.length ≤ k) (h : ∀ i, i < k → 0 < fden ps i) :
    ∃ q, 0 < q ∧ dS xs ps k - dD ps k * tt = q * (dS xs ps xs.length - dD ps xs.length * tt) := by
  induction k with
  | zero =>
    have : xs.length = 0 := by omega
    rw [this]
    exact ⟨1, Int.one_pos, by rw [Int.one_mul]⟩
  | succ k ih =>
    rcases Nat.lt_or_ge k xs.length with hlt | hge
    · have : xs.length = k + 1 := by omega
      rw [this]
      exact ⟨1, Int.one_pos, by rw [Int.one_mul]⟩
    · obtain ⟨q, q0, hq⟩ := ih hge fun i hi => h i (by omega)
      have z : nth xs k = 0 := by simp [nth, List.getD, List.getElem?_eq_none hge]
      refine ⟨q * fden ps k, Int.mul_pos q0 (h k (by omega)), ?_⟩
      show dS xs ps k * fden ps k + dD ps k * (nth xs k * fnum ps k) - dD ps k * fden ps k * tt = _
      rw [z]
      grind
theorem holds_EN {kind tt : Int} {xs : List Int} {ps : List (Int × Int)} (hL : xs.length ≤ ps.length) (hd : ∀ i, i < ps.length → 0 < fden ps i) :
    holdsV kind tt xs ps = if kind = 1 then decide (EN tt xs ps ≤ 0) else if kind = 2 then decide (EN tt xs ps < 0) else decide (EN tt xs ps = 0) := by
  obtain ⟨s1, s2⟩ := sA_spec xs ps xs.length fun i hi => hd i (by omega)
  obtain ⟨q, q0, hq⟩ := dS_more xs ps tt ps.length hL hd
  have e := plusAB (sA xs ps xs.length).1 (sA xs ps xs.length).2.1 (sA xs ps xs.length).2.2 (-tt) 1 1
  rw [s1, s2] at e
  have e2 : dS xs ps xs.length * ((1 : Nat) : Int) + dD ps xs.length * (-tt * 1) = dS xs ps xs.length - dD ps xs.length * tt := by grind
  rw [e2] at e
  obtain ⟨c1, c2, c3⟩ := cmpN_lt (plusA (sA xs ps xs.length).1 (sA xs ps xs.length).2.2 (-tt) 1 1) (plusB (sA xs ps xs.length).2.1 (sA xs ps xs.length).2.2 (-tt) 1 1)
  rw [e] at c1 c2 c3
  unfold holdsV hcmp EN
  rw [hq]
  generalize dS xs ps xs.length - dD ps xs.length * tt = z at *
  have l1 : q * z ≤ 0 ↔ z ≤ 0 := ⟨fun h => by
      rcases Int.lt_or_le 0 z with r | r
      · have := Int.mul_pos q0 r; omega
      · exact r, fun h => Int.mul_nonpos_of_nonneg_of_nonpos (Int.le_of_lt q0) h⟩
  have l2 : q * z < 0 ↔ z < 0 := ⟨fun h => by
      rcases Int.lt_or_le z 0 with r | r
      · exact r
      · have := Int.mul_nonneg (Int.le_of_lt q0) r; omega, fun h => Int.mul_neg_of_pos_of_neg q0 h⟩
  have l3 : q * z = 0 ↔ z = 0 := by
    rw [Int.mul_eq_zero]
    exact ⟨fun h => h.resolve_left (by omega), Or.inr⟩
  simp only [l1, l2, l3, c1, c2]
  have c3' : (cmpN (plusA (sA xs ps xs.length).1 (sA xs ps xs.length).2.2 (-tt) 1 1) (plusB (sA xs ps xs.length).2.1 (sA xs ps xs.length).2.2 (-tt) 1 1) == 0) = decide (z = 0) := by
    rw [Bool.eq_iff_iff]
    simp only [beq_iff_eq, decide_eq_true_eq]
    exact c3
  rw [c3']
theorem EN_lin {ps : List (Int × Int)} {xs ys zs : List Int} {a b t1 t2 t : Int} (h : ∀ j, j < ps.length → nth zs j = a * nth xs j + b * nth ys j) (ht : t = a * t1 + b * t2) : EN t zs ps = a * EN t1 xs ps + b * EN t2 ys ps := by
  have : ∀ k, k ≤ ps.length → dS zs ps k = a * dS xs ps k + b * dS ys ps k := by
    intro k hk
    induction k with
    | zero => simp [dS]
    | succ k ih =>
      have := ih (by omega)
      have e := h k (by omega)
      simp only [dS]
      rw [this, e]
      grind
  unfold EN
  rw [this _ (Nat.le_refl _), ht]
  grind
theorem EN_mul {ps : List (Int × Int)} {xs zs : List Int} {a t1 t : Int} (h : ∀ j, j < ps.length → nth zs j = a * nth xs j) (ht : t = a * t1) : EN t zs ps = a * EN t1 xs ps := by
  have := EN_lin (ps := ps) (xs := xs) (ys := xs) (zs := zs) (a := a) (b := 0) (t1 := t1) (t2 := t1) (t := t) (fun j hj => by rw [h j hj]; grind) (by rw [ht]; grind)
  rw [this]; grind
theorem EN_neg (tt : Int) (xs : List Int) (ps : List (Int × Int)) : EN (-tt) (negL xs) ps = - EN tt xs ps := by
  have := EN_mul (ps := ps) (xs := xs) (zs := negL xs) (a := -1) (t1 := tt) (t := -tt) (fun j _ => by rw [nth_negL]; omega) (by omega)
  omega
theorem inB_neg (x : Int) : inB (-x) = inB x := by
  rw [Bool.eq_iff_iff, inB_iff, inB_iff]
  omega
theorem badAt_neg (xs : List Int) : badAt (negL xs) = badAt xs := by
  unfold badAt negL
  rw [List.findIdx_map]
  congr 1
  funext c
  simp [inB_neg]
theorem chk_not {kind tt n : Int} {xs : List Int} (hk : kind = 1 ∨ kind = 2) : chkC (3 - kind) (-tt) (negL xs) n = chkC kind tt xs n ∧ chkI (3 - kind) (-tt) (negL xs) n = chkI kind tt xs n := by
  have k1 : ¬ ¬ (kind = 1 ∨ kind = 2 ∨ kind = 3) := by omega
  have k2 : ¬ ¬ (3 - kind = 1 ∨ 3 - kind = 2 ∨ 3 - kind = 3) := by omega
  unfold chkC chkI inC inI
  simp only [if_neg k1, if_neg k2, negL_len, badAt_neg, inB_neg]
  exact ⟨trivial, trivial⟩
theorem negL_negL (xs : List Int) : negL (negL xs) = xs := by
  unfold negL
  rw [List.map_map]
  have : ((fun x : Int => -x) ∘ fun x => -x) = id := by funext x; simp
  rw [this, List.map_id]
end Go.Proofs.Ytkjollifghmkbaa
