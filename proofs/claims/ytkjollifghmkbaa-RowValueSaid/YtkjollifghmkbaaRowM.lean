/-
  The mathematics of a row's plainest form.
-/
import Derived.Test.YtkjollifghmkbaaRowK
import Derived.Test.YtkjollifghmkbaaRowL
namespace Go.Proofs.Ytkjollifghmkbaa
open Go.RowKit

theorem nth_negL (xs : List Int) (j : Nat) : nth (negL xs) j = - nth xs j := by
  unfold nth negL
  rw [List.getD_eq_getElem?_getD, List.getD_eq_getElem?_getD, List.getElem?_map]
  cases xs[j]? <;> simp
theorem nth_tdiv (xs : List Int) (d : Int) (j : Nat) : nth (xs.map (·.tdiv d)) j = (nth xs j).tdiv d := by
  unfold nth
  rw [List.getD_eq_getElem?_getD, List.getD_eq_getElem?_getD, List.getElem?_map]
  cases xs[j]? <;> simp
/-- Is a list's first number that is not 0 below 0? -/
def upN : List Int → Bool
  | [] => false
  | x :: xs => if 0 < x then false else if x < 0 then true else upN xs
theorem upN_neg (xs : List Int) (h : upN xs = true) : upN (negL xs) = false := by
  induction xs with
  | nil => rfl
  | cons x xs ih =>
    have e : negL (x :: xs) = -x :: negL xs := rfl
    rw [e]
    unfold upN at h ⊢
    by_cases h1 : 0 < x
    · rw [if_pos h1] at h; cases h
    · rw [if_neg h1] at h
      by_cases h2 : x < 0
      · rw [if_pos (by omega)]
      · rw [if_neg h2] at h
        rw [if_neg (by omega), if_neg (by omega)]
        exact ih h
theorem gcdK_dvd (xs : List Int) (i j : Nat) (h : j < i) : (gcdK xs i : Int) ∣ nth xs j := by
  induction i with
  | zero => omega
  | succ i ih =>
    unfold gcdK
    rcases Nat.lt_or_ge j i with h1 | h1
    · exact Int.dvd_trans (Int.gcd_dvd_left _ _) (ih h1)
    · obtain rfl : j = i := by omega
      exact Int.gcd_dvd_right _ _
theorem dvd_gcdK (xs : List Int) (i d : Nat) (h : ∀ j, j < i → (d : Int) ∣ nth xs j) : d ∣ gcdK xs i := by
  induction i with
  | zero => exact Nat.dvd_zero d
  | succ i ih =>
    unfold gcdK
    exact Int.dvd_gcd (Int.natCast_dvd_natCast.2 (ih fun j hj => h j (by omega))) (h i (by omega))
theorem gcdK_congr (xs ys : List Int) (i : Nat) (h : ∀ j, j < i → nth xs j = nth ys j) : gcdK xs i = gcdK ys i := by
  induction i with
  | zero => rfl
  | succ i ih => unfold gcdK; rw [ih fun j hj => h j (by omega), h i (by omega)]
theorem gcdK_neg (xs : List Int) (i : Nat) : gcdK (negL xs) i = gcdK xs i := by
  induction i with
  | zero => rfl
  | succ i ih => unfold gcdK; rw [ih, nth_negL, Int.gcd_neg]
theorem gcdK_mul (xs : List Int) (b : Int) (i : Nat) (hb : 0 ≤ b) : gcdK (xs.map (b * ·)) i = b.natAbs * gcdK xs i := by
  induction i with
  | zero => rfl
  | succ i ih =>
    have e : nth (xs.map (b * ·)) i = b * nth xs i := by
      unfold nth
      rw [List.getD_eq_getElem?_getD, List.getD_eq_getElem?_getD, List.getElem?_map]
      cases xs[i]? <;> simp
    have e2 : ((b.natAbs * gcdK xs i : Nat) : Int) = b * (gcdK xs i : Int) := by
      rw [Int.natCast_mul, Int.natAbs_of_nonneg hb]
    unfold gcdK
    rw [ih, e, e2, Int.gcd_mul_left]
theorem trimK_last (xs : List Int) (k : Nat) (h : 0 < trimK xs k) : nth xs (trimK xs k - 1) ≠ 0 := by
  induction k with
  | zero => exact absurd h (by simp [trimK])
  | succ k ih =>
    unfold trimK at h ⊢
    by_cases hz : nth xs k = 0
    · rw [if_pos hz] at h ⊢; exact ih h
    · rw [if_neg hz]; exact hz
theorem trimK_zero (xs : List Int) (k j : Nat) (h : trimK xs k ≤ j) (hj : j < k) : nth xs j = 0 := by
  induction k with
  | zero => omega
  | succ k ih =>
    unfold trimK at h
    by_cases hz : nth xs k = 0
    · rw [if_pos hz] at h
      rcases Nat.lt_or_ge j k with h1 | h1
      · exact ih h h1
      · obtain rfl : j = k := by omega
        exact hz
    · rw [if_neg hz] at h; omega
theorem trimK_full (xs : List Int) (k : Nat) (hk : 0 < k) (h : nth xs (k - 1) ≠ 0) : trimK xs k = k := by
  obtain ⟨j, rfl⟩ : ∃ j, k = j + 1 := ⟨k - 1, by omega⟩
  have : nth xs j ≠ 0 := by simpa using h
  rw [trimK, if_neg this]
theorem trimK_congr (xs ys : List Int) (k : Nat) (h : ∀ j, j < k → (nth xs j = 0 ↔ nth ys j = 0)) : trimK xs k = trimK ys k := by
  induction k with
  | zero => rfl
  | succ k ih =>
    have e := h k (by omega)
    unfold trimK
    by_cases hz : nth xs k = 0
    · rw [if_pos hz, if_pos (e.1 hz)]; exact ih fun j hj => h j (by omega)
    · rw [if_neg hz, if_neg (fun z => hz (e.2 z))]
/-- How many numbers of a row are left. -/
def rK (xs : List Int) : Nat := trimK xs xs.length
def quotL (xs : List Int) (g : Int) : List Int := (xs.take (rK xs)).map (·.tdiv g)
def upL (kind : Int) (ys : List Int) : List Int := if kind = 3 ∧ upN ys = true then negL ys else ys
def upT (kind : Int) (ys : List Int) (t : Int) : Int := if kind = 3 ∧ upN ys = true then -t else t
def tidyG (tt : Int) (xs : List Int) : Nat := Int.gcd (gcdK xs (rK xs)) tt
def tidyL (kind tt : Int) (xs : List Int) : List Int := if rK xs = 0 then [] else upL kind (quotL xs (tidyG tt xs))
def tidyT (kind tt : Int) (xs : List Int) : Int := if rK xs = 0 then bareT kind tt else upT kind (quotL xs (tidyG tt xs)) (tt.tdiv (tidyG tt xs))
theorem rK_le (xs : List Int) : rK xs ≤ xs.length := trimK_le _ _
theorem quotL_len (xs : List Int) (g : Int) : (quotL xs g).length = rK xs := by
  unfold quotL
  rw [List.length_map, List.length_take]
  have := rK_le xs
  omega
theorem upL_len (kind : Int) (ys : List Int) : (upL kind ys).length = ys.length := by
  unfold upL
  split
  · exact negL_len _
  · rfl
theorem nth_quotL (xs : List Int) (g : Int) (j : Nat) (h : j < rK xs) : nth (quotL xs g) j = (nth xs j).tdiv g := by
  unfold quotL
  rw [nth_tdiv, nth_take h]
theorem tidyG_pos (tt : Int) (xs : List Int) (h : 0 < rK xs) : 0 < tidyG tt xs := by
  rcases Nat.eq_zero_or_pos (tidyG tt xs) with e | e
  · exfalso
    have h1 : gcdK xs (rK xs) = 0 := by
      have := (Int.gcd_eq_zero_iff.1 e).1
      omega
    have h2 := gcdK_dvd xs (rK xs) (rK xs - 1) (by omega)
    rw [h1] at h2
    exact trimK_last xs xs.length h (Int.zero_dvd.1 h2)
  · exact e
theorem tidyG_dvd (tt : Int) (xs : List Int) (j : Nat) (h : j < rK xs) : (tidyG tt xs : Int) ∣ nth xs j := Int.dvd_trans (Int.gcd_dvd_left _ _) (gcdK_dvd xs _ j h)
theorem tidyG_dvdt (tt : Int) (xs : List Int) : (tidyG tt xs : Int) ∣ tt := Int.gcd_dvd_right _ _
theorem bareT_again (kind tt : Int) : bareT kind (bareT kind tt) = bareT kind tt := by
  unfold bareT
  by_cases h1 : kind = 1
  · simp only [if_pos h1]; split <;> simp_all
  · simp only [if_neg h1]
    by_cases h2 : kind = 2
    · simp only [if_pos h2]; split <;> simp_all
    · simp only [if_neg h2]; split <;> simp_all
theorem up_gcd (kind : Int) (ys : List Int) (t : Int) (k : Nat) : Int.gcd (gcdK (upL kind ys) k) (upT kind ys t) = Int.gcd (gcdK ys k) t := by
  unfold upL upT
  split
  · rw [gcdK_neg, Int.gcd_neg]
  · rfl
theorem up_not (kind : Int) (ys : List Int) : ¬ (kind = 3 ∧ upN (upL kind ys) = true) := by
  rintro ⟨h1, h2⟩
  unfold upL at h2
  by_cases h : upN ys = true
  · rw [if_pos ⟨h1, h⟩, upN_neg _ h] at h2; cases h2
  · rw [if_neg (fun z => h z.2)] at h2; exact h h2
theorem up_same (kind : Int) (ys : List Int) (t : Int) (h : ¬ (kind = 3 ∧ upN ys = true)) : upL kind ys = ys ∧ upT kind ys t = t := by
  unfold upL upT
  rw [if_neg h, if_neg h]
  exact ⟨rfl, rfl⟩
theorem nth_upL_zero (kind : Int) (ys : List Int) (j : Nat) : nth (upL kind ys) j = 0 ↔ nth ys j = 0 := by
  unfold upL
  split
  · rw [nth_negL]; omega
  · exact Iff.rfl
theorem quot_one (xs : List Int) (h : rK xs = xs.length) : quotL xs 1 = xs := by
  unfold quotL
  rw [h, List.take_length]
  have : (fun x : Int => x.tdiv 1) = id := by funext x; simp
  rw [this, List.map_id]
theorem quot_gcd (tt : Int) (xs : List Int) (h : 0 < rK xs) : Int.gcd (gcdK (quotL xs (tidyG tt xs)) (rK xs)) (tt.tdiv (tidyG tt xs)) = 1 := by
  have g0 := tidyG_pos tt xs h
  generalize hq : quotL xs (tidyG tt xs) = ys
  generalize ht : tt.tdiv (tidyG tt xs) = t
  have hys : ∀ j, j < rK xs → nth ys j * (tidyG tt xs : Int) = nth xs j := fun j hj => by
    rw [← hq, nth_quotL _ _ _ hj, Int.mul_comm]
    exact Int.mul_tdiv_cancel' (tidyG_dvd tt xs j hj)
  have htt : t * (tidyG tt xs : Int) = tt := by
    rw [← ht, Int.mul_comm]
    exact Int.mul_tdiv_cancel' (tidyG_dvdt tt xs)
  generalize hg : Int.gcd (gcdK ys (rK xs)) t = g'
  have d1 : ∀ j, j < rK xs → (g' : Int) ∣ nth ys j := fun j hj => by
    rw [← hg]
    exact Int.dvd_trans (Int.gcd_dvd_left _ _) (gcdK_dvd ys _ j hj)
  have d2 : (g' : Int) ∣ t := by rw [← hg]; exact Int.gcd_dvd_right _ _
  have d3 : g' * tidyG tt xs ∣ tidyG tt xs := by
    conv => rhs; unfold tidyG
    refine Int.dvd_gcd (Int.natCast_dvd_natCast.2 (dvd_gcdK _ _ _ fun j hj => ?_)) ?_
    · rw [Int.natCast_mul, ← hys j hj]
      exact Int.mul_dvd_mul_right _ (d1 j hj)
    · rw [Int.natCast_mul]
      conv => rhs; rw [← htt]
      exact Int.mul_dvd_mul_right _ d2
  have d4 := Nat.le_of_dvd g0 d3
  have d5 : g' ≤ 1 := by
    rcases Nat.lt_or_ge g' 2 with q | q
    · omega
    · have : 2 * tidyG tt xs ≤ g' * tidyG tt xs := Nat.mul_le_mul_right _ q
      omega
  have d6 : g' ≠ 0 := by
    intro e
    rw [e, Nat.zero_mul] at d3
    have := Nat.eq_zero_of_zero_dvd d3
    omega
  omega
theorem tidyL_pos (kind tt : Int) {xs : List Int} (h : rK xs ≠ 0) : tidyL kind tt xs = upL kind (quotL xs (tidyG tt xs)) := by unfold tidyL; rw [if_neg h]
theorem tidyT_pos (kind tt : Int) {xs : List Int} (h : rK xs ≠ 0) : tidyT kind tt xs = upT kind (quotL xs (tidyG tt xs)) (tt.tdiv (tidyG tt xs)) := by unfold tidyT; rw [if_neg h]
theorem tidy_again (kind tt : Int) (xs : List Int) : tidyL kind (tidyT kind tt xs) (tidyL kind tt xs) = tidyL kind tt xs ∧ tidyT kind (tidyT kind tt xs) (tidyL kind tt xs) = tidyT kind tt xs := by
  by_cases h : rK xs = 0
  · have e1 : tidyL kind tt xs = [] := by unfold tidyL; rw [if_pos h]
    have e2 : tidyT kind tt xs = bareT kind tt := by unfold tidyT; rw [if_pos h]
    have e3 : rK [] = 0 := rfl
    rw [e1, e2]
    unfold tidyL tidyT
    rw [if_pos e3, if_pos e3]
    exact ⟨rfl, bareT_again kind tt⟩
  · have hp : 0 < rK xs := by omega
    have e1 : tidyL kind tt xs = upL kind (quotL xs (tidyG tt xs)) := by unfold tidyL; rw [if_neg h]
    have e2 : tidyT kind tt xs = upT kind (quotL xs (tidyG tt xs)) (tt.tdiv (tidyG tt xs)) := by unfold tidyT; rw [if_neg h]
    have g0 := tidyG_pos tt xs hp
    have len : (tidyL kind tt xs).length = rK xs := by rw [e1, upL_len, quotL_len]
    have rk : rK (tidyL kind tt xs) = rK xs := by
      unfold rK at len ⊢
      rw [len]
      apply trimK_full _ _ (by exact hp)
      rw [e1]
      intro z
      rw [nth_upL_zero, nth_quotL _ _ _ (show trimK xs xs.length - 1 < rK xs by show _ < trimK xs xs.length; have : 0 < trimK xs xs.length := hp; omega)] at z
      have dv := tidyG_dvd tt xs (rK xs - 1) (by omega)
      have e := Int.mul_tdiv_cancel' dv
      unfold rK at e
      rw [z, Int.mul_zero] at e
      exact trimK_last xs xs.length hp e.symm
    have gg : tidyG (tidyT kind tt xs) (tidyL kind tt xs) = 1 := by
      unfold tidyG
      rw [rk, e1, e2, up_gcd]
      exact quot_gcd tt xs hp
    have q1 : quotL (tidyL kind tt xs) 1 = tidyL kind tt xs := quot_one _ (by rw [rk, len])
    have nn : ¬ (kind = 3 ∧ upN (tidyL kind tt xs) = true) := by rw [e1]; exact up_not _ _
    obtain ⟨s1, s2⟩ := up_same kind (tidyL kind tt xs) (tidyT kind tt xs) nn
    generalize tidyL kind tt xs = ys at rk gg q1 s1 s2
    generalize tidyT kind tt xs = t at gg s2
    rw [tidyL_pos _ _ (by rw [rk]; exact h), tidyT_pos _ _ (by rw [rk]; exact h), gg]
    show upL kind (quotL ys 1) = ys ∧ upT kind (quotL ys 1) (t.tdiv 1) = t
    rw [q1, Int.tdiv_one]
    exact ⟨s1, s2⟩
/-- A row multiplied by a number above 0 has the same plainest form. -/
theorem tidy_times (kind tt : Int) (xs : List Int) (b : Int) (hb : 0 < b) : tidyL kind (b * tt) (xs.map (b * ·)) = tidyL kind tt xs ∧ tidyT kind (b * tt) (xs.map (b * ·)) = tidyT kind tt xs := by
  have nb : ∀ j, nth (xs.map (b * ·)) j = b * nth xs j := fun j => by
    unfold nth
    rw [List.getD_eq_getElem?_getD, List.getD_eq_getElem?_getD, List.getElem?_map]
    cases xs[j]? <;> simp
  have rk : rK (xs.map (b * ·)) = rK xs := by
    unfold rK
    rw [List.length_map]
    refine trimK_congr _ _ _ fun j _ => ?_
    rw [nb, Int.mul_eq_zero]
    exact ⟨fun z => z.resolve_left (by omega), Or.inr⟩
  by_cases h : rK xs = 0
  · unfold tidyL tidyT
    rw [rk, if_pos h, if_pos h, if_pos h, if_pos h]
    refine ⟨rfl, ?_⟩
    unfold bareT
    have e1 : b * tt < 0 ↔ tt < 0 := ⟨fun z => by
      rcases Int.lt_or_le tt 0 with q | q
      · exact q
      · have := Int.mul_nonneg (Int.le_of_lt hb) q; omega, fun z => Int.mul_neg_of_pos_of_neg hb z⟩
    have e2 : 0 < b * tt ↔ 0 < tt := ⟨fun z => by
      rcases Int.lt_or_le 0 tt with q | q
      · exact q
      · have := Int.mul_nonneg (Int.le_of_lt hb) (show 0 ≤ -tt by omega)
        rw [Int.mul_neg] at this
        omega, fun z => Int.mul_pos hb z⟩
    have e3 : b * tt = 0 ↔ tt = 0 := by
      rw [Int.mul_eq_zero]
      exact ⟨fun z => z.resolve_left (by omega), Or.inr⟩
    simp only [e1, e2, e3]
  · rw [tidyL_pos _ _ (by rw [rk]; exact h), tidyT_pos _ _ (by rw [rk]; exact h), tidyL_pos _ _ h, tidyT_pos _ _ h]
    have g0 := tidyG_pos tt xs (by omega)
    have gg : (tidyG (b * tt) (xs.map (b * ·)) : Int) = b * (tidyG tt xs : Int) := by
      have e2 : ((b.natAbs * gcdK xs (rK xs) : Nat) : Int) = b * (gcdK xs (rK xs) : Int) := by
        rw [Int.natCast_mul, Int.natAbs_of_nonneg (Int.le_of_lt hb)]
      unfold tidyG
      rw [rk, gcdK_mul _ _ _ (Int.le_of_lt hb), e2, Int.gcd_mul_left, Int.natCast_mul, Int.natAbs_of_nonneg (Int.le_of_lt hb)]
    have qq : quotL (xs.map (b * ·)) (tidyG (b * tt) (xs.map (b * ·))) = quotL xs (tidyG tt xs) := by
      rw [gg]
      unfold quotL
      rw [rk, ← List.map_take, List.map_map]
      refine List.map_congr_left fun x _ => ?_
      show (b * x).tdiv (b * _) = _
      exact Int.mul_tdiv_mul_of_pos _ _ hb
    rw [qq, gg, Int.mul_tdiv_mul_of_pos _ _ hb]
    exact ⟨rfl, rfl⟩
end Go.Proofs.Ytkjollifghmkbaa
