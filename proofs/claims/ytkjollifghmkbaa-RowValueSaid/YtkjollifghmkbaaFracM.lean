/-
  The mathematics of fractions in lowest terms: one fraction a value; what Make returns is the value's fraction; sums and products with the order.
-/
import Derived.Test.YtkjollifghmkbaaFracE
namespace Go.Proofs.Ytkjollifghmkbaa

theorem mul_lt_iff {a b k : Int} (hk : 0 < k) : a * k < b * k ↔ a < b :=
  ⟨fun h => Int.lt_of_mul_lt_mul_right h (Int.le_of_lt hk), fun h => Int.mul_lt_mul_of_pos_right h hk⟩
theorem mul_eq_iff {a b k : Int} (hk : 0 < k) : a * k = b * k ↔ a = b :=
  ⟨fun h => Int.eq_of_mul_eq_mul_right (by omega) h, fun h => by rw [h]⟩
/-- Order and equality go by the value, not by the terms. -/
theorem lt_cross {xn xd yn yd pn pd qn qd : Int} (hx : xn * pd = pn * xd) (hy : yn * qd = qn * yd) (h1 : 0 < xd) (h2 : 0 < yd) (h3 : 0 < pd) (h4 : 0 < qd) : xn * yd < yn * xd ↔ pn * qd < qn * pd := by
  have e1 : (xn * yd) * (pd * qd) = (pn * qd) * (xd * yd) := by grind
  have e2 : (yn * xd) * (pd * qd) = (qn * pd) * (xd * yd) := by grind
  rw [← mul_lt_iff (Int.mul_pos h3 h4), e1, e2, mul_lt_iff (Int.mul_pos h1 h2)]
theorem eq_cross {xn xd yn yd pn pd qn qd : Int} (hx : xn * pd = pn * xd) (hy : yn * qd = qn * yd) (h1 : 0 < xd) (h2 : 0 < yd) (h3 : 0 < pd) (h4 : 0 < qd) : xn * yd = yn * xd ↔ pn * qd = qn * pd := by
  have e1 : (xn * yd) * (pd * qd) = (pn * qd) * (xd * yd) := by grind
  have e2 : (yn * xd) * (pd * qd) = (qn * pd) * (xd * yd) := by grind
  rw [← mul_eq_iff (Int.mul_pos h3 h4), e1, e2, mul_eq_iff (Int.mul_pos h1 h2)]

theorem nat_unique {a b c d : Nat} (h1 : Nat.gcd a b = 1) (h2 : Nat.gcd c d = 1) (hb : 0 < b) (h : a * d = c * b) : a = c ∧ b = d := by
  have k1 : b ∣ d := Nat.Coprime.dvd_of_dvd_mul_left (k := b) (m := a) (n := d) (by rw [Nat.Coprime, Nat.gcd_comm]; exact h1) ⟨c, by rw [h, Nat.mul_comm]⟩
  have k2 : d ∣ b := Nat.Coprime.dvd_of_dvd_mul_left (k := d) (m := c) (n := b) (by rw [Nat.Coprime, Nat.gcd_comm]; exact h2) ⟨a, by rw [← h, Nat.mul_comm]⟩
  have e : b = d := Nat.dvd_antisymm k1 k2
  subst e
  exact ⟨Nat.eq_of_mul_eq_mul_right hb h, rfl⟩
/-- A value has one fraction in lowest terms. -/
theorem unique {an ad bn bd : Int} (ha : fvalid an ad = true) (hb : fvalid bn bd = true) (h : an * bd = bn * ad) : an = bn ∧ ad = bd := by
  obtain ⟨a1, _, _, _, ga⟩ := fvalid_bd ha
  obtain ⟨b1, _, _, _, gb⟩ := fvalid_bd hb
  have hh : mag an * mag bd = mag bn * mag ad := by unfold mag; rw [← Int.natAbs_mul, ← Int.natAbs_mul, h]
  obtain ⟨e1, e2⟩ := nat_unique ga gb (by unfold mag; omega) hh
  have e3 : ad = bd := by unfold mag at e2; omega
  subst e3
  exact ⟨(mul_eq_iff (by omega)).1 h, rfl⟩

theorem gcd_pos' (num den : Int) (hd : den ≠ 0) : 0 < Nat.gcd (mag num) (mag den) := by
  apply Nat.pos_of_ne_zero; intro h; rw [Nat.gcd_eq_zero_iff] at h; unfold mag at h; omega
/-- The quotient's terms, without signs. -/
theorem terms (num den : Int) (hd : den ≠ 0) : ∃ x y g : Nat, x = mag num / Nat.gcd (mag num) (mag den) ∧ y = mag den / Nat.gcd (mag num) (mag den) ∧ mag num = x * g ∧ mag den = y * g ∧ 0 < g ∧ 0 < y ∧ Nat.gcd x y = 1 := by
  have hg := gcd_pos' num den hd
  refine ⟨_, _, Nat.gcd (mag num) (mag den), rfl, rfl, (Nat.div_mul_cancel (Nat.gcd_dvd_left _ _)).symm, (Nat.div_mul_cancel (Nat.gcd_dvd_right _ _)).symm, hg, Nat.div_pos (Nat.le_of_dvd (by unfold mag; omega) (Nat.gcd_dvd_right _ _)) hg, ?_⟩
  rw [Nat.gcd_div (Nat.gcd_dvd_left _ _) (Nat.gcd_dvd_right _ _)]
  exact Nat.div_self hg
/-- What Make returns, by the terms. -/
theorem made_terms {num den : Int} (hd : den ≠ 0) : ∃ x y g : Nat, mag num = x * g ∧ mag den = y * g ∧ 0 < g ∧ 0 < y ∧ Nat.gcd x y = 1 ∧
    ((1073741824 < x ∨ 1073741824 < y) ∧ madeN num den = 0 ∧ madeD num den = 0 ∧ madeC num den = 10 ∨
      x ≤ 1073741824 ∧ y ≤ 1073741824 ∧ madeN num den = (if (decide (num < 0) == decide (den < 0)) = true then (x : Int) else -x) ∧ madeD num den = y ∧ madeC num den = 0) := by
  obtain ⟨x, y, g, hx, hy, e1, e2, hg, hy0, hc⟩ := terms num den hd
  refine ⟨x, y, g, e1, e2, hg, hy0, hc, ?_⟩
  unfold madeN madeD madeC
  rw [if_neg hd, if_neg hd, if_neg hd, ← hx, ← hy]
  by_cases h : 1073741824 < x ∨ 1073741824 < y
  · exact .inl ⟨h, by rw [if_pos h], by rw [if_pos h], by rw [if_pos h]⟩
  · exact .inr ⟨by omega, by omega, by rw [if_neg h], by rw [if_neg h], by rw [if_neg h]⟩
/-- Of a quotient that fits, Make returns its fraction. -/
theorem made_spec {num den : Int} (hd : den ≠ 0) (hc : madeC num den = 0) : fvalid (madeN num den) (madeD num den) = true ∧ madeN num den * den = num * madeD num den := by
  obtain ⟨x, y, g, e1, e2, hg, hy, hcop, h | ⟨hx1, hy1, hN, hD, _⟩⟩ := made_terms hd (num := num)
  · omega
  · rw [hN, hD]
    by_cases hn : num < 0
    · have n1 : num = -((x : Int) * g) := by rw [← Int.natCast_mul, ← e1]; unfold mag; omega
      by_cases hd' : den < 0
      · have d1 : den = -((y : Int) * g) := by rw [← Int.natCast_mul, ← e2]; unfold mag; omega
        rw [if_pos (by simp [hn, hd'])]
        refine ⟨?_, by rw [n1, d1]; grind⟩
        unfold fvalid; rw [decide_eq_true_iff]; exact ⟨by omega, by omega, by omega, by omega, by simpa [mag] using hcop⟩
      · have d1 : den = (y : Int) * g := by rw [← Int.natCast_mul, ← e2]; unfold mag; omega
        rw [if_neg (by simp [hn, hd'])]
        refine ⟨?_, by rw [n1, d1]; grind⟩
        unfold fvalid; rw [decide_eq_true_iff]; exact ⟨by omega, by omega, by omega, by omega, by simpa [mag] using hcop⟩
    · have n1 : num = (x : Int) * g := by rw [← Int.natCast_mul, ← e1]; unfold mag; omega
      by_cases hd' : den < 0
      · have d1 : den = -((y : Int) * g) := by rw [← Int.natCast_mul, ← e2]; unfold mag; omega
        rw [if_neg (by simp [hn, hd'])]
        refine ⟨?_, by rw [n1, d1]; grind⟩
        unfold fvalid; rw [decide_eq_true_iff]; exact ⟨by omega, by omega, by omega, by omega, by simpa [mag] using hcop⟩
      · have d1 : den = (y : Int) * g := by rw [← Int.natCast_mul, ← e2]; unfold mag; omega
        rw [if_pos (by simp [hn, hd'])]
        refine ⟨?_, by rw [n1, d1]; grind⟩
        unfold fvalid; rw [decide_eq_true_iff]; exact ⟨by omega, by omega, by omega, by omega, by simpa [mag] using hcop⟩
/-- Of a quotient that is a fraction's value, Make returns that fraction. -/
theorem made_of {num den n d : Int} (hd : den ≠ 0) (hv : fvalid n d = true) (h : n * den = num * d) : madeN num den = n ∧ madeD num den = d ∧ madeC num den = 0 := by
  obtain ⟨a1, a2, a3, a4, ga⟩ := fvalid_bd hv
  have hC : madeC num den = 0 := by
    obtain ⟨x, y, g, e1, e2, hg, hy, hcop, ⟨h1, _⟩ | h1⟩ := made_terms hd (num := num)
    · have hh : mag n * (y * g) = x * g * mag d := by rw [← e1, ← e2]; unfold mag; rw [← Int.natAbs_mul, ← Int.natAbs_mul, h]
      have hh2 : mag n * y = x * mag d := Nat.eq_of_mul_eq_mul_right hg (by rw [Nat.mul_assoc, hh]; grind)
      obtain ⟨k1, k2⟩ := nat_unique ga hcop (by unfold mag; omega) hh2
      unfold mag at k1 k2; omega
    · exact h1.2.2.2.2
  obtain ⟨v, e⟩ := made_spec hd hC
  have hu : madeN num den * d = n * madeD num den := by
    have e3 : (madeN num den * d) * den = (n * madeD num den) * den := by grind
    exact Int.eq_of_mul_eq_mul_right hd e3
  obtain ⟨k1, k2⟩ := unique v hv hu
  exact ⟨k1, k2, hC⟩
theorem fvalid_pos {n d : Int} (h : fvalid n d = true) : 0 < d := by have := (fvalid_bd h).1; omega
theorem add_lt {an ad bn bd cn cd xn xd yn yd : Int} (a : 0 < ad) (b : 0 < bd) (c : 0 < cd) (hx : xn * (ad * cd) = (an * cd + cn * ad) * xd) (hy : yn * (bd * cd) = (bn * cd + cn * bd) * yd) (x : 0 < xd) (y : 0 < yd) :
    decide (xn * yd < yn * xd) = decide (an * bd < bn * ad) := by
  have h := lt_cross hx hy x y (Int.mul_pos a c) (Int.mul_pos b c)
  have e1 : (an * cd + cn * ad) * (bd * cd) = (an * bd) * (cd * cd) + cn * ad * (bd * cd) := by grind
  have e2 : (bn * cd + cn * bd) * (ad * cd) = (bn * ad) * (cd * cd) + cn * ad * (bd * cd) := by grind
  rw [e1, e2, Int.add_lt_add_iff_right, mul_lt_iff (Int.mul_pos c c)] at h
  exact decide_eq_decide.2 h
theorem times_lt {an ad bn bd cn cd xn xd yn yd : Int} (a : 0 < ad) (b : 0 < bd) (c : 0 < cd) (n : 0 < cn) (hx : xn * (ad * cd) = (an * cn) * xd) (hy : yn * (bd * cd) = (bn * cn) * yd) (x : 0 < xd) (y : 0 < yd) :
    decide (xn * yd < yn * xd) = decide (an * bd < bn * ad) := by
  have h := lt_cross hx hy x y (Int.mul_pos a c) (Int.mul_pos b c)
  have e1 : (an * cn) * (bd * cd) = (an * bd) * (cn * cd) := by grind
  have e2 : (bn * cn) * (ad * cd) = (bn * ad) * (cn * cd) := by grind
  rw [e1, e2, mul_lt_iff (Int.mul_pos n c)] at h
  exact decide_eq_decide.2 h
theorem lt_trans' {an ad bn bd cn cd : Int} (a : 0 < ad) (b : 0 < bd) (c : 0 < cd) (h1 : an * bd < bn * ad) (h2 : bn * cd < cn * bd) : an * cd < cn * ad := by
  have k1 := (mul_lt_iff c).2 h1
  have k2 := (mul_lt_iff a).2 h2
  have e1 : bn * ad * cd = bn * cd * ad := by grind
  have e2 : an * bd * cd = an * cd * bd := by grind
  have e3 : cn * bd * ad = cn * ad * bd := by grind
  exact (mul_lt_iff b).1 (by omega)
end Go.Proofs.Ytkjollifghmkbaa
