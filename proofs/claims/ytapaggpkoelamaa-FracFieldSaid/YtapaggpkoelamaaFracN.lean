/-
  The mathematics of FracField: sums and products of fractions taken together, turned round and undone have one value, so one fraction in lowest terms.
-/
import Derived.Test.YtapaggpkoelamaaFracM
namespace Go.Proofs.Ytapaggpkoelamaa

theorem val_sum {an ad bn bd pn pd qn qd xn xd : Int} (a : an * pd = pn * ad) (b : bn * qd = qn * bd) (x : xn * (ad * bd) = (an * bd + bn * ad) * xd) (ha : 0 < ad) (hb : 0 < bd) : xn * (pd * qd) = (pn * qd + qn * pd) * xd := by
  refine (mul_eq_iff (Int.mul_pos ha hb)).1 ?_
  have e1 : xn * (pd * qd) * (ad * bd) = (an * pd) * (bd * qd) * xd + (bn * qd) * (ad * pd) * xd := by grind
  rw [e1, a, b]; grind
theorem val_mul {an ad bn bd pn pd qn qd xn xd : Int} (a : an * pd = pn * ad) (b : bn * qd = qn * bd) (x : xn * (ad * bd) = (an * bn) * xd) (ha : 0 < ad) (hb : 0 < bd) : xn * (pd * qd) = (pn * qn) * xd := by
  refine (mul_eq_iff (Int.mul_pos ha hb)).1 ?_
  have e1 : xn * (pd * qd) * (ad * bd) = (an * pd) * (bn * qd) * xd := by grind
  rw [e1, a, b]; grind
theorem one_of {xn xd yn yd pn pd qn qd : Int} (vx : fvalid xn xd = true) (vy : fvalid yn yd = true) (hx : xn * pd = pn * xd) (hy : yn * qd = qn * yd) (hp : 0 < pd) (hq : 0 < qd) (h : pn * qd = qn * pd) : xn = yn ∧ xd = yd :=
  unique vx vy ((eq_cross hx hy (fvalid_pos vx) (fvalid_pos vy) hp hq).2 h)
theorem pos_ne {a b : Int} (ha : 0 < a) (hb : 0 < b) : a * b ≠ 0 := by have := Int.mul_pos ha hb; omega

section
variable {an ad bn bd cn cd sn sd rn rd pn pd qn qd on od : Int}
theorem sums_one (a : 0 < ad) (b : 0 < bd) (c : 0 < cd) (s : sn * (ad * bd) = (an * bd + bn * ad) * sd) (r : rn * (bd * cd) = (bn * cd + cn * bd) * rd) (s0 : 0 < sd) (r0 : 0 < rd)
    (x : madeC (sn * cd + cn * sd) (sd * cd) = 0) (y : madeC (an * rd + rn * ad) (ad * rd) = 0) :
    madeN (sn * cd + cn * sd) (sd * cd) = madeN (an * rd + rn * ad) (ad * rd) ∧ madeD (sn * cd + cn * sd) (sd * cd) = madeD (an * rd + rn * ad) (ad * rd) := by
  obtain ⟨v1, m1⟩ := made_spec (pos_ne s0 c) x
  obtain ⟨v2, m2⟩ := made_spec (pos_ne a r0) y
  have k1 := val_sum (pn := an * bd + bn * ad) (pd := ad * bd) (qn := cn) (qd := cd) s rfl m1 s0 c
  have k2 := val_sum (pn := an) (pd := ad) (qn := bn * cd + cn * bd) (qd := bd * cd) rfl r m2 a r0
  exact one_of v1 v2 k1 k2 (Int.mul_pos (Int.mul_pos a b) c) (Int.mul_pos a (Int.mul_pos b c)) (by grind)
theorem prods_one (a : 0 < ad) (b : 0 < bd) (c : 0 < cd) (p : pn * (ad * bd) = (an * bn) * pd) (q : qn * (bd * cd) = (bn * cn) * qd) (p0 : 0 < pd) (q0 : 0 < qd)
    (x : madeC (pn * cn) (pd * cd) = 0) (y : madeC (an * qn) (ad * qd) = 0) :
    madeN (pn * cn) (pd * cd) = madeN (an * qn) (ad * qd) ∧ madeD (pn * cn) (pd * cd) = madeD (an * qn) (ad * qd) := by
  obtain ⟨v1, m1⟩ := made_spec (pos_ne p0 c) x
  obtain ⟨v2, m2⟩ := made_spec (pos_ne a q0) y
  have k1 := val_mul (pn := an * bn) (pd := ad * bd) (qn := cn) (qd := cd) p rfl m1 p0 c
  have k2 := val_mul (pn := an) (pd := ad) (qn := bn * cn) (qd := bd * cd) rfl q m2 a q0
  exact one_of v1 v2 k1 k2 (Int.mul_pos (Int.mul_pos a b) c) (Int.mul_pos a (Int.mul_pos b c)) (by grind)
theorem both_one (a : 0 < ad) (b : 0 < bd) (c : 0 < cd) (r : rn * (bd * cd) = (bn * cd + cn * bd) * rd) (p : pn * (ad * bd) = (an * bn) * pd) (o : on * (ad * cd) = (an * cn) * od) (r0 : 0 < rd) (p0 : 0 < pd) (o0 : 0 < od)
    (x : madeC (an * rn) (ad * rd) = 0) (y : madeC (pn * od + on * pd) (pd * od) = 0) :
    madeN (an * rn) (ad * rd) = madeN (pn * od + on * pd) (pd * od) ∧ madeD (an * rn) (ad * rd) = madeD (pn * od + on * pd) (pd * od) := by
  obtain ⟨v1, m1⟩ := made_spec (pos_ne a r0) x
  obtain ⟨v2, m2⟩ := made_spec (pos_ne p0 o0) y
  have k1 := val_mul (pn := an) (pd := ad) (qn := bn * cd + cn * bd) (qd := bd * cd) rfl r m1 a r0
  have k2 := val_sum (pn := an * bn) (pd := ad * bd) (qn := an * cn) (qd := ad * cd) p o m2 p0 o0
  exact one_of v1 v2 k1 k2 (Int.mul_pos a (Int.mul_pos b c)) (Int.mul_pos (Int.mul_pos a b) (Int.mul_pos a c)) (by grind)
theorem back_one (va : fvalid an ad = true) (b : 0 < bd) (s : sn * (ad * bd) = (an * bd + bn * ad) * sd) (s0 : 0 < sd) :
    madeN (sn * bd - bn * sd) (sd * bd) = an ∧ madeD (sn * bd - bn * sd) (sd * bd) = ad ∧ madeC (sn * bd - bn * sd) (sd * bd) = 0 :=
  made_of (pos_ne s0 b) va (by grind)
theorem over_one (va : fvalid an ad = true) (hb : bn ≠ 0) (p : pn * (ad * bd) = (an * bn) * pd) (p0 : 0 < pd) :
    madeN (pn * bd) (pd * bn) = an ∧ madeD (pn * bd) (pd * bn) = ad ∧ madeC (pn * bd) (pd * bn) = 0 :=
  made_of (by intro h; rcases Int.mul_eq_zero.1 h with h | h <;> omega) va (by grind)
theorem over_none : madeC (pn * bd) (pd * 0) = 6 ∧ madeN (pn * bd) (pd * 0) = 0 := by simp [madeC, madeN]
end
end Go.Proofs.Ytapaggpkoelamaa
