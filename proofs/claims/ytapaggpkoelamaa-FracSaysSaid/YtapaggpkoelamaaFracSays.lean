/-
  FracSays holds: for every two fractions the law returns true, and its arguments read afterwards as before. No condition.
-/
import Derived.Test.YtapaggpkoelamaaFracS
import Derived.Test.YtapaggpkoelamaaFracFloors
namespace Go.Proofs.Ytapaggpkoelamaa
open Go.ChangeShapes Go.WideShapes Go.ChangeAt Go.RowKit Go.Joins

theorem sign_neg (v : Int) : decide (signI v < 0) = decide (v < 0) := by
  unfold signI signOf
  by_cases z : mag v = 0
  · have e : v = 0 := by unfold mag at z; omega
    subst e; rfl
  · rw [if_neg z]
    by_cases h : v < 0 <;> simp [h]
theorem red_neg (P Q : Int) (hQ : 0 < Q) : decide (redN P Q < 0) = decide (P < 0) := by
  unfold redN
  have e : decide (Q < 0) = false := by simp; omega
  rw [e]
  have gp : 0 < Nat.gcd (mag P) (mag Q) := Nat.gcd_pos_of_pos_right _ (by unfold mag; omega)
  by_cases h : P < 0
  · have m : 0 < mag P := by unfold mag; omega
    have gl : Nat.gcd (mag P) (mag Q) ≤ mag P := Nat.gcd_le_left _ m
    have n0 : mag P / Nat.gcd (mag P) (mag Q) ≠ 0 := by have := Nat.div_pos gl gp; omega
    generalize mag P / Nat.gcd (mag P) (mag Q) = N at n0 ⊢
    rw [qsign_some n0]
    simp [h, num]
    omega
  · generalize mag P / Nat.gcd (mag P) (mag Q) = N
    have q : qsign (decide (P < 0)) false N = false := by simp [qsign, h]
    rw [q]
    simp [h, num]
theorem two_op4_any (an ad bn bd : Int) (ha : fvalid an ad = true) (hb : fvalid bn bd = true) (w : World) :
    Calls Try.prog 14 #[.int .i64 4, .agg #[.int .i64 an, .int .i64 ad], .agg #[.int .i64 bn, .int .i64 bd]] w (Gives (madeN (an * bd) (ad * bn)) (madeD (an * bd) (ad * bn)) (madeC (an * bd) (ad * bn)) 0 w) := by
  by_cases nb : bn = 0
  · have k := two_op4_zero an ad bn bd ha hb nb w
    obtain ⟨e1, e2, e3⟩ := made_zero (an * bd)
    subst nb
    rw [Int.mul_zero, e1, e2, e3]
    exact k
  · exact two_op4 an ad bn bd ha hb nb w
theorem says_any (an ad bn bd : Int) (w : World) :
    Calls Try.prog 3 #[.agg #[.int .i64 an, .int .i64 ad], .agg #[.int .i64 bn, .int .i64 bd]] w fun e w' => e = .returned (.bool true) ∧ Below w.heap.size w w' := by
  by_cases ha : fvalid an ad = true
  · by_cases hb : fvalid bn bd = true
    · refine says_in an ad bn bd _ _ _ _ _ _ _ _ _ _ _ _ _ _ _ _ (an / ad) 0 0 0 0 0 (decide (an * bd < bn * ad)) true true w
        (fun w => add_good an ad bn bd w ha hb) (fun w => sub_good an ad bn bd w ha hb) (fun w => times_good an ad bn bd w ha hb) (fun w => over_good an ad bn bd w ha hb)
        (fun w => less_good an ad bn bd w ha hb) (fun w => floor_good an ad w ha)
        (fun w => two_op1 an ad bn bd ha hb w) (fun w => two_op2 an ad bn bd ha hb w) (fun w => two_op3 an ad bn bd ha hb w) (fun w => two_op4_any an ad bn bd ha hb w)
        (fun w => by rw [← ha]; exact right_any an ad w) (fun w => by rw [← hb]; exact right_any bn bd w) (fun w => check_yes an ad w ha)
        (fun h => by cases h) (fun _ => ⟨rfl, rfl, fun w => ffloor_any an ad ha w⟩) (fun _ h => by cases h) (fun _ _ => ⟨rfl, ha, hb, signI (redN (an * ((mag bd : Nat) : Int) + -bn * ((mag ad : Nat) : Int)) (((mag ad : Nat) : Int) * ((mag bd : Nat) : Int))), ?_, ?_⟩)
      · obtain ⟨a1, _⟩ := fvalid_bd ha
        obtain ⟨b1, _⟩ := fvalid_bd hb
        have ea : ((mag ad : Nat) : Int) = ad := by unfold mag; omega
        have eb : ((mag bd : Nat) : Int) = bd := by unfold mag; omega
        rw [ea, eb, sign_neg, red_neg _ _ (Int.mul_pos (by omega) (by omega)), Int.neg_mul]
        exact decide_eq_decide.2 (by omega)
      · intro w x y hx hy
        obtain ⟨a1, a2, a3, a4, _⟩ := fvalid_bd ha
        obtain ⟨b1, b2, b3, b4, gb⟩ := fvalid_bd hb
        exact rcmp_z x y (mag ad) (mag bd) an bn (by unfold mag; omega) (by unfold mag; omega) (by unfold mag; omega) (by unfold mag; omega) (by unfold mag; omega) (by unfold mag; omega) gb w hx hy
    · have hb' : fvalid bn bd = false := by simpa using hb
      exact says_in an ad bn bd _ _ _ _ _ _ _ _ _ _ _ _ _ _ _ _ (an / ad) 0 0 3 1 0 false true false w
        (fun w => add_bad1 an ad bn bd w ha hb') (fun w => sub_bad1 an ad bn bd w ha hb') (fun w => times_bad1 an ad bn bd w ha hb') (fun w => over_bad1 an ad bn bd w ha hb')
        (fun w => less_bad1 an ad bn bd w ha hb') (fun w => floor_good an ad w ha)
        (fun w => two_bad1 1 an ad bn bd ha hb' w) (fun w => two_bad1 2 an ad bn bd ha hb' w) (fun w => two_bad1 3 an ad bn bd ha hb' w) (fun w => two_bad1 4 an ad bn bd ha hb' w)
        (fun w => by rw [← ha]; exact right_any an ad w) (fun w => by rw [← hb']; exact right_any bn bd w) (fun w => check_yes an ad w ha)
        (fun h => by cases h) (fun _ => ⟨rfl, rfl, fun w => ffloor_any an ad ha w⟩) (fun _ _ => ⟨rfl, rfl, rfl⟩) (fun _ h => by cases h)
  · have ha' : fvalid an ad = false := by simpa using ha
    exact says_in an ad bn bd _ _ _ _ _ _ _ _ _ _ _ _ _ _ _ _ 0 3 0 3 0 3 false false (fvalid bn bd) w
      (fun w => add_bad0 an ad bn bd w ha') (fun w => sub_bad0 an ad bn bd w ha') (fun w => times_bad0 an ad bn bd w ha') (fun w => over_bad0 an ad bn bd w ha')
      (fun w => less_bad0 an ad bn bd w ha') (fun w => floor_bad an ad w ha')
      (fun w => two_bad0 1 an ad bn bd ha' w) (fun w => two_bad0 2 an ad bn bd ha' w) (fun w => two_bad0 3 an ad bn bd ha' w) (fun w => two_bad0 4 an ad bn bd ha' w)
      (fun w => by rw [← ha']; exact right_any an ad w) (fun w => right_any bn bd w) (fun w => check_no an ad w ha')
      (fun _ => ⟨rfl, rfl, rfl, rfl, rfl, rfl, rfl⟩) (fun h => by cases h) (fun h => by cases h) (fun h => by cases h)

set_option maxRecDepth 100000 in
theorem says_lifted (os : Os) (started : os.Started) (H : Type) (enc : TypeId × Value → H) :
    ReturnsInHanded {} Try.checked os 3 .any (Rows.fracSaysSpec.pre6 enc Try.prog Try.f3 Rows.fracSaysRow.domain false) (Rows.fracSaysSpec.post enc Try.prog Try.f3 false true false false) := by
  refine returnsInHanded_of_change (C := Try.checked) Try.own started (by kernel_rfl) Try.func3
    (ChangeSpec.witness6 (enc := enc) (C := Try.checked) false ⟨#[], #[.agg #[.int .i64 0, .int .i64 0], .agg #[.int .i64 0, .int .i64 0]], []⟩ 8 (by kernel_rfl) (by kernel_rfl) (by kernel_rfl) (by kernel_rfl)) ?_
  intro W base args ds gs before hval0 hW hcnd _
  have hval : ∀ (j : Nat) t v, Try.f3.params[j]? = some t → args[j]? = some v → Value.okWide Try.prog W .any base t v := hval0
  have hW' := hW
  obtain ⟨p, q, hA0, hV, rfl, hfz, hnd⟩ := hW
  have hA : DataW.TrodAll enc Try.prog W 0 (fun _ => true) true Try.f3.params.toList args.toList ds p := hA0
  rw [Try.params3] at hA hval
  obtain ⟨v0, v1, d0, d1, p0, p1, rfl, rfl, rfl, h0, h1⟩ := trodAll_two hA
  obtain ⟨rfl, rfl⟩ := trodVars_none hV
  obtain ⟨c0, c1, y0, y1, k, rfl, rfl, rfl, hy0, hy1⟩ := open_agg2 Try.underlying23 (by kernel_rfl) Try.cells23 (hval 0 23 v0 rfl rfl) h0
  obtain ⟨an, e0, rfl, wan⟩ := DataW.trod_int Try.underlying3 hy0
  obtain ⟨ad, e1, rfl, wad⟩ := DataW.trod_int Try.underlying3 hy1
  simp at e0 e1
  subst e0 e1
  obtain ⟨c0, c1, y0, y1, k, rfl, rfl, rfl, hy0, hy1⟩ := open_agg2 Try.underlying23 (by kernel_rfl) Try.cells23 (hval 1 23 v1 rfl rfl) h1
  obtain ⟨bn, e0, rfl, wbn⟩ := DataW.trod_int Try.underlying3 hy0
  obtain ⟨bd, e1, rfl, wbd⟩ := DataW.trod_int Try.underlying3 hy1
  simp at e0 e1
  subst e0 e1
  clear hA0 hval0
  simp only [List.append_nil] at hW'
  refine (says_any an ad bn bd W).mono fun e W' ⟨he, hw⟩ => ?_
  subst he
  exact ⟨_, rfl, _, _, _, [], [], [], hW', trodAll_mk1 (shut_bool Try.underlying4 _), trodAll_mk2 (shut_frac an ad wan wad) (shut_frac bn bd wbn wbd), rfl, hw.frame _, fun h => by cases h⟩

theorem fracSays_holds : Rows.FracSaysSaid :=
  OpenClaim.holds_of_wide 3 Try.f3 rfl rfl rfl rfl rfl rfl rfl ⟨rfl, rfl, rfl, rfl, rfl⟩ rfl rfl rfl rfl rfl (by kernel_rfl) Try.func3 (by kernel_rfl)
    (of_decide_eq_true (by kernel_rfl)) (by unfold Func.isWrapper; first | (rw [if_pos (by decide +kernel)]; kernel_rfl) | (rw [if_neg (by decide +kernel)]; exact ⟨rfl, rfl⟩))
    (fun os started H enc _ => says_lifted os started H enc)
end Go.Proofs.Ytapaggpkoelamaa
