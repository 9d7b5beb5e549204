/-
  FracOrder holds: for every three fractions the law returns true, and its arguments read afterwards as before. No condition.
-/
import Derived.Test.YtapaggpkoelamaaFracO
import Derived.Test.YtapaggpkoelamaaFracM
import Derived.Test.YtapaggpkoelamaaFracFloors
namespace Go.Proofs.Ytapaggpkoelamaa
open Go.ChangeShapes Go.WideShapes Go.ChangeAt Go.RowKit Go.Joins

theorem order_any (an ad bn bd cn cd : Int) (w : World) :
    Calls Try.prog 6 #[.agg #[.int .i64 an, .int .i64 ad], .agg #[.int .i64 bn, .int .i64 bd], .agg #[.int .i64 cn, .int .i64 cd]] w fun e w' => e = .returned (.bool true) ∧ Below w.heap.size w w' := by
  obtain ⟨r2, c2, i2, hba⟩ := less_some bn bd an ad
  obtain ⟨r3, c3, i3, hbc⟩ := less_some bn bd cn cd
  obtain ⟨r4, c4, i4, hac⟩ := less_some an ad cn cd
  by_cases ha : fvalid an ad = true
  · by_cases hb : fvalid bn bd = true
    · by_cases hc : fvalid cn cd = true
      · have pa := fvalid_pos ha
        have pb := fvalid_pos hb
        have pc := fvalid_pos hc
        have dac : ad * cd ≠ 0 := by have := Int.mul_pos pa pc; omega
        have dbc : bd * cd ≠ 0 := by have := Int.mul_pos pb pc; omega
        refine order_good an ad bn bd cn cd _ _ _ _ _ _ _ _ _ _ _ _ (decide (an * bd < bn * ad)) (decide (bn * ad < an * bd)) (decide (bn * cd < cn * bd)) (decide (an * cd < cn * ad)) w
          (fun w => less_good an ad bn bd w ha hb) (fun w => less_good bn bd an ad w hb ha) (fun w => less_good bn bd cn cd w hb hc) (fun w => less_good an ad cn cd w ha hc) ?_ ?_ ?_
          (fun w => add_good an ad cn cd w ha hc) (fun w => add_good bn bd cn cd w hb hc) (fun z1 z2 w => ?_)
          (fun w => times_good an ad cn cd w ha hc) (fun w => times_good bn bd cn cd w hb hc) (fun z1 z2 z3 w => ?_)
        · intro h; rw [decide_eq_true_iff] at h; rw [decide_eq_false_iff_not]; omega
        · intro h1 h2
          rw [decide_eq_false_iff_not] at h1 h2
          exact unique ha hb (by omega)
        · intro h1 h2
          rw [decide_eq_true_iff] at h1 h2 ⊢
          exact lt_trans' pa pb pc h1 h2
        · obtain ⟨v1, m1⟩ := made_spec dac z1
          obtain ⟨v2, m2⟩ := made_spec dbc z2
          exact less_good' _ _ _ _ w _ (add_lt pa pb pc m1 m2 (fvalid_pos v1) (fvalid_pos v2)) v1 v2
        · obtain ⟨v1, m1⟩ := made_spec dac z1
          obtain ⟨v2, m2⟩ := made_spec dbc z2
          exact less_good' _ _ _ _ w _ (times_lt pa pb pc z3 m1 m2 (fvalid_pos v1) (fvalid_pos v2)) v1 v2
      · exact order_bad_b an ad bn bd cn cd _ _ _ _ _ w (fun w => less_good an ad bn bd w ha hb) (fun w => less_good bn bd an ad w hb ha) (fun w => less_bad1 bn bd cn cd w hb (by simpa using hc)) hac
    · exact order_bad_a an ad bn bd cn cd _ _ _ _ _ _ _ _ _ _ w (fun w => less_bad1 an ad bn bd w ha (by simpa using hb)) hba hbc hac
  · exact order_bad_a an ad bn bd cn cd _ _ _ _ _ _ _ _ _ _ w (fun w => less_bad0 an ad bn bd w (by simpa using ha)) hba hbc hac

set_option maxRecDepth 100000 in
theorem order_lifted (os : Os) (started : os.Started) (H : Type) (enc : TypeId × Value → H) :
    ReturnsInHanded {} Try.checked os 6 .any (Rows.fracOrderSpec.pre6 enc Try.prog Try.f6 Rows.fracOrderRow.domain false) (Rows.fracOrderSpec.post enc Try.prog Try.f6 false true false false) := by
  refine returnsInHanded_of_change (C := Try.checked) Try.own started (by kernel_rfl) Try.func6
    (ChangeSpec.witness6 (enc := enc) (C := Try.checked) false ⟨#[], #[.agg #[.int .i64 0, .int .i64 0], .agg #[.int .i64 0, .int .i64 0], .agg #[.int .i64 0, .int .i64 0]], []⟩ 8 (by kernel_rfl) (by kernel_rfl) (by kernel_rfl) (by kernel_rfl)) ?_
  intro W base args ds gs before hval0 hW hcnd _
  have hval : ∀ (j : Nat) t v, Try.f6.params[j]? = some t → args[j]? = some v → Value.okWide Try.prog W .any base t v := hval0
  have hW' := hW
  obtain ⟨p, q, hA0, hV, rfl, hfz, hnd⟩ := hW
  have hA : DataW.TrodAll enc Try.prog W 0 (fun _ => true) true Try.f6.params.toList args.toList ds p := hA0
  rw [Try.params6] at hA hval
  obtain ⟨v0, v1, v2, d0, d1, d2, p0, p1, p2, rfl, rfl, rfl, h0, h1, h2⟩ := trodAll_three hA
  obtain ⟨rfl, rfl⟩ := trodVars_none hV
  obtain ⟨c0, c1, y0, y1, k, rfl, rfl, rfl, hy0, hy1⟩ := open_agg2 Try.underlying23 (by kernel_rfl) Try.cells23 (hval 0 23 v0 rfl rfl) h0
  obtain ⟨an, e0, rfl, wan⟩ := DataW.trod_int Try.underlying3 hy0
  obtain ⟨ad, e1, rfl, wad⟩ := DataW.trod_int Try.underlying3 hy1
  simp at e0 e1
  subst e0 e1
  obtain ⟨c0, c1, y0, y1, k, rfl, rfl, rfl, hy0, hy1⟩ := open_agg2 Try.underlying23 (by kernel_rfl) Try.cells23 (hval 1 23 v1 rfl rfl) h1
  obtain ⟨bn, e0, rfl, wbn⟩ := DataW.trod_int Try.underlying3 hy0
  obtain ⟨bd, e1, rfl, wbd⟩ := DataW.trod_int Try.underlying3 hy1
  simp at e0 e1
  subst e0 e1
  obtain ⟨c0, c1, y0, y1, k, rfl, rfl, rfl, hy0, hy1⟩ := open_agg2 Try.underlying23 (by kernel_rfl) Try.cells23 (hval 2 23 v2 rfl rfl) h2
  obtain ⟨cn, e0, rfl, wcn⟩ := DataW.trod_int Try.underlying3 hy0
  obtain ⟨cd, e1, rfl, wcd⟩ := DataW.trod_int Try.underlying3 hy1
  simp at e0 e1
  subst e0 e1
  clear hA0 hval0
  simp only [List.append_nil] at hW'
  refine (order_any an ad bn bd cn cd W).mono fun e W' ⟨he, hw⟩ => ?_
  subst he
  exact ⟨_, rfl, _, _, _, [], [], [], hW', trodAll_mk1 (shut_bool Try.underlying4 _), trodAll_mk3 (shut_frac an ad wan wad) (shut_frac bn bd wbn wbd) (shut_frac cn cd wcn wcd), rfl, hw.frame _, fun h => by cases h⟩

theorem fracOrder_holds : Rows.FracOrderSaid :=
  OpenClaim.holds_of_wide 6 Try.f6 rfl rfl rfl rfl rfl rfl rfl ⟨rfl, rfl, rfl, rfl, rfl⟩ rfl rfl rfl rfl rfl (by kernel_rfl) Try.func6 (by kernel_rfl)
    (of_decide_eq_true (by kernel_rfl)) (by unfold Func.isWrapper; first | (rw [if_pos (by decide +kernel)]; kernel_rfl) | (rw [if_neg (by decide +kernel)]; exact ⟨rfl, rfl⟩))
    (fun os started H enc _ => order_lifted os started H enc)
end Go.Proofs.Ytapaggpkoelamaa
