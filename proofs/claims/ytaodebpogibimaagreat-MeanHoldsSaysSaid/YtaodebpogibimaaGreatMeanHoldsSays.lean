/-
  MeanHoldsSays holds: for every ask and world the law returns true, and its arguments read afterwards as before. No condition.
-/
import Derived.Test.YtaodebpogibimaaGreatG13
namespace Go.Proofs.YtaodebpogibimaaGreat
open Go.ChangeShapes Go.WideShapes Go.ChangeAt Go.RowKit Go.Joins

set_option maxRecDepth 100000 in
theorem meanHoldsSays_contract (H : Type) (enc : TypeId × Value → H) (W : World) (base : Nat) (args : Array Value) (ds gs : List (DataW H)) (before : List MemPlace)
    (hval : ∀ (j : Nat) t v, Tryz.f4.params[j]? = some t → args[j]? = some v → Value.okWide Tryz.prog W .any base t v)
    (hW : DataW.Whole enc Tryz.prog Tryz.f4.params.toList Rows.meanHoldsSaysSpec.vars false W args.toList ds gs before) :
    Calls Tryz.prog 4 args W fun e W' => ∃ v, e = .returned v ∧ Rows.meanHoldsSaysSpec.post enc Tryz.prog Tryz.f4 false true false false W args v W' := by
  have hW' := hW
  obtain ⟨p, q, hA0, hV, rfl, hfz, hnd⟩ := hW
  have hA : DataW.TrodAll enc Tryz.prog W 0 (fun _ => true) true Tryz.f4.params.toList args.toList ds p := hA0
  rw [Tryz.params4] at hA hval
  obtain ⟨v0, v1, d0, d1, p0, p1, rfl, rfl, rfl, h0, h1⟩ := trodAll_two hA
  obtain ⟨rfl, rfl⟩ := trodVars_none hV
  have k0 := h0
  obtain ⟨Ad_0, An_0, Ah_0, dc_0, nc_0, hc_0, qs_0, ns_0, hs_0, rfl, hd1_0, hd2_0, hn1_0, hn2_0, hh1_0, hh2_0, atd_0, atn_0, ath_0⟩ := open_ask (hval 0 26 v0 rfl rfl) h0
  have k1 := h1
  obtain ⟨Am_1, mc_1, ms_1, rfl, hm1_1, hm2_1, atm_1, wf_1⟩ := open_world (hval 1 29 v1 rfl rfl) h1
  clear hA0
  have hlt0 : ∀ x ∈ p0, x.block < W.heap.size := fun x hx => by simpa using hW'.lt x (by simp [hx])
  have hlt1 : ∀ x ∈ p1, x.block < W.heap.size := fun x hx => by simpa using hW'.lt x (by simp [hx])
  simp only [List.append_nil] at hW'
  refine (holdssays_any qs_0 ns_0 hs_0 ms_1 Ad_0 An_0 Ah_0 Am_1 dc_0 nc_0 hc_0 mc_1 W ⟨hd1_0, hd2_0, hn1_0, hn2_0, Nat.le_trans hh1_0 hh2_0, trivial, hm1_1, hm2_1, atd_0, atn_0, ath_0, atm_1, wf_1⟩).mono fun e W' ⟨he, hw⟩ => ?_
  subst he
  exact ⟨_, rfl, _, _, _, [], _, [], hW', trodAll_mk1 (shut_bool Tryz.underlying4 _), trodAll_mk2 (Below.trod Tryz.laidOut (by kernel_rfl) (of_decide_eq_true (by kernel_rfl)) k0 hw hlt0) (Below.trod Tryz.laidOut (by kernel_rfl) (of_decide_eq_true (by kernel_rfl)) k1 hw hlt1), rfl, hw.frame _, fun h => by cases h⟩
set_option maxRecDepth 100000 in
theorem meanHoldsSays_lifted (os : Os) (started : os.Started) (H : Type) (enc : TypeId × Value → H) :
    ReturnsInHanded {} Tryz.checked os 4 .any (Rows.meanHoldsSaysSpec.pre6 enc Tryz.prog Tryz.f4 Rows.meanHoldsSaysRow.domain false) (Rows.meanHoldsSaysSpec.post enc Tryz.prog Tryz.f4 false true false false) := by
  refine returnsInHanded_of_change (C := Tryz.checked) Tryz.own started (by kernel_rfl) Tryz.func4
    (ChangeSpec.witness6 (enc := enc) (C := Tryz.checked) false ⟨#[], #[.agg #[.slice none 0 0, .slice none 0 0, .slice none 0 0], .agg #[.slice none 0 0]], []⟩ 8 (by kernel_rfl) (by kernel_rfl) (by kernel_rfl) (by kernel_rfl)) ?_
  intro W base args ds gs before hval hW _ _
  exact meanHoldsSays_contract H enc W base args ds gs before hval hW

theorem meanHoldsSays_holds : Rows.MeanHoldsSaysSaid :=
  OpenClaim.holds_of_wide 4 Tryz.f4 rfl rfl rfl rfl rfl rfl rfl ⟨rfl, rfl, rfl, rfl, rfl⟩ rfl rfl rfl rfl rfl (by kernel_rfl) Tryz.func4 (by kernel_rfl)
    (of_decide_eq_true (by kernel_rfl)) (by unfold Func.isWrapper; first | (rw [if_pos (by decide +kernel)]; kernel_rfl) | (rw [if_neg (by decide +kernel)]; exact ⟨rfl, rfl⟩))
    (fun os started H enc _ => meanHoldsSays_lifted os started H enc)
end Go.Proofs.YtaodebpogibimaaGreat
