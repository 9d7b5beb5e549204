/-
  FracField holds: for every three fractions the law returns true, and its arguments read afterwards as before. No condition.
-/
import Derived.Test.YtapaggpkoelamaaFracQ
import Derived.Test.YtapaggpkoelamaaFracN
import Derived.Test.YtapaggpkoelamaaFracFloors
namespace Go.Proofs.Ytapaggpkoelamaa
open Go.ChangeShapes Go.WideShapes Go.ChangeAt Go.RowKit Go.Joins

theorem add_some (an ad bn bd : Int) : ∃ n d c i : Int, (∀ w, Calls Try.prog 8 #[.agg #[.int .i64 an, .int .i64 ad], .agg #[.int .i64 bn, .int .i64 bd]] w (Gives n d c i w)) ∧ ((fvalid an ad = true ∧ fvalid bn bd = true) ∨ c ≠ 0) := by
  by_cases ha : fvalid an ad = true
  · by_cases hb : fvalid bn bd = true
    · exact ⟨_, _, _, _, fun w => add_good an ad bn bd w ha hb, .inl ⟨ha, hb⟩⟩
    · exact ⟨_, _, _, _, fun w => add_bad1 an ad bn bd w ha (by simpa using hb), .inr (by omega)⟩
  · exact ⟨_, _, _, _, fun w => add_bad0 an ad bn bd w (by simpa using ha), .inr (by omega)⟩
theorem times_some (an ad bn bd : Int) : ∃ n d c i : Int, (∀ w, Calls Try.prog 10 #[.agg #[.int .i64 an, .int .i64 ad], .agg #[.int .i64 bn, .int .i64 bd]] w (Gives n d c i w)) := by
  by_cases ha : fvalid an ad = true
  · by_cases hb : fvalid bn bd = true
    · exact ⟨_, _, _, _, fun w => times_good an ad bn bd w ha hb⟩
    · exact ⟨_, _, _, _, fun w => times_bad1 an ad bn bd w ha (by simpa using hb)⟩
  · exact ⟨_, _, _, _, fun w => times_bad0 an ad bn bd w (by simpa using ha)⟩
theorem add_turn (an ad bn bd : Int) (ha : fvalid an ad = true) (hb : fvalid bn bd = true) (w : World) :
    Calls Try.prog 8 #[.agg #[.int .i64 bn, .int .i64 bd], .agg #[.int .i64 an, .int .i64 ad]] w (Gives (madeN (an * bd + bn * ad) (ad * bd)) (madeD (an * bd + bn * ad) (ad * bd)) (madeC (an * bd + bn * ad) (ad * bd)) 0 w) := by
  have h := add_good bn bd an ad w hb ha
  rwa [Int.add_comm (bn * ad), Int.mul_comm bd ad] at h
theorem times_turn (an ad bn bd : Int) (ha : fvalid an ad = true) (hb : fvalid bn bd = true) (w : World) :
    Calls Try.prog 10 #[.agg #[.int .i64 bn, .int .i64 bd], .agg #[.int .i64 an, .int .i64 ad]] w (Gives (madeN (an * bn) (ad * bd)) (madeD (an * bn) (ad * bd)) (madeC (an * bn) (ad * bd)) 0 w) := by
  have h := times_good bn bd an ad w hb ha
  rwa [Int.mul_comm bn an, Int.mul_comm bd ad] at h
theorem add_two (an ad bn bd : Int) : ∃ n d c i c' i' : Int, (∀ w, Calls Try.prog 8 #[.agg #[.int .i64 an, .int .i64 ad], .agg #[.int .i64 bn, .int .i64 bd]] w (Gives n d c i w)) ∧
    (∀ w, Calls Try.prog 8 #[.agg #[.int .i64 bn, .int .i64 bd], .agg #[.int .i64 an, .int .i64 ad]] w (Gives n d c' i' w)) ∧ ((fvalid an ad = true ∧ fvalid bn bd = true) ∨ c ≠ 0) := by
  by_cases ha : fvalid an ad = true
  · by_cases hb : fvalid bn bd = true
    · exact ⟨_, _, _, _, _, _, fun w => add_good an ad bn bd w ha hb, fun w => add_turn an ad bn bd ha hb w, .inl ⟨ha, hb⟩⟩
    · exact ⟨_, _, _, _, _, _, fun w => add_bad1 an ad bn bd w ha (by simpa using hb), fun w => add_bad0 bn bd an ad w (by simpa using hb), .inr (by omega)⟩
  · by_cases hb : fvalid bn bd = true
    · exact ⟨_, _, _, _, _, _, fun w => add_bad0 an ad bn bd w (by simpa using ha), fun w => add_bad1 bn bd an ad w hb (by simpa using ha), .inr (by omega)⟩
    · exact ⟨_, _, _, _, _, _, fun w => add_bad0 an ad bn bd w (by simpa using ha), fun w => add_bad0 bn bd an ad w (by simpa using hb), .inr (by omega)⟩
theorem times_two (an ad bn bd : Int) : ∃ n d c i c' i' : Int, (∀ w, Calls Try.prog 10 #[.agg #[.int .i64 an, .int .i64 ad], .agg #[.int .i64 bn, .int .i64 bd]] w (Gives n d c i w)) ∧
    (∀ w, Calls Try.prog 10 #[.agg #[.int .i64 bn, .int .i64 bd], .agg #[.int .i64 an, .int .i64 ad]] w (Gives n d c' i' w)) := by
  by_cases ha : fvalid an ad = true
  · by_cases hb : fvalid bn bd = true
    · exact ⟨_, _, _, _, _, _, fun w => times_good an ad bn bd w ha hb, fun w => times_turn an ad bn bd ha hb w⟩
    · exact ⟨_, _, _, _, _, _, fun w => times_bad1 an ad bn bd w ha (by simpa using hb), fun w => times_bad0 bn bd an ad w (by simpa using hb)⟩
  · by_cases hb : fvalid bn bd = true
    · exact ⟨_, _, _, _, _, _, fun w => times_bad0 an ad bn bd w (by simpa using ha), fun w => times_bad1 bn bd an ad w hb (by simpa using ha)⟩
    · exact ⟨_, _, _, _, _, _, fun w => times_bad0 an ad bn bd w (by simpa using ha), fun w => times_bad0 bn bd an ad w (by simpa using hb)⟩

theorem field_any (an ad bn bd cn cd : Int) (w : World) :
    Calls Try.prog 5 #[.agg #[.int .i64 an, .int .i64 ad], .agg #[.int .i64 bn, .int .i64 bd], .agg #[.int .i64 cn, .int .i64 cd]] w fun e w' => e = .returned (.bool true) ∧ Below w.heap.size w w' := by
  by_cases hv : fvalid an ad = true ∧ fvalid bn bd = true ∧ fvalid cn cd = true
  · obtain ⟨ha, hb, hc⟩ := hv
    have a := fvalid_pos ha
    have b := fvalid_pos hb
    have c := fvalid_pos hc
    by_cases hz : madeC (an * bd + bn * ad) (ad * bd) = 0 ∧ madeC (an * bd + bn * ad) (ad * bd) = 0 ∧ madeC (bn * cd + cn * bd) (bd * cd) = 0 ∧ madeC (an * bn) (ad * bd) = 0 ∧ madeC (an * bn) (ad * bd) = 0 ∧ madeC (bn * cn) (bd * cd) = 0 ∧ madeC (an * cn) (ad * cd) = 0
    · obtain ⟨z1, _, z3, z4, _, z6, z7⟩ := hz
      obtain ⟨vs, ms⟩ := made_spec (pos_ne a b) z1
      obtain ⟨vr, mr⟩ := made_spec (pos_ne b c) z3
      obtain ⟨vp, mp⟩ := made_spec (pos_ne a b) z4
      obtain ⟨vq, mq⟩ := made_spec (pos_ne b c) z6
      obtain ⟨vo, mo⟩ := made_spec (pos_ne a c) z7
      have ps := fvalid_pos vs
      have pr := fvalid_pos vr
      have pp := fvalid_pos vp
      have pq := fvalid_pos vq
      have po := fvalid_pos vo
      have h1 := fun w => add_good an ad bn bd w ha hb
      have h2 := fun w => add_turn an ad bn bd ha hb w
      have h3 := fun w => add_good bn bd cn cd w hb hc
      have h4 := fun w => times_good an ad bn bd w ha hb
      have h5 := fun w => times_turn an ad bn bd ha hb w
      have h6 := fun w => times_good bn bd cn cd w hb hc
      have h7 := fun w => times_good an ad cn cd w ha hc
      rw [z1] at h1 h2
      rw [z3] at h3
      rw [z4] at h4 h5
      rw [z6] at h6
      rw [z7] at h7
      obtain ⟨b1, b2, b3⟩ := back_one ha b ms ps
      have h8 := fun w => sub_good _ _ bn bd w vs hb
      rw [b1, b2, b3] at h8
      have h9 := fun w => over_good _ _ bn bd w vp hb
      refine field_good an ad bn bd cn cd _ _ _ _ _ _ _ _ _ _ _ _ _ _ _ _ _ _ _ _ _ _ _ _ _ _ _ _ _ _ _ w h1 h2 h3 h4 h5 h6 h7
        (fun w => add_good _ _ cn cd w vs hc) (fun w => add_good an ad _ _ w ha vr) (fun w => times_good _ _ cn cd w vp hc) (fun w => times_good an ad _ _ w ha vq)
        (fun w => times_good an ad _ _ w ha vr) (fun w => add_good _ _ _ _ w vp vo) h8 h9
        (fun x y => sums_one a b c ms mr ps pr x y) (fun x y => prods_one a b c mp mq pp pq x y) (fun x y => both_one a b c mr mp mo pr pp po x y) ?_
      by_cases z : bn = 0
      · subst z; exact .inl ⟨rfl, over_none.1⟩
      · exact .inr ⟨z, over_one ha z mp pp⟩
    · exact field_bad an ad bn bd cn cd _ _ _ _ _ _ _ _ _ _ _ _ _ _ _ _ _ _ _ _ _ _ _ _ w (fun w => add_good an ad bn bd w ha hb) (fun w => add_turn an ad bn bd ha hb w) (fun w => add_good bn bd cn cd w hb hc)
        (fun w => times_good an ad bn bd w ha hb) (fun w => times_turn an ad bn bd ha hb w) (fun w => times_good bn bd cn cd w hb hc) (fun w => times_good an ad cn cd w ha hc) hz
  · obtain ⟨sn, sd, c1, i1, c2, i2, h1, h2, e1⟩ := add_two an ad bn bd
    obtain ⟨rn, rd, c3, i3, h3, e3⟩ := add_some bn bd cn cd
    obtain ⟨pn, pd, c4, i4, c5, i5, h4, h5⟩ := times_two an ad bn bd
    obtain ⟨qn, qd, c6, i6, h6⟩ := times_some bn bd cn cd
    obtain ⟨on, od, c7, i7, h7⟩ := times_some an ad cn cd
    refine field_bad an ad bn bd cn cd _ _ _ _ _ _ _ _ _ _ _ _ _ _ _ _ _ _ _ _ _ _ _ _ w h1 h2 h3 h4 h5 h6 h7 ?_
    rintro ⟨z1, _, z3, _⟩
    rcases e1 with ⟨ha, hb⟩ | e1
    · rcases e3 with ⟨_, hc⟩ | e3
      · exact hv ⟨ha, hb, hc⟩
      · exact e3 z3
    · exact e1 z1

set_option maxRecDepth 100000 in
theorem field_lifted (os : Os) (started : os.Started) (H : Type) (enc : TypeId × Value → H) :
    ReturnsInHanded {} Try.checked os 5 .any (Rows.fracFieldSpec.pre6 enc Try.prog Try.f5 Rows.fracFieldRow.domain false) (Rows.fracFieldSpec.post enc Try.prog Try.f5 false true false false) := by
  refine returnsInHanded_of_change (C := Try.checked) Try.own started (by kernel_rfl) Try.func5
    (ChangeSpec.witness6 (enc := enc) (C := Try.checked) false ⟨#[], #[.agg #[.int .i64 0, .int .i64 0], .agg #[.int .i64 0, .int .i64 0], .agg #[.int .i64 0, .int .i64 0]], []⟩ 8 (by kernel_rfl) (by kernel_rfl) (by kernel_rfl) (by kernel_rfl)) ?_
  intro W base args ds gs before hval0 hW hcnd _
  have hval : ∀ (j : Nat) t v, Try.f5.params[j]? = some t → args[j]? = some v → Value.okWide Try.prog W .any base t v := hval0
  have hW' := hW
  obtain ⟨p, q, hA0, hV, rfl, hfz, hnd⟩ := hW
  have hA : DataW.TrodAll enc Try.prog W 0 (fun _ => true) true Try.f5.params.toList args.toList ds p := hA0
  rw [Try.params5] at hA hval
  obtain ⟨v0, v1, v2, d0, d1, d2, p0, p1, p2, rfl, rfl, rfl, h0, h1, h2⟩ := trodAll_three hA
  obtain ⟨rfl, rfl⟩ := trodVars_none hV
  obtain ⟨c0, c1, y0, y1, k, rfl, rfl, rfl, hy0, hy1⟩ := open_agg2 Try.underlying23 (by kernel_rfl) Try.cells23 (hval 0 23 v0 rfl rfl) h0
  obtain ⟨an, e0, rfl, wan⟩ := DataW.trod_int Try.underlying3 hy0
  obtain ⟨ad, e1, rfl, wad⟩ := DataW.trod_int Try.underlying3 hy1
  simp at e0 e1
  subst e0 e1
  obtain ⟨c0, c1, y0, y1, k, rfl, rfl, rfl, hy0, hy1⟩ := open_agg2 Try.underlying23 (by kernel_rfl) Try.cells23 (hval 1 23 v1 rfl rfl) h1
  obtain ⟨bn, e0, rfl, wbn⟩ := DataW.trod_int Try.underlying3 hy0
  obtain ⟨bd, e1, rfl, wbd⟩ := DataW.trod_int Try.underlying3 hy1
  simp at e0 e1
  subst e0 e1
  obtain ⟨c0, c1, y0, y1, k, rfl, rfl, rfl, hy0, hy1⟩ := open_agg2 Try.underlying23 (by kernel_rfl) Try.cells23 (hval 2 23 v2 rfl rfl) h2
  obtain ⟨cn, e0, rfl, wcn⟩ := DataW.trod_int Try.underlying3 hy0
  obtain ⟨cd, e1, rfl, wcd⟩ := DataW.trod_int Try.underlying3 hy1
  simp at e0 e1
  subst e0 e1
  clear hA0 hval0
  simp only [List.append_nil] at hW'
  refine (field_any an ad bn bd cn cd W).mono fun e W' ⟨he, hw⟩ => ?_
  subst he
  exact ⟨_, rfl, _, _, _, [], [], [], hW', trodAll_mk1 (shut_bool Try.underlying4 _), trodAll_mk3 (shut_frac an ad wan wad) (shut_frac bn bd wbn wbd) (shut_frac cn cd wcn wcd), rfl, hw.frame _, fun h => by cases h⟩

theorem fracField_holds : Rows.FracFieldSaid :=
  OpenClaim.holds_of_wide 5 Try.f5 rfl rfl rfl rfl rfl rfl rfl ⟨rfl, rfl, rfl, rfl, rfl⟩ rfl rfl rfl rfl rfl (by kernel_rfl) Try.func5 (by kernel_rfl)
    (of_decide_eq_true (by kernel_rfl)) (by unfold Func.isWrapper; first | (rw [if_pos (by decide +kernel)]; kernel_rfl) | (rw [if_neg (by decide +kernel)]; exact ⟨rfl, rfl⟩))
    (fun os started H enc _ => field_lifted os started H enc)
end Go.Proofs.Ytapaggpkoelamaa
