/-
  RowWholes holds where what is handed in is of bulk at most 1048576: for every such row and whole numbers the law returns true, and its arguments read afterwards as before. Condition: the bound on the bulk.
-/
import Derived.Test.YtkjollifghmkbaaRowU
import Derived.Test.YtkjollifghmkbaaRowWhoB
import Derived.JoinedCond
namespace Go.Proofs.Ytkjollifghmkbaa
open Go.ChangeShapes Go.WideShapes Go.ChangeAt Go.RowKit Go.Joins

theorem bulk_lits {H : Type} (zs : List Int) : Rows.uptoBulkAll (lits (H := H) .i64 zs) = zs.length := by
  induction zs with
  | nil => rfl
  | cons z zs ih =>
    have : lits (H := H) .i64 (z :: zs) = .lit (.int .i64 z) :: lits .i64 zs := rfl
    have b1 : Rows.uptoBulk (DataW.lit (H := H) (.int .i64 z)) = 1 := by simp [Rows.uptoBulk]
    rw [this, Rows.uptoBulkAll, ih, b1, List.length_cons]
    omega
theorem open_zs {H : Type} {enc : TypeId × Value → H} {W : World} {v : Value} {d : DataW H} {p : List MemPlace} (hval : ∃ a0 len cap, v = .slice a0 len cap) (h : DataW.Trod enc Try.prog W 0 (fun _ => true) true 22 v d p) :
    ∃ A c zs, v = .slice A zs.length c ∧ Is W A zs ∧ zs.length ≤ Rows.uptoBulk d := by
  obtain ⟨a0, l0, c0, rfl⟩ := hval
  obtain ⟨fuel, hf⟩ := h
  have hf' : DataW.trod enc Try.prog W 0 (fun _ => true) true fuel 22 [.slice a0 l0 c0] = some (d, p) := by simpa [Value.cells] using hf
  obtain ⟨A, c, zs, e, _, _, hi, _⟩ := open_isl hf'
  refine ⟨A, c, zs, e, hi, ?_⟩
  injection e with _ e _
  rcases open_ints Try.underlying22 Try.underlying3 Try.cells3 hf' with ⟨hcs, hx⟩ | ⟨a, len, cap, us, hcs, _, hl, hm, hz, hx, hcell, hw⟩
  · simp at hcs
    omega
  · simp at hcs
    obtain ⟨_, rfl, _⟩ := hcs
    simp only [if_true] at hz
    simp only [Prod.mk.injEq] at hx
    rw [hx.1, Rows.uptoBulk, bulk_lits, bulk_lits, List.length_take, List.length_drop]
    omega
theorem bulk_two {H : Type} {d0 d1 : DataW H} (hk : Rows.uptoSmall H [d0, d1] = true) : Rows.uptoBulk d1 ≤ 1048576 := by
  have h : Rows.uptoBulkAll [d0, d1] ≤ 1048576 := of_decide_eq_true hk
  simp only [Rows.uptoBulkAll] at h
  omega
set_option maxRecDepth 100000 in
theorem rowWholes_contract (H : Type) (enc : TypeId × Value → H) (W : World) (base : Nat) (args : Array Value) (ds gs : List (DataW H)) (before : List MemPlace)
    (hval : ∀ (j : Nat) t v, Try.f7.params[j]? = some t → args[j]? = some v → Value.okWide Try.prog W .any base t v)
    (hW : DataW.Whole enc Try.prog Try.f7.params.toList Rows.rowWholesSpec.vars false W args.toList ds gs before) (hk : Rows.uptoSmall H (ds ++ gs) = true) :
    Calls Try.prog 7 args W fun e W' => ∃ v, e = .returned v ∧ Rows.rowWholesSpec.post enc Try.prog Try.f7 false true false false W args v W' := by
  have hW' := hW
  obtain ⟨p, q, hA0, hV, rfl, hfz, hnd⟩ := hW
  have hA : DataW.TrodAll enc Try.prog W 0 (fun _ => true) true Try.f7.params.toList args.toList ds p := hA0
  rw [Try.params7] at hA hval
  obtain ⟨v0, v1, d0, d1, p0, p1, rfl, rfl, rfl, h0, h1⟩ := trodAll_two hA
  obtain ⟨rfl, rfl⟩ := trodVars_none hV
  have k0 := h0
  obtain ⟨A0, c0, kind0, tt0, xs0, rfl, hl0, hm0, hx0, hk0, ht0, hw0⟩ := open_row (hval 0 24 v0 rfl rfl) h0
  have k1 := h1
  obtain ⟨A1, c1, zs1, rfl, hx1, hz1⟩ := open_zs (okWide_slice Try.underlying22 (hval 1 22 v1 rfl rfl)) h1
  clear hA0
  have hlt0 : ∀ x ∈ p0, x.block < W.heap.size := fun x hx => by simpa using hW'.lt x (by simp [hx])
  have hlt1 : ∀ x ∈ p1, x.block < W.heap.size := fun x hx => by simpa using hW'.lt x (by simp [hx])
  simp only [List.append_nil] at hW' hk
  have hb := bulk_two hk
  refine (rowwholes_any A0 A1 xs0 zs1 _ c0 _ c1 kind0 tt0 rfl hl0 rfl (by omega) W hx0 hx1).mono fun e W' ⟨he, hw⟩ => ?_
  subst he
  exact ⟨_, rfl, _, _, _, [], _, [], hW', trodAll_mk1 (shut_bool Try.underlying4 _), trodAll_mk2 (Below.trod Try.laidOut (by kernel_rfl) (of_decide_eq_true (by kernel_rfl)) k0 hw hlt0) (Below.trod Try.laidOut (by kernel_rfl) (of_decide_eq_true (by kernel_rfl)) k1 hw hlt1), rfl, hw.frame _, fun h => by cases h⟩
set_option maxRecDepth 100000 in
theorem rowWholes_lifted (os : Os) (started : os.Started) (H : Type) (enc : TypeId × Value → H) (F : Stop.Interp) :
    ReturnsInHanded {} Try.checked os 7 .any ((Rows.OpenSpec.upto Rows.rowWholesSpec).pre6 enc Try.prog Try.f7 Rows.rowWholesUptoRow.domain false) (((Rows.OpenSpec.upto Rows.rowWholesSpec).at F).post enc Try.prog Try.f7 false true false false) := by
  refine returnsInHanded_of_cond (C := Try.checked) (s := Rows.OpenSpec.upto Rows.rowWholesSpec) (k := Rows.uptoSmall) rfl Try.own started (by kernel_rfl) Try.func7
    (OpenSpec.witness (enc := enc) (C := Try.checked) (s := Rows.OpenSpec.upto Rows.rowWholesSpec) (k := Rows.uptoSmall) rfl false ⟨#[], #[.agg #[.slice none 0 0, .int .i64 0, .int .i64 0], .slice none 0 0], []⟩ 8 (by kernel_rfl) (by kernel_rfl) (by kernel_rfl)
      (x := ([.agg [.nil, .lit (.int .i64 0), .lit (.int .i64 0)], .nil], [], [])) (by kernel_rfl) rfl (by kernel_rfl)) ?_
  intro W base args ds gs before hval hW _ hk _
  exact rowWholes_contract H enc W base args ds gs before hval hW hk

theorem rowWholesUpto_holds : Rows.RowWholesUptoSaid :=
  OpenClaim.holds_of_cond 7 Try.f7 rfl rfl rfl rfl rfl rfl rfl ⟨rfl, rfl, rfl, rfl, rfl⟩ rfl rfl rfl rfl rfl (by kernel_rfl) Try.func7 (by kernel_rfl)
    (of_decide_eq_true (by kernel_rfl)) (by unfold Func.isWrapper; first | (rw [if_pos (by decide +kernel)]; kernel_rfl) | (rw [if_neg (by decide +kernel)]; exact ⟨rfl, rfl⟩))
    (fun os started H enc _ F => rowWholes_lifted os started H enc F)
end Go.Proofs.Ytkjollifghmkbaa
