/-
  Values of nodes: an array that is put to.
-/
import Derived.Test.YtaodebpogibimaaGreatG11
import Derived.Deep.RegionLaw
namespace Go.Proofs.YtaodebpogibimaaGreat
open Go.RowKit

/-- Nothing is put behind a row: it stays, wherever the empty slice lies. -/
theorem app_zero {P : Program} (w : World) (base : Nat) (t ty e : TypeId) (i : TypeInfo) (sz : Nat) (ht : P.underlying t = some (.slice e)) (hi : P.info? e = some i)
    (v : Value) (n : Nat) (xs : List Value) (h : w.ownsRow base e sz v n xs) (A : Option Addr) (c : Nat) : (Builtin.append_ #[t, t] ty #[v, .slice A 0 c]).run P w = .ok v w := by
  rcases h.2 with ⟨rfl, rfl⟩ | ⟨g, cap, cur, rfl, _, _, hc, _⟩
  · cases A <;> simp [Builtin.append_, run_underlying ht, sizeOf, typeInfo, hi, Builtin.lenOf, Builtin.firstCells, loadCells, loadCellsFrom]
  · cases A <;> simp [Builtin.append_, run_underlying ht, sizeOf, typeInfo, hi, Builtin.lenOf, Builtin.firstCells, hc, loadCells, loadCellsFrom, storeCells]
section
variable {P : Program} {w : World} {ops : Array Oper} {rest : List Oper} {o : Oper} {a : Act} {K : Act → World → Prop} {Q : Exit → Act → World → Prop} {E : Prop}
/-- Cells of an array, none or some, are put behind a row of the call's own. -/
theorem wpl_csg (t e : TypeId) (hut : P.underlying t = some (.slice e)) (z : Value) (hinfo : (P.info? e).map (fun i => (i.zero, i.size, i.bytes)) = some (some z, 2, 16)) (hzs : z.cells.size = 2)
    (hgd : o.guard = none) (s x : Operand) (ho : o.op = .call { callee := .builtin .append, args := #[s, x], argTypes := #[t, t] })
    (base : Nat) (v : Value) (n : Nat) (xs : List Value) (hs : a.eval s = v) (hown : w.ownsRow base e 2 v n xs) (A : Option Addr) (c : Nat) (cs : List (Int × Int)) (m : Nat) (hm : cs.length = m) (hx : a.eval x = .slice A m c) (hat : CsAt w A cs) (hb : n + m ≤ 1000000) (hbase : base ≤ w.heap.size)
    (h : ∀ v' w', Hid (w'.ownsRow base e 2 v' (n + m) (xs ++ csV cs)) → (∀ g t cs, some g ≠ v.ownBlock → HB w g t cs → HB w' g t cs) → (∀ W, Below base W w → Below base W w') → wpList P ops Q rest (a.put o.dst v') w') :
    wpList P ops Q (o :: rest) a w := by
  subst hm
  rcases Nat.eq_zero_or_pos cs.length with h0 | h0
  · obtain ⟨i0, hi0, _, _, _⟩ := info_parts hinfo
    have e0 := List.eq_nil_of_length_eq_zero h0
    subst e0
    refine wpList_plain hgd fun K hK => ?_
    have hrun := app_zero (P := P) w base t o.type e i0 2 hut hi0 v n xs hown A c
    unfold Oper.wp
    simp [execOp, ho, resolve, invoke, builtin, hs, hx, hrun, Result.andThen]
    exact hK _ _ (h v w (Lib.hid (by simpa [csV] using hown)) (fun _ _ _ _ k => k) (fun _ k => k))
  · exact wpl_cs t e hut z hinfo hzs hgd s x ho base v n xs hs hown A c cs hx hat h0 hb hbase (fun g cap w' h1 h2 h3 _ => h _ w' h1 h2 h3)
/-- The same in a region that draws its order. -/
theorem step_csg (t e : TypeId) (hut : P.underlying t = some (.slice e)) (z : Value) (hinfo : (P.info? e).map (fun i => (i.zero, i.size, i.bytes)) = some (some z, 2, 16)) (hzs : z.cells.size = 2)
    (hgd : o.guard = none) (s x : Operand) (ho : o.op = .call { callee := .builtin .append, args := #[s, x], argTypes := #[t, t] })
    (base : Nat) (v : Value) (n : Nat) (xs : List Value) (hs : a.eval s = v) (hown : w.ownsRow base e 2 v n xs) (A : Option Addr) (c : Nat) (cs : List (Int × Int)) (m : Nat) (hm : cs.length = m) (hx : a.eval x = .slice A m c) (hat : CsAt w A cs) (hb : n + m ≤ 1000000) (hbase : base ≤ w.heap.size)
    (h : ∀ v' w', Hid (w'.ownsRow base e 2 v' (n + m) (xs ++ csV cs)) → (∀ g t cs, some g ≠ v.ownBlock → HB w g t cs → HB w' g t cs) → (∀ W, Below base W w → Below base W w') → K (a.put o.dst v') w') :
    if Region.wanted o (yielded ops a.tmps) = true then Oper.wp P o a w K Q else E := by
  have hw : Region.wanted o (yielded ops a.tmps) = true := by simp [Region.wanted, hgd]
  obtain ⟨i0, hi0, hz0, hz1, hz2⟩ := info_parts hinfo
  subst hm
  rcases Nat.eq_zero_or_pos cs.length with h0 | h0
  · have e0 := List.eq_nil_of_length_eq_zero h0
    subst e0
    rw [if_pos hw]
    have hrun := app_zero (P := P) w base t o.type e i0 2 hut hi0 v n xs hown A c
    unfold Oper.wp
    simp [execOp, ho, resolve, invoke, builtin, hs, hx, hrun, Result.andThen]
    exact h v w (Lib.hid (by simpa [csV] using hown)) (fun _ _ _ _ k => k) (fun _ k => k)
  · obtain ⟨b, off, rfl, hbl, hq⟩ := hat h0
    refine step_append_lies w hgd s x t ho base e i0 z 2 16 hut hi0 hz0 hz1 hz2 hzs (by omega) v n xs hs hown ⟨b, off, none⟩ cs.length c (csV cs) hx (csV_len cs) (fun j u hu => ?_) (csV_one cs) h0 (by unfold maxLen; omega) (by omega) hbase _ rfl ?_
    · obtain ⟨i, q, h1, ⟨rfl, rfl⟩ | ⟨rfl, rfl⟩⟩ := csV_at hu
      · rw [Go.WideShapes.add_plain]
        exact (hq i q h1).1
      · rw [Go.WideShapes.add_plain]
        exact (hq i q h1).2
    · intro g cap w' hown' hg hf _
      exact h _ w' (Lib.hid hown') (fun g' t cs hne hb => hb.grown hg hne) (fun W hW => bw_grown hbase hW hown hg)
end
theorem cs_take {w : World} {A : Option Addr} {cs : List (Int × Int)} (h : CsAt w A cs) (k : Nat) : CsAt w A (cs.take k) := fun z => by
  rw [List.length_take] at z
  obtain ⟨b, o, e, l, q⟩ := h (by omega)
  exact ⟨b, o, e, l, fun i x hx => q i x (by rw [List.getElem?_take] at hx; split at hx; exact hx; cases hx)⟩
/-- The cells behind a place: where they lie. -/
theorem cs_drop {w : World} {A : Option Addr} {cs : List (Int × Int)} (h : CsAt w A cs) (k c : Nat) (hc : cs.length ≤ c) : CsAt w (if c = k then A else A.map (·.add (k * 2))) (cs.drop k) := fun z => by
  rw [List.length_drop] at z
  obtain ⟨b, o, rfl, l, q⟩ := h (by omega)
  rw [if_neg (by omega)]
  refine ⟨b, o + k * 2, (show some ((⟨b, o, none⟩ : Addr).add (k * 2)) = _ by rw [Go.WideShapes.add_plain]), l, fun i x hx => ?_⟩
  rw [List.getElem?_drop] at hx
  obtain ⟨a1, a2⟩ := q (k + i) x hx
  rw [show o + k * 2 + i * 2 = o + (k + i) * 2 by omega]
  exact ⟨a1, a2⟩
theorem run_take (A : Option Addr) (L c i : Nat) (h : i ≤ c) (W : World) : (Instr.slice 45 (.slice A L c) none (some (.int .i64 (i : Int))) none).run Tryz.prog W = .ok (.slice A i c) W := by
  obtain ⟨i0, hi0, _, hz1, _⟩ := info_parts infoCell
  rw [run_slice_h (P := Tryz.prog) (w := W) 45 A L c (by kernel_rfl) .i64 (i : Int) (by omega) (by omega)]
  have e : Tryz.prog.elem 45 = 96 := by kernel_rfl
  rw [e]
  have e2 : (sizeOf 96).run Tryz.prog W = .ok 2 W := by simp [sizeOf, typeInfo, hi0, hz1]
  rw [e2]
  simp only [Result.andThen, sliced, Int.toNat_natCast, Nat.zero_mul, Nat.sub_zero]
  split
  · rfl
  · cases A with
    | none => rfl
    | some a => simp [Addr.add]
theorem run_drop (A : Option Addr) (L c j : Nat) (h : j ≤ L) (W : World) : (Instr.slice 45 (.slice A L c) (some (.int .i64 (j : Int))) none none).run Tryz.prog W = .ok (.slice (if c = j then A else A.map (·.add (j * 2))) (L - j) (c - j)) W := by
  obtain ⟨i0, hi0, _, hz1, _⟩ := info_parts infoCell
  rw [run_slice_l (P := Tryz.prog) (w := W) 45 A L c (by kernel_rfl) .i64 (j : Int) (by omega) (by omega)]
  have e : Tryz.prog.elem 45 = 96 := by kernel_rfl
  rw [e]
  have e2 : (sizeOf 96).run Tryz.prog W = .ok 2 W := by simp [sizeOf, typeInfo, hi0, hz1]
  rw [e2]
  simp only [Result.andThen, sliced, Int.toNat_natCast]
theorem csV_app (a b : List (Int × Int)) : csV (a ++ b) = csV a ++ csV b := by simp [csV]
/-- A slice of an array's cells from a place on. -/
theorem drop_ex {w : World} {A : Option Addr} {cs : List (Int × Int)} (h : CsAt w A cs) (c j : Nat) (hc : cs.length ≤ c) (hj : j ≤ cs.length) (hl : cs.length ≤ 2000) :
    ∃ (A2 : Option Addr) (m c2 : Nat), m ≤ 2000 ∧ Hid ((cs.drop j).length = m) ∧ Hid (CsAt w A2 (cs.drop j)) ∧ ∀ W, (Instr.slice 45 (.slice A cs.length c) (some (.int .i64 (j : Int))) none none).run Tryz.prog W = .ok (.slice A2 m c2) W :=
  ⟨_, _, _, by omega, Lib.hid (List.length_drop ..), Lib.hid (cs_drop h j c hc), fun W => run_drop A cs.length c j hj W⟩
/-- What stands while an array is put to. -/
structure PuM (w0 : World) (v : Vl) (A : Option Addr) (c : Nat) (W : World) : Prop where
  v : HB W w0.heap.size 47 #[.int .i64 v.num, .int .i64 v.den, .slice A v.cells.length c, .int .i64 v.rest]
  r : HB W (w0.heap.size + 1) 47 #[.int .i64 0, .int .i64 0, .slice none 0 0, .int .i64 0]
  b : Below w0.heap.size w0 W
theorem PuM.below {w0 w w' : World} {v : Vl} {A : Option Addr} {c : Nat} (h : PuM w0 v A c w) (k : Below w.heap.size w w') : PuM w0 v A c w' := ⟨h.v.below k, h.r.below k, below_after h.b k⟩
theorem pu_new (w : World) (v : Vl) (A : Option Addr) (c : Nat) : PuM w v A c ((w.alloc (.cells #[.int .i64 v.num, .int .i64 v.den, .slice A v.cells.length c, .int .i64 v.rest] 47)).alloc (.cells #[.int .i64 0, .int .i64 0, .slice none 0 0, .int .i64 0] 47)) := ⟨(HB.new _ _ _).alloc _, HB.new1 _ _ _ _, by go_grown⟩
theorem PuM.keep {w0 w w' : World} {v : Vl} {A : Option Addr} {c n : Nat} {kv : Value} {xs : List Value} (h : PuM w0 v A c w) (ho : w.ownsRow w0.heap.size 96 2 kv n xs) (k1 : ∀ g t cs, some g ≠ kv.ownBlock → HB w g t cs → HB w' g t cs) (k2 : ∀ W, Below w0.heap.size W w → Below w0.heap.size W w') : PuM w0 v A c w' :=
  ⟨k1 _ _ _ (own_ne ho h.v (by decide)) h.v, k1 _ _ _ (own_ne ho h.r (by decide)) h.r, k2 _ h.b⟩
theorem pu_put {w0 W : World} {v : Vl} {A : Option Addr} {c : Nat} (h : PuM w0 v A c W) (x0 x1 x2 x3 : Value) :
    HB ((((W.setCell ⟨w0.heap.size + 1, 0, none⟩ x0).setCell ⟨w0.heap.size + 1, 1, none⟩ x1).setCell ⟨w0.heap.size + 1, 2, none⟩ x2).setCell ⟨w0.heap.size + 1, 3, none⟩ x3) (w0.heap.size + 1) 47 #[x0, x1, x2, x3] ∧
    HB ((((W.setCell ⟨w0.heap.size + 1, 0, none⟩ x0).setCell ⟨w0.heap.size + 1, 1, none⟩ x1).setCell ⟨w0.heap.size + 1, 2, none⟩ x2).setCell ⟨w0.heap.size + 1, 3, none⟩ x3) w0.heap.size 47 #[.int .i64 v.num, .int .i64 v.den, .slice A v.cells.length c, .int .i64 v.rest] ∧
    Below w0.heap.size w0 ((((W.setCell ⟨w0.heap.size + 1, 0, none⟩ x0).setCell ⟨w0.heap.size + 1, 1, none⟩ x1).setCell ⟨w0.heap.size + 1, 2, none⟩ x2).setCell ⟨w0.heap.size + 1, 3, none⟩ x3) ∧
    (∀ B kv n xs, W.ownsRow B 96 2 kv n xs → World.ownsRow ((((W.setCell ⟨w0.heap.size + 1, 0, none⟩ x0).setCell ⟨w0.heap.size + 1, 1, none⟩ x1).setCell ⟨w0.heap.size + 1, 2, none⟩ x2).setCell ⟨w0.heap.size + 1, 3, none⟩ x3) B 96 2 kv n xs) := by
  have F := far4 W (w0.heap.size + 1) x0 x1 x2 x3
  exact ⟨hb_set4 h.r, hb_far h.v (by omega) F, bw_far h.b (by omega) F, fun B kv n xs ho => own_far ho (own_ne ho h.r (by decide)) F⟩
theorem own_re {w : World} {B n m sz : Nat} {e : TypeId} {v : Value} {xs ys : List Value} (h : w.ownsRow B e sz v n xs) (h1 : n = m) (h2 : xs = ys) : w.ownsRow B e sz v m ys := by subst h1 h2; exact h
theorem own_dr {w : World} {B n sz : Nat} {e : TypeId} {v : Value} {xs : List Value} (h : w.ownsRow B e sz v n xs) : w.drew.ownsRow B e sz v n xs := h
@[reducible] def PuE (g : Nat) (s r : Value) (W : World) : Prop := W.cell? ⟨g, 2, none⟩ = some s ∧ W.cell? ⟨g, 3, none⟩ = some r
set_option maxRecDepth 100000 in
set_option maxHeartbeats 8000000 in
theorem putv_any (v : Vl) (A : Option Addr) (c : Nat) (t u : Int) (hl : v.cells.length ≤ 2000) (hlc : v.cells.length ≤ c) (hs : Srt v.cells) (w : World) (h : CsAt w A v.cells) :
    Calls Tryz.prog 37 #[.agg #[.int .i64 v.num, .int .i64 v.den, .slice A v.cells.length c, .int .i64 v.rest], .int .i64 t, .int .i64 u] w (ValQ (putF v t u) w) := by
  have HM := Lib.hid (pu_new w v A c)
  have HX := Lib.hid (fun (X : World) (k : Below w.heap.size w X) => find_any v.cells A c t hl hs X (h.below k))
  have HA := Lib.hid h
  have HS := Lib.hid hs
  have HPE : Hid (∀ i, AtI v.cells t i → (putF v t u).cells = v.cells.take i ++ (if u = v.rest then [] else [(t, u)]) ++ v.cells.drop (if (decide (i < v.cells.length) && (cn v.cells i).1 == t) = true then i + 1 else i)) := Lib.hid (fun i hi => by
    obtain ⟨e1, e2⟩ := filt_at hi hs
    unfold putF
    dsimp only
    rw [e1, e2])
  have HPR : Hid ((putF v t u).num = 0 ∧ (putF v t u).den = 0 ∧ (putF v t u).rest = v.rest) := Lib.hid ⟨rfl, rfl, rfl⟩
  clear hs h
  generalize putF v t u = q at *
  go_enter Tryz.func37, Tryz.ntmps37
  go_wp2_with fail
  refine (HX.out _ HM.out.b).mono ?_
  rintro e w1 ⟨i, rfl, ha, hb⟩
  have M1 := Lib.hid (HM.out.below hb)
  have HIL := ha.out.1
  have HQ := HPE.out i ha.out
  have HC1 := Lib.hid (cs_take ((HA.out.below M1.out.b)) i)
  have HTL : Hid ((v.cells.take i).length = i) := Lib.hid (by rw [List.length_take]; omega)
  have R1 := Lib.hid (fun W => run_take A v.cells.length c i (by omega) W)
  have hic : (i : Int) ≤ c := by omega
  have hic2 : i ≤ c := by omega
  clear hb HX HPE HM
  generalize hfb : (decide (i < v.cells.length) && (cn v.cells i).1 == t) = fb at *
  have HFB := Lib.hid hfb
  clear hfb
  obtain ⟨v0, v1, v2, v3, -⟩ := M1.out.v.four
  have RT := R1.out
  cases fb with
  | true =>
    have HJ : Hid (q.cells = v.cells.take i ++ (if u = v.rest then [] else [(t, u)]) ++ v.cells.drop (i + 1)) := Lib.hid (by rw [HQ]; rfl)
    have hj : i + 1 ≤ v.cells.length := (by
      have := HFB.out
      rw [Bool.and_eq_true] at this
      have := of_decide_eq_true this.1
      omega)
    obtain ⟨A2, m, c2, hm2, HDL, HC2, hr2⟩ := drop_ex HA.out c (i + 1) hlc hj hl
    have R2 := Lib.hid hr2
    clear hr2
    clear HQ
    have w1e : IntKind.i64.wrap ((i : Int) + 1) = ((i + 1 : Nat) : Int) := by rw [IntWalk.i64_in _ (by omega)]; rfl
    go_wp2_with (at_builtin; refine wpl_csg 45 96 Tryz.underlying45 (.agg #[.int .i64 0, .int .i64 0]) infoCell rfl rfl _ _ rfl w.heap.size (.slice none 0 0) 0 [] rfl (own_nil _ _ _ _) A c (v.cells.take i) i HTL.out rfl HC1.out (by omega) M1.out.b.size ?_)
    intro k2 w2 hown2 hkp2 hbw2
    have M2 := Lib.hid (M1.out.keep (own_nil _ _ _ _) hkp2 hbw2)
    have O2 := Lib.hid (own_re (m := i) (ys := csV (v.cells.take i)) hown2.out (by first | rfl | omega) (by first | rfl | simp))
    clear hown2 hkp2 hbw2 v0 v1 v2 v3 RT
    obtain ⟨v0, v1, v2, v3, -⟩ := M2.out.v.four
    by_cases hu : u = v.rest
    · have HE : Hid (q.cells = v.cells.take i ++ v.cells.drop (i + 1)) := Lib.hid (by rw [HJ.out, if_pos hu, List.append_nil])
      have u1 : (u == v.rest) = true := by rw [hu]; simp
      have u2 : (u != v.rest) = false := by rw [hu]; simp
      clear hu HJ
      go_upto_region 8 with fail
      have HD2 := Lib.hid ((HC2.out.below M2.out.b).below ((Below.refl _ _).drew))
      have hn9 : i + m ≤ 1000000 := by omega
      have HLQ : Hid (i + m = q.cells.length) := Lib.hid (by rw [HE.out, List.length_append, HDL.out]; rw [HTL.out])
      have MD : Hid (PuM w v A c w2.drew) := Lib.hid (M2.out.below ((Below.refl _ _).drew))
      have OD := Lib.hid (own_dr O2.out)
      have KE : Hid (PuE w.heap.size (.slice A v.cells.length c) (.int .i64 v.rest) w2.drew) := Lib.hid ⟨MD.out.v.cell 2, MD.out.v.cell 3⟩
      have RD : ∀ W, (Instr.slice 45 (.slice A v.cells.length c) (some (.int .i64 ((i : Int) + 1))) none none).run Tryz.prog W = .ok (.slice A2 m c2) W := R2.out
      go_region_held3 (fun W => PuE w.heap.size (.slice A v.cells.length c) (.int .i64 v.rest) W)
        ((first | (with_reducible exact KE.out) | (with_reducible exact KD.out.1) | (with_reducible exact KD.out.2 _ _ _ _)))
        (first
          | (refine step_csg 45 96 Tryz.underlying45 (.agg #[.int .i64 0, .int .i64 0]) infoCell rfl rfl _ _ rfl w.heap.size k2 (i) (csV (v.cells.take i)) rfl OD.out _ _ (v.cells.drop (i + 1)) m HDL.out rfl HD2.out hn9 MD.out.b.size ?_; intro k9 w9 hown9 hkp9 hbw9; obtain ⟨A9, c9, hk9⟩ := own_val hown9.out; subst hk9; have M9 := Lib.hid (MD.out.keep OD.out hkp9 hbw9); have O9 := hown9; have KD : Hid (PuE w.heap.size (.slice A v.cells.length c) (.int .i64 v.rest) w9 ∧ ∀ x0 x1 x2 x3, PuE w.heap.size (.slice A v.cells.length c) (.int .i64 v.rest) ((((w9.setCell ⟨w.heap.size + 1, 0, none⟩ x0).setCell ⟨w.heap.size + 1, 1, none⟩ x1).setCell ⟨w.heap.size + 1, 2, none⟩ x2).setCell ⟨w.heap.size + 1, 3, none⟩ x3)) := Lib.hid ⟨⟨M9.out.v.cell 2, M9.out.v.cell 3⟩, fun x0 x1 x2 x3 => ⟨(pu_put M9.out x0 x1 x2 x3).2.1.cell 2, (pu_put M9.out x0 x1 x2 x3).2.1.cell 3⟩⟩; obtain ⟨e0, e1, e2, e3, fe0, fe1, fe2, fe3⟩ := M9.out.r.four; clear hown9 hkp9 hbw9))
      all_goals
        have P9 := pu_put M9.out (.int .i64 0) (.int .i64 0) (.slice A9 (i + m) c9) (.int .i64 v.rest)
        obtain ⟨z0, z1, z2, z3, -⟩ := P9.1.four
        have FIN : Hid (ValQ q w (.returned (.agg #[.int .i64 0, .int .i64 0, .slice A9 (i + m) c9, .int .i64 v.rest])) _) := Lib.hid ⟨A9, c9, by rw [HPR.out.1, HPR.out.2.1, HPR.out.2.2, HLQ.out], Lib.hid (by rw [← HLQ.out, HE.out, csV_app]; exact P9.2.2.2 _ _ _ _ O9.out), P9.2.2.1⟩
        clear P9 e0 e1 e2 e3 fe0 fe1 fe2 fe3
        go_wp2_with fail
        exact bodyPost_ret (v := .agg #[.int .i64 0, .int .i64 0, .slice A9 (i + m) c9, .int .i64 v.rest]) (by simp [results, Tryz.results37, go_sem, z0, z1, z2, z3]) rfl FIN.out
    · have HE : Hid (q.cells = (v.cells.take i ++ [(t, u)]) ++ v.cells.drop (i + 1)) := Lib.hid (by rw [HJ.out, if_neg hu])
      have u1 : (u == v.rest) = false := by simpa using hu
      have u2 : (u != v.rest) = true := by simpa using hu
      clear hu HJ
      have B3 := Lib.hid (new_below w2 (.cells #[.int .i64 t, .int .i64 u] 96))
      have O3 := Lib.hid (own_below O2.out B3.out)
      have M3 := Lib.hid (M2.out.below B3.out)
      go_wp2_with (at_builtin; refine wpl_app2 45 96 Tryz.underlying45 (.agg #[.int .i64 0, .int .i64 0]) 2 16 infoCell rfl (by decide) rfl _ _ rfl w.heap.size k2 i (csV (v.cells.take i)) rfl O3.out w2.heap.size #[.int .i64 t, .int .i64 u] rfl (HB.new _ _ _) rfl (by simp [Value.oneCell']) (by omega) (by unfold maxLen; omega) M3.out.b.size ?_)
      intro g4 cap4 w4 hown4 hkp4 hbw4 _
      have M4 := Lib.hid (M3.out.keep O3.out hkp4 hbw4)
      have O4 := Lib.hid (own_re (ys := csV (v.cells.take i ++ [(t, u)])) hown4.out rfl (by rw [csV_snoc]))
      clear hown4 hkp4 hbw4 v0 v1 v2 v3 O2 M2 O3 M3 B3
      obtain ⟨v0, v1, v2, v3, -⟩ := M4.out.v.four
      generalize hk4 : (Value.slice (some ⟨g4, 0, none⟩) (i + 1) cap4) = k4 at *
      clear hk4
      go_upto_region 8 with fail
      have HD2 := Lib.hid ((HC2.out.below M4.out.b).below ((Below.refl _ _).drew))
      have hn9 : (i + 1) + m ≤ 1000000 := by omega
      have HLQ : Hid ((i + 1) + m = q.cells.length) := Lib.hid (by rw [HE.out, List.length_append, HDL.out]; rw [List.length_append, HTL.out]; rfl)
      have MD : Hid (PuM w v A c w4.drew) := Lib.hid (M4.out.below ((Below.refl _ _).drew))
      have OD := Lib.hid (own_dr O4.out)
      have KE : Hid (PuE w.heap.size (.slice A v.cells.length c) (.int .i64 v.rest) w4.drew) := Lib.hid ⟨MD.out.v.cell 2, MD.out.v.cell 3⟩
      have RD : ∀ W, (Instr.slice 45 (.slice A v.cells.length c) (some (.int .i64 ((i : Int) + 1))) none none).run Tryz.prog W = .ok (.slice A2 m c2) W := R2.out
      go_region_held3 (fun W => PuE w.heap.size (.slice A v.cells.length c) (.int .i64 v.rest) W)
        ((first | (with_reducible exact KE.out) | (with_reducible exact KD.out.1) | (with_reducible exact KD.out.2 _ _ _ _)))
        (first
          | (refine step_csg 45 96 Tryz.underlying45 (.agg #[.int .i64 0, .int .i64 0]) infoCell rfl rfl _ _ rfl w.heap.size k4 ((i + 1)) (csV (v.cells.take i ++ [(t, u)])) rfl OD.out _ _ (v.cells.drop (i + 1)) m HDL.out rfl HD2.out hn9 MD.out.b.size ?_; intro k9 w9 hown9 hkp9 hbw9; obtain ⟨A9, c9, hk9⟩ := own_val hown9.out; subst hk9; have M9 := Lib.hid (MD.out.keep OD.out hkp9 hbw9); have O9 := hown9; have KD : Hid (PuE w.heap.size (.slice A v.cells.length c) (.int .i64 v.rest) w9 ∧ ∀ x0 x1 x2 x3, PuE w.heap.size (.slice A v.cells.length c) (.int .i64 v.rest) ((((w9.setCell ⟨w.heap.size + 1, 0, none⟩ x0).setCell ⟨w.heap.size + 1, 1, none⟩ x1).setCell ⟨w.heap.size + 1, 2, none⟩ x2).setCell ⟨w.heap.size + 1, 3, none⟩ x3)) := Lib.hid ⟨⟨M9.out.v.cell 2, M9.out.v.cell 3⟩, fun x0 x1 x2 x3 => ⟨(pu_put M9.out x0 x1 x2 x3).2.1.cell 2, (pu_put M9.out x0 x1 x2 x3).2.1.cell 3⟩⟩; obtain ⟨e0, e1, e2, e3, fe0, fe1, fe2, fe3⟩ := M9.out.r.four; clear hown9 hkp9 hbw9))
      all_goals
        have P9 := pu_put M9.out (.int .i64 0) (.int .i64 0) (.slice A9 ((i + 1) + m) c9) (.int .i64 v.rest)
        obtain ⟨z0, z1, z2, z3, -⟩ := P9.1.four
        have FIN : Hid (ValQ q w (.returned (.agg #[.int .i64 0, .int .i64 0, .slice A9 ((i + 1) + m) c9, .int .i64 v.rest])) _) := Lib.hid ⟨A9, c9, by rw [HPR.out.1, HPR.out.2.1, HPR.out.2.2, HLQ.out], Lib.hid (by rw [← HLQ.out, HE.out, csV_app]; exact P9.2.2.2 _ _ _ _ O9.out), P9.2.2.1⟩
        clear P9 e0 e1 e2 e3 fe0 fe1 fe2 fe3
        go_wp2_with fail
        exact bodyPost_ret (v := .agg #[.int .i64 0, .int .i64 0, .slice A9 ((i + 1) + m) c9, .int .i64 v.rest]) (by simp [results, Tryz.results37, go_sem, z0, z1, z2, z3]) rfl FIN.out
  | false =>
    have HJ : Hid (q.cells = v.cells.take i ++ (if u = v.rest then [] else [(t, u)]) ++ v.cells.drop (i)) := Lib.hid (by rw [HQ]; rfl)
    have hj : i ≤ v.cells.length := HIL
    obtain ⟨A2, m, c2, hm2, HDL, HC2, hr2⟩ := drop_ex HA.out c (i) hlc hj hl
    have R2 := Lib.hid hr2
    clear hr2
    clear HQ
    go_wp2_with (at_builtin; refine wpl_csg 45 96 Tryz.underlying45 (.agg #[.int .i64 0, .int .i64 0]) infoCell rfl rfl _ _ rfl w.heap.size (.slice none 0 0) 0 [] rfl (own_nil _ _ _ _) A c (v.cells.take i) i HTL.out rfl HC1.out (by omega) M1.out.b.size ?_)
    intro k2 w2 hown2 hkp2 hbw2
    have M2 := Lib.hid (M1.out.keep (own_nil _ _ _ _) hkp2 hbw2)
    have O2 := Lib.hid (own_re (m := i) (ys := csV (v.cells.take i)) hown2.out (by first | rfl | omega) (by first | rfl | simp))
    clear hown2 hkp2 hbw2 v0 v1 v2 v3 RT
    obtain ⟨v0, v1, v2, v3, -⟩ := M2.out.v.four
    by_cases hu : u = v.rest
    · have HE : Hid (q.cells = v.cells.take i ++ v.cells.drop (i)) := Lib.hid (by rw [HJ.out, if_pos hu, List.append_nil])
      have u1 : (u == v.rest) = true := by rw [hu]; simp
      have u2 : (u != v.rest) = false := by rw [hu]; simp
      clear hu HJ
      go_upto_region 8 with fail
      have HD2 := Lib.hid ((HC2.out.below M2.out.b).below ((Below.refl _ _).drew))
      have hn9 : i + m ≤ 1000000 := by omega
      have HLQ : Hid (i + m = q.cells.length) := Lib.hid (by rw [HE.out, List.length_append, HDL.out]; rw [HTL.out])
      have MD : Hid (PuM w v A c w2.drew) := Lib.hid (M2.out.below ((Below.refl _ _).drew))
      have OD := Lib.hid (own_dr O2.out)
      have KE : Hid (PuE w.heap.size (.slice A v.cells.length c) (.int .i64 v.rest) w2.drew) := Lib.hid ⟨MD.out.v.cell 2, MD.out.v.cell 3⟩
      have RD := R2.out
      go_region_held3 (fun W => PuE w.heap.size (.slice A v.cells.length c) (.int .i64 v.rest) W)
        ((first | (with_reducible exact KE.out) | (with_reducible exact KD.out.1) | (with_reducible exact KD.out.2 _ _ _ _)))
        (first
          | (refine step_csg 45 96 Tryz.underlying45 (.agg #[.int .i64 0, .int .i64 0]) infoCell rfl rfl _ _ rfl w.heap.size k2 (i) (csV (v.cells.take i)) rfl OD.out _ _ (v.cells.drop (i)) m HDL.out rfl HD2.out hn9 MD.out.b.size ?_; intro k9 w9 hown9 hkp9 hbw9; obtain ⟨A9, c9, hk9⟩ := own_val hown9.out; subst hk9; have M9 := Lib.hid (MD.out.keep OD.out hkp9 hbw9); have O9 := hown9; have KD : Hid (PuE w.heap.size (.slice A v.cells.length c) (.int .i64 v.rest) w9 ∧ ∀ x0 x1 x2 x3, PuE w.heap.size (.slice A v.cells.length c) (.int .i64 v.rest) ((((w9.setCell ⟨w.heap.size + 1, 0, none⟩ x0).setCell ⟨w.heap.size + 1, 1, none⟩ x1).setCell ⟨w.heap.size + 1, 2, none⟩ x2).setCell ⟨w.heap.size + 1, 3, none⟩ x3)) := Lib.hid ⟨⟨M9.out.v.cell 2, M9.out.v.cell 3⟩, fun x0 x1 x2 x3 => ⟨(pu_put M9.out x0 x1 x2 x3).2.1.cell 2, (pu_put M9.out x0 x1 x2 x3).2.1.cell 3⟩⟩; obtain ⟨e0, e1, e2, e3, fe0, fe1, fe2, fe3⟩ := M9.out.r.four; clear hown9 hkp9 hbw9))
      all_goals
        have P9 := pu_put M9.out (.int .i64 0) (.int .i64 0) (.slice A9 (i + m) c9) (.int .i64 v.rest)
        obtain ⟨z0, z1, z2, z3, -⟩ := P9.1.four
        have FIN : Hid (ValQ q w (.returned (.agg #[.int .i64 0, .int .i64 0, .slice A9 (i + m) c9, .int .i64 v.rest])) _) := Lib.hid ⟨A9, c9, by rw [HPR.out.1, HPR.out.2.1, HPR.out.2.2, HLQ.out], Lib.hid (by rw [← HLQ.out, HE.out, csV_app]; exact P9.2.2.2 _ _ _ _ O9.out), P9.2.2.1⟩
        clear P9 e0 e1 e2 e3 fe0 fe1 fe2 fe3
        go_wp2_with fail
        exact bodyPost_ret (v := .agg #[.int .i64 0, .int .i64 0, .slice A9 (i + m) c9, .int .i64 v.rest]) (by simp [results, Tryz.results37, go_sem, z0, z1, z2, z3]) rfl FIN.out
    · have HE : Hid (q.cells = (v.cells.take i ++ [(t, u)]) ++ v.cells.drop (i)) := Lib.hid (by rw [HJ.out, if_neg hu])
      have u1 : (u == v.rest) = false := by simpa using hu
      have u2 : (u != v.rest) = true := by simpa using hu
      clear hu HJ
      have B3 := Lib.hid (new_below w2 (.cells #[.int .i64 t, .int .i64 u] 96))
      have O3 := Lib.hid (own_below O2.out B3.out)
      have M3 := Lib.hid (M2.out.below B3.out)
      go_wp2_with (at_builtin; refine wpl_app2 45 96 Tryz.underlying45 (.agg #[.int .i64 0, .int .i64 0]) 2 16 infoCell rfl (by decide) rfl _ _ rfl w.heap.size k2 i (csV (v.cells.take i)) rfl O3.out w2.heap.size #[.int .i64 t, .int .i64 u] rfl (HB.new _ _ _) rfl (by simp [Value.oneCell']) (by omega) (by unfold maxLen; omega) M3.out.b.size ?_)
      intro g4 cap4 w4 hown4 hkp4 hbw4 _
      have M4 := Lib.hid (M3.out.keep O3.out hkp4 hbw4)
      have O4 := Lib.hid (own_re (ys := csV (v.cells.take i ++ [(t, u)])) hown4.out rfl (by rw [csV_snoc]))
      clear hown4 hkp4 hbw4 v0 v1 v2 v3 O2 M2 O3 M3 B3
      obtain ⟨v0, v1, v2, v3, -⟩ := M4.out.v.four
      generalize hk4 : (Value.slice (some ⟨g4, 0, none⟩) (i + 1) cap4) = k4 at *
      clear hk4
      go_upto_region 8 with fail
      have HD2 := Lib.hid ((HC2.out.below M4.out.b).below ((Below.refl _ _).drew))
      have hn9 : (i + 1) + m ≤ 1000000 := by omega
      have HLQ : Hid ((i + 1) + m = q.cells.length) := Lib.hid (by rw [HE.out, List.length_append, HDL.out]; rw [List.length_append, HTL.out]; rfl)
      have MD : Hid (PuM w v A c w4.drew) := Lib.hid (M4.out.below ((Below.refl _ _).drew))
      have OD := Lib.hid (own_dr O4.out)
      have KE : Hid (PuE w.heap.size (.slice A v.cells.length c) (.int .i64 v.rest) w4.drew) := Lib.hid ⟨MD.out.v.cell 2, MD.out.v.cell 3⟩
      have RD := R2.out
      go_region_held3 (fun W => PuE w.heap.size (.slice A v.cells.length c) (.int .i64 v.rest) W)
        ((first | (with_reducible exact KE.out) | (with_reducible exact KD.out.1) | (with_reducible exact KD.out.2 _ _ _ _)))
        (first
          | (refine step_csg 45 96 Tryz.underlying45 (.agg #[.int .i64 0, .int .i64 0]) infoCell rfl rfl _ _ rfl w.heap.size k4 ((i + 1)) (csV (v.cells.take i ++ [(t, u)])) rfl OD.out _ _ (v.cells.drop (i)) m HDL.out rfl HD2.out hn9 MD.out.b.size ?_; intro k9 w9 hown9 hkp9 hbw9; obtain ⟨A9, c9, hk9⟩ := own_val hown9.out; subst hk9; have M9 := Lib.hid (MD.out.keep OD.out hkp9 hbw9); have O9 := hown9; have KD : Hid (PuE w.heap.size (.slice A v.cells.length c) (.int .i64 v.rest) w9 ∧ ∀ x0 x1 x2 x3, PuE w.heap.size (.slice A v.cells.length c) (.int .i64 v.rest) ((((w9.setCell ⟨w.heap.size + 1, 0, none⟩ x0).setCell ⟨w.heap.size + 1, 1, none⟩ x1).setCell ⟨w.heap.size + 1, 2, none⟩ x2).setCell ⟨w.heap.size + 1, 3, none⟩ x3)) := Lib.hid ⟨⟨M9.out.v.cell 2, M9.out.v.cell 3⟩, fun x0 x1 x2 x3 => ⟨(pu_put M9.out x0 x1 x2 x3).2.1.cell 2, (pu_put M9.out x0 x1 x2 x3).2.1.cell 3⟩⟩; obtain ⟨e0, e1, e2, e3, fe0, fe1, fe2, fe3⟩ := M9.out.r.four; clear hown9 hkp9 hbw9))
      all_goals
        have P9 := pu_put M9.out (.int .i64 0) (.int .i64 0) (.slice A9 ((i + 1) + m) c9) (.int .i64 v.rest)
        obtain ⟨z0, z1, z2, z3, -⟩ := P9.1.four
        have FIN : Hid (ValQ q w (.returned (.agg #[.int .i64 0, .int .i64 0, .slice A9 ((i + 1) + m) c9, .int .i64 v.rest])) _) := Lib.hid ⟨A9, c9, by rw [HPR.out.1, HPR.out.2.1, HPR.out.2.2, HLQ.out], Lib.hid (by rw [← HLQ.out, HE.out, csV_app]; exact P9.2.2.2 _ _ _ _ O9.out), P9.2.2.1⟩
        clear P9 e0 e1 e2 e3 fe0 fe1 fe2 fe3
        go_wp2_with fail
        exact bodyPost_ret (v := .agg #[.int .i64 0, .int .i64 0, .slice A9 ((i + 1) + m) c9, .int .i64 v.rest]) (by simp [results, Tryz.results37, go_sem, z0, z1, z2, z3]) rfl FIN.out

end Go.Proofs.YtaodebpogibimaaGreat
