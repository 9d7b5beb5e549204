/-
  Values of nodes: the reckoning of an array's look-up, and of an array that is put to.
  Values of nodes: the reckoning of a node, whole; mean.Value, whole.
  An ask in a world: does it hold: mean.Holds.
  The reference's values of nodes: MeanValue for any ask and world; MeanHolds.
  Values of nodes: the law that compares mean.Value with the reference.
  Asks and worlds that are handed in.
  The reference's values of nodes: MeanHolds.
  Values of nodes: the law that compares mean.Holds with the reference.
-/
import Derived.Test.YtaodebpogibimaaGreatMevP
import Derived.Test.YtaodebpogibimaaGreatG14
import Derived.Test.YtaodebpogibimaaGreatRefX
import Derived.Test.YtaodebpogibimaaGreatG12
import Derived.Test.YtaodebpogibimaaGreatG00
namespace Go.Proofs.YtaodebpogibimaaGreat
open Go.RowKit

/-- A value in memory, and some numbers. -/
@[reducible] def GtE (bv ov bf of : Nat) (x0 x1 x2 x3 y0 y1 : Value) (W : World) : Prop := W.cell? ⟨bv, ov, none⟩ = some x0 ∧ W.cell? ⟨bv, ov + 1, none⟩ = some x1 ∧ W.cell? ⟨bv, ov + 2, none⟩ = some x2 ∧ W.cell? ⟨bv, ov + 3, none⟩ = some x3 ∧ W.cell? ⟨bf, of + 2, none⟩ = some y0 ∧ W.cell? ⟨bf, of + 4, none⟩ = some y1
theorem gte_of {bv ov bf of : Nat} {x0 x1 x2 x3 y0 y1 : Value} {W W' : World} (h : GtE bv ov bf of x0 x1 x2 x3 y0 y1 W) (h1 : W'.heap[bv]? = W.heap[bv]?) (h2 : W'.heap[bf]? = W.heap[bf]?) : GtE bv ov bf of x0 x1 x2 x3 y0 y1 W' :=
  ⟨(World.cell?_of_block h1).trans h.1, (World.cell?_of_block h1).trans h.2.1, (World.cell?_of_block h1).trans h.2.2.1, (World.cell?_of_block h1).trans h.2.2.2.1, (World.cell?_of_block h2).trans h.2.2.2.2.1, (World.cell?_of_block h2).trans h.2.2.2.2.2⟩
@[reducible] def GgE (bv ov bf of : Nat) (x0 x1 x2 x3 y0 : Value) (W : World) : Prop := W.cell? ⟨bv, ov, none⟩ = some x0 ∧ W.cell? ⟨bv, ov + 1, none⟩ = some x1 ∧ W.cell? ⟨bv, ov + 2, none⟩ = some x2 ∧ W.cell? ⟨bv, ov + 3, none⟩ = some x3 ∧ W.cell? ⟨bf, of + 2, none⟩ = some y0
theorem gge_of {bv ov bf of : Nat} {x0 x1 x2 x3 y0 : Value} {W W' : World} (h : GgE bv ov bf of x0 x1 x2 x3 y0 W) (h1 : W'.heap[bv]? = W.heap[bv]?) (h2 : W'.heap[bf]? = W.heap[bf]?) : GgE bv ov bf of x0 x1 x2 x3 y0 W' :=
  ⟨(World.cell?_of_block h1).trans h.1, (World.cell?_of_block h1).trans h.2.1, (World.cell?_of_block h1).trans h.2.2.1, (World.cell?_of_block h1).trans h.2.2.2.1, (World.cell?_of_block h2).trans h.2.2.2.2⟩
theorem cs_cell {w : World} {b o : Nat} {cs : List (Int × Int)} (h : CsAt w (some ⟨b, o, none⟩) cs) {i : Nat} (hi : i < cs.length) : w.cell? ⟨b, o + i * 2, none⟩ = some (.int .i64 (cn cs i).1) := by
  obtain ⟨b', o', e, _, c, _⟩ := cs_at h hi
  injection e with e
  injection e with e1 e2
  subst e1 e2
  exact c
theorem nums1 (kids : List Vl) (j : Nat) : (cn (numsOf kids) j).1 = (vn kids j).num := by
  unfold cn numsOf vn
  rw [List.getD_eq_getElem?_getD, List.getD_eq_getElem?_getD, List.getElem?_map]
  cases kids[j]? with
  | none => rfl
  | some v => rfl
set_option maxRecDepth 100000 in
set_option maxHeartbeats 8000000 in
theorem eval_get {fidd : Nat} (capss : Array Value) (sort : Int) (N D : Int) (nm : ByteArray) (Ak Av : Option Addr) (kl kc vc : Nat) (kids : List Vl) (hk : kids.length ≤ 1000) (w : World) (hv : VsAt w Av kids) (h3 : 2 ≤ kids.length) (hcl : (vn kids 0).cells.length ≤ 2000) (hsr : Srt (vn kids 0).cells) :
    Calls Tryz.prog 15 #[.agg #[.int .i64 24, .slice Ak kl kc, .int .i64 N, .int .i64 D, .string nm], .int .i64 sort, .slice Av kids.length vc, .func (.func fidd) #[] capss] w (EvQ (Vl.mk (getF (vn kids 0) (vn kids 1).num) 1 [] 0) 0 w) := by
  have HN := Lib.hid (ev_new w 24 N D nm Ak kl kc)
  have HV := Lib.hid hv
  have HLN := Lib.hid (numsOf_len kids)
  obtain ⟨bv, ov, rfl, hbv, y0, y1, y3, Ac0, cc0, y2, hlc, _, hcs⟩ := vs_at (i := 0) hv (by omega)
  simp only [Nat.add_zero, Nat.zero_add, Nat.zero_mul] at y0 y1 y2 y3
  have HPK := Lib.hid (fun (W : World) (k : Below w.heap.size w W) => get_any (vn kids 0) Ac0 cc0 (vn kids 1).num hcl hsr W (hcs.below k))
  have HYS := Lib.hid (And.intro y0 (And.intro y1 (And.intro y2 y3)))
  have hn1 : 1 < (numsOf kids).length := by rw [numsOf_len]; omega
  skip
  have HN1 := Lib.hid (nums1 kids 1)
  have HN2 := Lib.hid (nums1 kids 2)
  clear y0 y1 y2 y3 hcs hsr hcl hlc
  generalize getF (vn kids 0) (vn kids 1).num = x at *
  have hlt3 : 2 ≤ kids.length := h3
  generalize hL : kids.length = L at *
  have HL := Lib.hid hL
  clear hv hL
  go_enter Tryz.func15, Tryz.ntmps15
  go_wp2_with fail
  go_loopw [10, 12, 17] (fun nv _ k wr => ∃ i : Nat, i ≤ L ∧ k = .int .i64 i ∧ Hid (wr.ownsRow w.heap.size 44 2 nv i (csV (numsOf (kids.take i)))) ∧ Hid (EvM w 24 N D nm Ak kl kc wr)) (fun _ _ k _ => L - (intOf k).toNat)
  case atStart => exact ⟨0, by omega, rfl, Lib.hid (own_nil _ _ _ _), Lib.hid ⟨HN.out.1, HN.out.2.1, HN.out.2.2.1, HN.out.2.2.2⟩⟩
  case round =>
    clear HN
    obtain ⟨i, hi, rfl, HO, HM⟩ := hrel
    by_cases hlt : i < L
    · obtain ⟨b, o, hAv, hb, c0, c1, c3, Ac, cc, c2, _⟩ := vs_at (i := i) (HV.out.below HM.out.b) (by rw [HL.out]; exact hlt)
      have t3 : decide ((i : Int) < L) = true := by simpa using hlt
      injection hAv with hAv
      injection hAv with hA1 hA2
      subst hA1 hA2
      have HT := Lib.hid (numsOf_take (kids := kids) (i := i) (by rw [HL.out]; exact hlt))
      simp only [Nat.add_zero, Nat.zero_add] at c0 c1 c2 c3
      generalize (vn kids i).num = qn at *
      generalize (vn kids i).den = qd at *
      generalize (vn kids i).rest = qr at *
      generalize (vn kids i).cells.length = ql at *
      generalize u10 = kv at *
      have B1 := Lib.hid (new_below wr (.cells #[.int .i64 qn, .int .i64 qd, .slice Ac ql cc, .int .i64 qr] 47))
      have B2 := Lib.hid (new_below (wr.alloc (.cells #[.int .i64 qn, .int .i64 qd, .slice Ac ql cc, .int .i64 qr] 47)) (.cells #[.int .i64 qn, .int .i64 qd] 44))
      have HO3 := Lib.hid (own_below (own_below HO.out B1.out) B2.out)
      have HM3 := Lib.hid ((HM.out.below B1.out).below B2.out)
      go_wp2_with (at_builtin; refine wpl_app2 73 44 Tryz.underlying73 (.agg #[.int .i64 0, .int .i64 0]) 2 16 infoFrac rfl (by decide) rfl _ _ rfl w.heap.size kv i (csV (numsOf (kids.take i))) rfl HO3.out (wr.heap.size + 1) #[.int .i64 qn, .int .i64 qd] rfl (HB.new1 _ _ _ _) rfl (by simp [Value.oneCell']) (by omega) (by unfold maxLen; omega) HM3.out.b.size ?_)
      intro g4 cap4 w4 hown4 hkp4 hbw4 _
      have M4 : Hid (EvM w 24 N D nm Ak kl kc w4) := Lib.hid ⟨hkp4 _ _ _ (own_ne HO3.out HM3.out.n (by decide)) HM3.out.n, hkp4 _ _ _ (own_ne HO3.out HM3.out.v (by decide)) HM3.out.v, hkp4 _ _ _ (own_ne HO3.out HM3.out.f (by decide)) HM3.out.f, hbw4 _ HM3.out.b⟩
      have O4 := hown4
      clear hkp4 hbw4 hown4
      go_wp2_with fail
      go_round
      case rel => exact ⟨i + 1, by omega, by go_num, Lib.hid (by rw [HT.out, csV_snoc]; exact O4.out), M4⟩
      case measure => simp [intOf]; omega
    · obtain rfl : i = L := by omega
      have t3 : decide ((i : Int) < i) = false := by simp
      obtain ⟨An, nc, hkv⟩ := own_val HO.out
      subst hkv
      have HFS : Hid (numsOf (kids.take i) = numsOf kids) := Lib.hid (by rw [List.take_of_length_le (by rw [HL.out]; exact Nat.le_refl _)])
      have HC : Hid (CsAt wr An (numsOf kids)) := Lib.hid (by
        rw [← HFS.out]
        exact own_cs HO.out (by rw [HFS.out, HLN.out]))
      have HLEN : Hid ((numsOf kids).length = i) := HLN
      obtain ⟨k0, k1, k2, k3, k4⟩ := HM.out.n.five
      obtain ⟨bf, of', rfl, hbf, _, _⟩ := cs_at (i := 1) HC.out hn1
      have z1 := cs_cell HC.out hn1
      skip
      rw [HN1.out] at z1
      skip
      have KF : Hid (∀ W', W'.heap[bv]? = wr.heap[bv]? → W'.heap[bf]? = wr.heap[bf]? → GgE bv ov bf of' (.int .i64 (vn kids 0).num) (.int .i64 (vn kids 0).den) (.slice Ac0 (vn kids 0).cells.length cc0) (.int .i64 (vn kids 0).rest) (.int .i64 (vn kids 1).num) W') := Lib.hid (fun W' h1 h2 => gge_of ⟨(HM.out.b.cell (p := ⟨bv, ov, none⟩) hbv).trans HYS.out.1, (HM.out.b.cell (p := ⟨bv, ov + 1, none⟩) hbv).trans HYS.out.2.1, (HM.out.b.cell (p := ⟨bv, ov + 2, none⟩) hbv).trans HYS.out.2.2.1, (HM.out.b.cell (p := ⟨bv, ov + 3, none⟩) hbv).trans HYS.out.2.2.2, z1 ⟩ h1 h2)
      have nv : bf ≠ w.heap.size + 1 := fun z => (own_ne HO.out HM.out.v (by decide)) (by simp [Value.ownBlock, z])
      have nf : bf ≠ w.heap.size + 1 + 1 := fun z => (own_ne HO.out HM.out.f (by decide)) (by simp [Value.ownBlock, z])
      have bvr : bv < wr.heap.size := Nat.lt_of_lt_of_le hbv HM.out.b.size
      have l1 : 1 < i := by omega
      have l1z : (1 : Int) < i := by omega
      have l0 : 0 < i := by omega
      have l0z : (0 : Int) < i := by omega
      skip
      have T1 := Lib.hid (fun (W : World) (k : Below wr.heap.size wr W) => HPK.out W (bw_below (Nat.le_refl _) HM.out.b k))
      clear z1
      generalize (vn kids 0).num = v0n at *
      generalize (vn kids 0).den = v0d at *
      generalize (vn kids 0).cells.length = v0l at *
      generalize (vn kids 0).rest = v0r at *
      generalize (vn kids 1).num = v1n at *
      generalize (vn kids 2).num = v2n at *
      go_upto_region 18 with fail
      clear k0 k1 k2 k3 k4
      go_region_held3 (fun W => GgE bv ov bf of' (.int .i64 v0n) (.int .i64 v0d) (.slice Ac0 v0l cc0) (.int .i64 v0r) (.int .i64 v1n) W)
        ((refine KF.out _ ?_ ?_ <;> (first | (simp (disch := (first | omega | (simp only [sz_drew, sz_set, sz_alloc]; omega))) only [hp_set, L6.out.1, L6.out.2]; done) | (simp only [L5.out.1, L5.out.2]; done) | (simp only [hp_drew]; done))))
        (first
          | (go_at_call 36; refine (T1.out _ (by go_grown)).mono ?_; rintro e w1 ⟨rfl, hb1⟩; have G1 : Hid (Below wr.heap.size wr w1) := Lib.hid (below_after (show Below wr.heap.size wr _ by go_grown) hb1); have L5 : Hid (w1.heap[bv]? = wr.heap[bv]? ∧ w1.heap[bf]? = wr.heap[bf]?) := Lib.hid ⟨G1.out.block _ bvr, G1.out.block _ hbf⟩; clear hb1)
          | (go_at_call 35; refine (whole_any _ _).mono ?_; rintro e w2 ⟨rfl, hb2⟩; have G2 : Hid (Below wr.heap.size wr w2) := Lib.hid (below_after (by first | exact G1.out | exact G1.out.drew) hb2); have L6 : Hid (w2.heap[bv]? = wr.heap[bv]? ∧ w2.heap[bf]? = wr.heap[bf]?) := Lib.hid ⟨G2.out.block _ bvr, G2.out.block _ hbf⟩; obtain ⟨e0, e1, e2, e3, fe0, fe1, fe2, fe3⟩ := (HM.out.below G2.out).v.four; obtain ⟨g0, g1, fg0, fg1⟩ := (HM.out.below G2.out).f.two; clear hb2))
      all_goals
        have M9 := Lib.hid (HM.out.below G2.out)
        have P8 := ev_put M9.out (Vl.mk x 1 [] 0) none 0 0
        dsimp only [List.length_nil] at P8
        have P9 := Lib.hid P8
        obtain ⟨z0, z1, z2, z3, -⟩ := P9.out.1.four
        obtain ⟨y0, y1, -⟩ := P9.out.2.1.two
        have FIN : Hid (EvQ (Vl.mk x 1 [] 0) 0 w (.returned (.tuple #[.agg #[.int .i64 x, .int .i64 1, .slice none 0 0, .int .i64 0], .agg #[.int .i64 0, .int .i64 0]])) _) := Lib.hid ⟨none, 0, rfl, Lib.hid (own_nil _ _ _ _), P9.out.2.2.1⟩
        clear P8 P9
        go_wp2_with fail
        exact bodyPost_ret (v := .tuple #[.agg #[.int .i64 x, .int .i64 1, .slice none 0 0, .int .i64 0], .agg #[.int .i64 0, .int .i64 0]]) (by simp [results, Tryz.results15, go_sem, z0, z1, z2, z3, y0, y1]) rfl FIN.out
set_option maxRecDepth 100000 in
set_option maxHeartbeats 8000000 in
theorem eval_put {fidd : Nat} (capss : Array Value) (sort : Int) (N D : Int) (nm : ByteArray) (Ak Av : Option Addr) (kl kc vc : Nat) (kids : List Vl) (hk : kids.length ≤ 1000) (w : World) (hv : VsAt w Av kids) (h3 : 3 ≤ kids.length) (hcl : (vn kids 0).cells.length ≤ 2000) (hsr : Srt (vn kids 0).cells) :
    Calls Tryz.prog 15 #[.agg #[.int .i64 25, .slice Ak kl kc, .int .i64 N, .int .i64 D, .string nm], .int .i64 sort, .slice Av kids.length vc, .func (.func fidd) #[] capss] w (EvQ (putF (vn kids 0) (vn kids 1).num (vn kids 2).num) 0 w) := by
  have HN := Lib.hid (ev_new w 25 N D nm Ak kl kc)
  have HV := Lib.hid hv
  have HLN := Lib.hid (numsOf_len kids)
  obtain ⟨bv, ov, rfl, hbv, y0, y1, y3, Ac0, cc0, y2, hlc, _, hcs⟩ := vs_at (i := 0) hv (by omega)
  simp only [Nat.add_zero, Nat.zero_add, Nat.zero_mul] at y0 y1 y2 y3
  have HPK := Lib.hid (fun (W : World) (k : Below w.heap.size w W) => putv_any (vn kids 0) Ac0 cc0 (vn kids 1).num (vn kids 2).num hcl hlc hsr W (hcs.below k))
  have HYS := Lib.hid (And.intro y0 (And.intro y1 (And.intro y2 y3)))
  have hn1 : 1 < (numsOf kids).length := by rw [numsOf_len]; omega
  have hn2 : 2 < (numsOf kids).length := by rw [numsOf_len]; omega
  have HN1 := Lib.hid (nums1 kids 1)
  have HN2 := Lib.hid (nums1 kids 2)
  clear y0 y1 y2 y3 hcs hsr hcl hlc
  unfold ValQ at HPK
  generalize putF (vn kids 0) (vn kids 1).num (vn kids 2).num = q at *
  have hlt3 : 3 ≤ kids.length := h3
  generalize hL : kids.length = L at *
  have HL := Lib.hid hL
  clear hv hL
  go_enter Tryz.func15, Tryz.ntmps15
  go_wp2_with fail
  go_loopw [10, 12, 17] (fun nv _ k wr => ∃ i : Nat, i ≤ L ∧ k = .int .i64 i ∧ Hid (wr.ownsRow w.heap.size 44 2 nv i (csV (numsOf (kids.take i)))) ∧ Hid (EvM w 25 N D nm Ak kl kc wr)) (fun _ _ k _ => L - (intOf k).toNat)
  case atStart => exact ⟨0, by omega, rfl, Lib.hid (own_nil _ _ _ _), Lib.hid ⟨HN.out.1, HN.out.2.1, HN.out.2.2.1, HN.out.2.2.2⟩⟩
  case round =>
    clear HN
    obtain ⟨i, hi, rfl, HO, HM⟩ := hrel
    by_cases hlt : i < L
    · obtain ⟨b, o, hAv, hb, c0, c1, c3, Ac, cc, c2, _⟩ := vs_at (i := i) (HV.out.below HM.out.b) (by rw [HL.out]; exact hlt)
      have t3 : decide ((i : Int) < L) = true := by simpa using hlt
      injection hAv with hAv
      injection hAv with hA1 hA2
      subst hA1 hA2
      have HT := Lib.hid (numsOf_take (kids := kids) (i := i) (by rw [HL.out]; exact hlt))
      simp only [Nat.add_zero, Nat.zero_add] at c0 c1 c2 c3
      generalize (vn kids i).num = qn at *
      generalize (vn kids i).den = qd at *
      generalize (vn kids i).rest = qr at *
      generalize (vn kids i).cells.length = ql at *
      generalize u10 = kv at *
      have B1 := Lib.hid (new_below wr (.cells #[.int .i64 qn, .int .i64 qd, .slice Ac ql cc, .int .i64 qr] 47))
      have B2 := Lib.hid (new_below (wr.alloc (.cells #[.int .i64 qn, .int .i64 qd, .slice Ac ql cc, .int .i64 qr] 47)) (.cells #[.int .i64 qn, .int .i64 qd] 44))
      have HO3 := Lib.hid (own_below (own_below HO.out B1.out) B2.out)
      have HM3 := Lib.hid ((HM.out.below B1.out).below B2.out)
      go_wp2_with (at_builtin; refine wpl_app2 73 44 Tryz.underlying73 (.agg #[.int .i64 0, .int .i64 0]) 2 16 infoFrac rfl (by decide) rfl _ _ rfl w.heap.size kv i (csV (numsOf (kids.take i))) rfl HO3.out (wr.heap.size + 1) #[.int .i64 qn, .int .i64 qd] rfl (HB.new1 _ _ _ _) rfl (by simp [Value.oneCell']) (by omega) (by unfold maxLen; omega) HM3.out.b.size ?_)
      intro g4 cap4 w4 hown4 hkp4 hbw4 _
      have M4 : Hid (EvM w 25 N D nm Ak kl kc w4) := Lib.hid ⟨hkp4 _ _ _ (own_ne HO3.out HM3.out.n (by decide)) HM3.out.n, hkp4 _ _ _ (own_ne HO3.out HM3.out.v (by decide)) HM3.out.v, hkp4 _ _ _ (own_ne HO3.out HM3.out.f (by decide)) HM3.out.f, hbw4 _ HM3.out.b⟩
      have O4 := hown4
      clear hkp4 hbw4 hown4
      go_wp2_with fail
      go_round
      case rel => exact ⟨i + 1, by omega, by go_num, Lib.hid (by rw [HT.out, csV_snoc]; exact O4.out), M4⟩
      case measure => simp [intOf]; omega
    · obtain rfl : i = L := by omega
      have t3 : decide ((i : Int) < i) = false := by simp
      obtain ⟨An, nc, hkv⟩ := own_val HO.out
      subst hkv
      have HFS : Hid (numsOf (kids.take i) = numsOf kids) := Lib.hid (by rw [List.take_of_length_le (by rw [HL.out]; exact Nat.le_refl _)])
      have HC : Hid (CsAt wr An (numsOf kids)) := Lib.hid (by
        rw [← HFS.out]
        exact own_cs HO.out (by rw [HFS.out, HLN.out]))
      have HLEN : Hid ((numsOf kids).length = i) := HLN
      obtain ⟨k0, k1, k2, k3, k4⟩ := HM.out.n.five
      obtain ⟨bf, of', rfl, hbf, _, _⟩ := cs_at (i := 1) HC.out hn1
      have z1 := cs_cell HC.out hn1
      have z2 := cs_cell HC.out hn2
      rw [HN1.out] at z1
      rw [HN2.out] at z2
      have KF : Hid (∀ W', W'.heap[bv]? = wr.heap[bv]? → W'.heap[bf]? = wr.heap[bf]? → GtE bv ov bf of' (.int .i64 (vn kids 0).num) (.int .i64 (vn kids 0).den) (.slice Ac0 (vn kids 0).cells.length cc0) (.int .i64 (vn kids 0).rest) (.int .i64 (vn kids 1).num) (.int .i64 (vn kids 2).num) W') := Lib.hid (fun W' h1 h2 => gte_of ⟨(HM.out.b.cell (p := ⟨bv, ov, none⟩) hbv).trans HYS.out.1, (HM.out.b.cell (p := ⟨bv, ov + 1, none⟩) hbv).trans HYS.out.2.1, (HM.out.b.cell (p := ⟨bv, ov + 2, none⟩) hbv).trans HYS.out.2.2.1, (HM.out.b.cell (p := ⟨bv, ov + 3, none⟩) hbv).trans HYS.out.2.2.2, z1, z2⟩ h1 h2)
      have nv : bf ≠ w.heap.size + 1 := fun z => (own_ne HO.out HM.out.v (by decide)) (by simp [Value.ownBlock, z])
      have nf : bf ≠ w.heap.size + 1 + 1 := fun z => (own_ne HO.out HM.out.f (by decide)) (by simp [Value.ownBlock, z])
      have bvr : bv < wr.heap.size := Nat.lt_of_lt_of_le hbv HM.out.b.size
      have l1 : 1 < i := by omega
      have l1z : (1 : Int) < i := by omega
      have l0 : 0 < i := by omega
      have l0z : (0 : Int) < i := by omega
      have l2 : 2 < i := by omega
      have l2z : (2 : Int) < i := by omega
      have T1 := Lib.hid (fun (W : World) (k : Below wr.heap.size wr W) => HPK.out W (bw_below (Nat.le_refl _) HM.out.b k))
      clear z1 z2
      generalize (vn kids 0).num = v0n at *
      generalize (vn kids 0).den = v0d at *
      generalize (vn kids 0).cells.length = v0l at *
      generalize (vn kids 0).rest = v0r at *
      generalize (vn kids 1).num = v1n at *
      generalize (vn kids 2).num = v2n at *
      go_upto_region 20 with fail
      clear k0 k1 k2 k3 k4
      go_region_held3 (fun W => GtE bv ov bf of' (.int .i64 v0n) (.int .i64 v0d) (.slice Ac0 v0l cc0) (.int .i64 v0r) (.int .i64 v1n) (.int .i64 v2n) W)
        ((refine KF.out _ ?_ ?_ <;> (first | (simp (disch := (first | omega | (simp only [sz_drew, sz_set, sz_alloc]; omega))) only [hp_set, L5.out.1, L5.out.2]; done) | (simp only [hp_drew]; done))))
        (first
          | (go_at_call 37; refine (T1.out _ (by go_grown)).mono ?_; rintro e w1 ⟨A9, c9, rfl, ho9, hb1⟩; have O9 := ho9; have G1 : Hid (Below wr.heap.size wr w1) := Lib.hid (below_after (show Below wr.heap.size wr _ by go_grown) hb1); have L5 : Hid (w1.heap[bv]? = wr.heap[bv]? ∧ w1.heap[bf]? = wr.heap[bf]?) := Lib.hid ⟨G1.out.block _ bvr, G1.out.block _ hbf⟩; obtain ⟨e0, e1, e2, e3, fe0, fe1, fe2, fe3⟩ := (HM.out.below G1.out).v.four; obtain ⟨g0, g1, fg0, fg1⟩ := (HM.out.below G1.out).f.two; clear hb1 ho9))
      all_goals
        have M9 := Lib.hid (HM.out.below G1.out)
        have P8 := ev_put M9.out q A9 c9 0
        have P9 := Lib.hid P8
        obtain ⟨z0, z1, z2, z3, -⟩ := P9.out.1.four
        obtain ⟨y0, y1, -⟩ := P9.out.2.1.two
        have FIN : Hid (EvQ q 0 w (.returned (.tuple #[.agg #[.int .i64 q.num, .int .i64 q.den, .slice A9 q.cells.length c9, .int .i64 q.rest], .agg #[.int .i64 0, .int .i64 0]])) _) := Lib.hid ⟨A9, c9, rfl, Lib.hid (P9.out.2.2.2 _ _ _ _ (own_base O9.out HM.out.b.size)), P9.out.2.2.1⟩
        clear P8 P9
        go_wp2_with fail
        exact bodyPost_ret (v := .tuple #[.agg #[.int .i64 q.num, .int .i64 q.den, .slice A9 q.cells.length c9, .int .i64 q.rest], .agg #[.int .i64 0, .int .i64 0]]) (by simp [results, Tryz.results15, go_sem, z0, z1, z2, z3, y0, y1]) rfl FIN.out
end Go.Proofs.YtaodebpogibimaaGreat
namespace Go.Proofs.YtaodebpogibimaaGreat
open Go.RowKit

theorem fv_of {n d : Int} (h : d = 1) (h1 : -1073741824 ≤ n) (h2 : n ≤ 1073741824) : fvalid n d = true := by subst h; exact fvalid_whole h1 h2
/-- A node's value, but a name's. -/
theorem eval_rest {fidd : Nat} (capss : Array Value) {op n d ds : Int} {ks : List Int} {kids : List Vl} (N : Nk op n d ds ks kids) (h9 : op ≠ 9) (m : Mg) (nm : ByteArray) (Ak Av : Option Addr) (kl kc vc : Nat) (hk : kids.length ≤ 1000) (w : World) (hv : VsAt w Av kids) :
    Calls Tryz.prog 15 #[.agg #[.int .i64 op, .slice Ak kl kc, .int .i64 n, .int .i64 d, .string nm], .int .i64 (srt op d ds ks), .slice Av kids.length vc, .func (.func fidd) #[] capss] w (EvQ (evV op (srt op d ds ks) n d m kids).1 (evV op (srt op d ds ks) n d m kids).2 w) := by
  have hs := N.sort
  have hkc := N.kc h9
  have hlen := N.len
  rcases op_cases6 N.lo N.hi with ho | rfl | rfl | ho | ho | rfl | rfl
  · obtain ⟨e1, e2, e3⟩ := srt_tru ho hs
    rw [evv_tru ho e1, e1]
    refine eval_truth capss op n d nm Ak Av kl kc vc kids hk w hv ho (fun z => ?_) (fun z => ?_) (fun z => ?_)
    · subst z
      have := hkc (by decide)
      simp [kcN] at this
      omega
    · rcases z with rfl | rfl | rfl | rfl | rfl <;> (have := hkc (by decide); simp [kcN] at this; omega)
    · rw [cn_nums, cn_nums]
      have h2 : 2 ≤ kids.length := by rcases z with rfl | rfl | rfl <;> (have := hkc (by decide); simp [kcN] at this; omega)
      rcases (show (op = 13 ∨ op = 14) ∨ op = 22 by omega) with z | z
      · exact ⟨N.nums (e2 z) 0 (by omega), N.nums (e2 z) 1 (by omega)⟩
      · obtain ⟨a, b⟩ := N.words (e3 z)
        have b0 := b 0 (by omega)
        have b1 := b 1 (by omega)
        have b2 := (mds_big a).2
        exact ⟨fv_of b0.1 (by omega) (by omega), fv_of b1.1 (by omega) (by omega)⟩
  · rw [evv_7]
    have := hkc (by decide)
    simp [kcN] at this
    exact eval_pick capss _ n d nm Ak Av kl kc vc kids hk w hv (by omega)
  · exact absurd rfl h9
  · obtain ⟨e1, e2⟩ := srt_num ho hs
    rw [evv_num ho]
    refine eval_number capss op _ n d nm Ak Av kl kc vc kids hk w hv ho (fun i hi => ?_) (fun z => ?_)
    · rw [cn_nums]
      exact N.nums e2 i hi
    · subst z
      have := hkc (by decide)
      simp [kcN] at this
      exact ⟨by omega, isfr_val (N.num (.inr rfl))⟩
  · by_cases h15 : op = 15
    · subst h15
      obtain ⟨w1, w2, w3, w4⟩ := N.word rfl
      have e : srt 15 d ds ks = 10 + d := rfl
      rw [evv_wrd ho (by rw [e]; omega), e]
      exact eval_word capss 15 (10 + d) n d nm Ak Av kl kc vc kids hk w hv ho (by omega) (fun z => absurd rfl z) (fun z => by omega) (fun z => by omega)
    · have ho2 : op = 16 ∨ op = 17 ∨ op = 18 ∨ op = 19 ∨ op = 20 ∨ op = 21 ∨ op = 23 := by omega
      obtain ⟨e1, e2⟩ := srt_wrd ho2 hs
      obtain ⟨w1, w2⟩ := N.words e2
      rw [evv_wrd ho (by rw [e1]; omega), e1]
      have k1 : 1 ≤ kids.length := by
        rcases ho2 with rfl | rfl | rfl | rfl | rfl | rfl | rfl <;> (have := hkc (by decide); simp [kcN] at this; omega)
      refine eval_word capss op (nth ks 0) n d nm Ak Av kl kc vc kids hk w hv ho w1 (fun _ => ?_) (fun z => ?_) (fun z => N.left z)
      · have := w2 0 k1
        rw [cn_nums]
        exact ⟨k1, (mds_big w1).1, (mds_big w1).2, this.2⟩
      · have k2 : 2 ≤ kids.length := by
          rcases z with rfl | rfl | rfl | rfl | rfl <;> (have := hkc (by decide); simp [kcN] at this; omega)
        have := w2 1 k2
        rw [cn_nums]
        exact ⟨k2, this.2⟩
  · obtain ⟨e1, e2, e3⟩ := srt_24 hs
    have := hkc (by decide)
    simp [kcN] at this
    have g0 := N.good 0 (by omega)
    rw [e2] at g0
    obtain ⟨_, _, _, g4⟩ := gdv5.1 g0
    rw [evv_24, e1]
    exact eval_get capss 4 n d nm Ak Av kl kc vc kids hk w hv (by omega) (Nat.le_trans (good_len g4) (by decide)) (good_srt g4)
  · obtain ⟨e1, e2, e3, e4⟩ := srt_25 hs
    have := hkc (by decide)
    simp [kcN] at this
    have g0 := N.good 0 (by omega)
    rw [e2] at g0
    obtain ⟨_, _, _, g4⟩ := gdv5.1 g0
    rw [evv_25, e1]
    exact eval_put capss 5 n d nm Ak Av kl kc vc kids hk w hv (by omega) (Nat.le_trans (good_len g4) (by decide)) (good_srt g4)
theorem gd_cells {s : Int} {v : Vl} (h : gdV s v = true) : v.cells.length ≤ 2000 := by
  by_cases z : s = 5
  · subst z
    obtain ⟨_, _, _, g4⟩ := gdv5.1 h
    exact Nat.le_trans (good_len g4) (by decide)
  · rw [((gdv_w z).1 h).1]
    exact Nat.zero_le _
theorem enters_clos : Enters 12 := fun _ _ => by kernel_rfl
/-- A node's value. -/
theorem eval_any {qs : List Dc} {ns : List Nd} {ms : List Mg} {i : Nat} {vs : List Vl} (hk : NdK qs ns ms i) (hi : i < ns.length) (hv : ∀ j, j < i → gdV (nth (srtL qs ns ns.length) j) (vn vs j) = true) (Ad An Ah Am : Option Addr) (dc nc hl hc mc : Nat) (w W : World) (hq : qs.length ≤ maxLen) (hm : ms.length ≤ maxLen) (hd : DsAt W Ad qs) (hms : MsAt W Am ms)
    (hV : VaM w (.slice Ad qs.length dc) (.slice An ns.length nc) (.slice Ah hl hc) (.slice Am ms.length mc) W) (Av Ak : Option Addr) (vc kc : Nat) (hkv : VsAt W Av (kidsV ns i vs)) :
    Calls Tryz.prog 15 #[.agg #[.int .i64 (nn ns i).op, .slice Ak (nn ns i).kids.length kc, .int .i64 (nn ns i).n, .int .i64 (nn ns i).d, .string (nn ns i).name], .int .i64 (nth (srtL qs ns ns.length) i), .slice Av (nn ns i).kids.length vc, .func (.func 12) #[] #[.pointer (some ⟨w.heap.size + 1, 0, none⟩), .pointer (some ⟨w.heap.size, 0, none⟩)]] W (EvQ (evOf qs ns ms i vs).1 (evOf qs ns ms i vs).2 W) := by
  have N := nd_nk hk hi hv
  have h8 := (ndc_zero hk.c).2.2.1
  have hl2 := kids_len ns i vs
  unfold evOf
  rw [hk.s]
  unfold ndT
  by_cases h9 : (nn ns i).op = 9
  · obtain ⟨k, k1, k2, k3, k4, k5, k6⟩ := hk.m h9
    obtain ⟨m1, m2, m3, m4, m5⟩ := mgc_zero k6
    obtain ⟨Ar, cr, Ac, cc, x1, x2, x3, x4⟩ := clos_any qs ms (nn ns i).name Ad Am An Ah dc mc ns.length nc hl hc (w.heap.size + 1) w.heap.size k hq hm k1 k4 W hd hms hV.m hV.a
    rw [k2, h9, evv_9]
    have := eval_name enters_clos #[.pointer (some ⟨w.heap.size + 1, 0, none⟩), .pointer (some ⟨w.heap.size, 0, none⟩)] (srt 9 (nn ns i).d (kDs qs (nn ns i)) (kSo (srtL qs ns i) (nn ns i).kids)) (nn ns i).n (nn ns i).d (nn ns i).name Ak Av (nn ns i).kids.length kc vc (kidsV ns i vs) (by omega) W hkv (mn ms k) Ar Ac cr cc (by unfold maxLen; omega) (gd_cells m4) (fun j hj => gd_cells (m5 _ (by rw [show en (mn ms k).rows j = (mn ms k).rows[j] by simp [en, List.getD, hj]]; exact List.getElem_mem hj))) x1 x2 x4
    rw [hl2] at this
    exact this
  · have := eval_rest (fidd := 12) #[.pointer (some ⟨w.heap.size + 1, 0, none⟩), .pointer (some ⟨w.heap.size, 0, none⟩)] N h9 (mn ms (fdI qs (nn ns i).name)) (nn ns i).name Ak Av (nn ns i).kids.length kc vc (by omega) W hkv
    rw [hl2] at this
    exact this
/-- The values of all nodes, or the first fault. -/
def mvR (qs : List Dc) (ns : List Nd) (hs : List Int) (ms : List Mg) : Except (Int × Int) (List Vl) := if meC qs ns hs ms = 0 then valsE (evOf qs ns ms) ns.length else .error (meC qs ns hs ms, meA qs ns hs ms)
theorem value_any (qs : List Dc) (ns : List Nd) (hs : List Int) (ms : List Mg) (Ad An Ah Am : Option Addr) (dc nc hc mc : Nat) (w : World) (h : AwAt w qs ns hs ms Ad An Ah Am dc nc hc mc) :
    Calls Tryz.prog 5 #[.agg #[.slice Ad qs.length dc, .slice An ns.length nc, .slice Ah hs.length hc], .agg #[.slice Am ms.length mc]] w (ValsQ (mvR qs ns hs ms) w) := by
  unfold mvR
  by_cases h0 : meC qs ns hs ms = 0
  · rw [if_pos h0]
    obtain ⟨h1, h2, h3, _⟩ := mec_zero h0
    obtain ⟨h4, h5⟩ := nd_known h0
    have hL : akL qs ns hs = srtL qs ns ns.length := by unfold akL; rw [if_pos h1]
    refine value_ok qs ns hs ms (srtL qs ns ns.length) Ad An Ah Am dc nc hc mc w h h0 h2 h1 (ak_a0 h1).1 hL (srtL_len _ _ _) (by omega) (fun i hi => ?_) (fun i hi j hj => ?_) (evOf qs ns ms) (fun i vs W Av Ak vc kc hi hv hV hkv => ?_)
    · have := (ndc_zero (h5 i hi).c).2.2.1
      omega
    · have := (ndc_zero (h5 i hi).c).2.2.2.2.1 _ (List.getElem_mem hj)
      rw [← nth_of hj] at this
      omega
    · exact eval_any (h5 i hi) hi (vals_good h5 (by omega) hv) Ad An Ah Am dc nc hs.length hc mc w W (Nat.le_trans h.d1 h.d2) (Nat.le_trans h.m1 h.m2) (h.fd.below hV.b) (h.fm.below hV.b) hV Av Ak vc kc hkv
  · rw [if_neg h0]
    exact value_bad qs ns hs ms Ad An Ah Am dc nc hc mc w h h0
end Go.Proofs.YtaodebpogibimaaGreat
namespace Go.Proofs.YtaodebpogibimaaGreat
open Go.RowKit

theorem enters_holds1 : Enters 21 := fun args w => by kernel_rfl
set_option maxHeartbeats 1000000 in
theorem containsint_any {fid : Nat} (hc : Enters fid) (xs : List Int) (A : Option Addr) (c : Nat) (caps : Array Value) (p : Int → Bool) (C : World → Prop) (hC : ∀ W W', C W → Below W.heap.size W W' → C W') (hl : xs.length ≤ maxLen)
    (H : ∀ i W, i < xs.length → C W → Calls Tryz.prog fid (#[.int .i64 (nth xs i)] ++ caps) W fun e w' => e = .returned (.bool (p (nth xs i))) ∧ Below W.heap.size W w')
    (w : World) (h : Is w A xs) (hw : C w) :
    Calls Tryz.prog 20 #[.slice A xs.length c, .func (.func fid) #[] caps] w fun e w' => e = .returned (.bool (xs.any p)) ∧ Below w.heap.size w w' := by
  have HX := Lib.hid (indexint_any hc xs A c caps p C hC hl H w h hw)
  clear hc hC hl H hw h
  generalize xs.length = L at *
  go_enter Tryz.func20, Tryz.ntmps20
  go_wp2_with fail
  refine HX.out.mono ?_
  rintro e w1 ⟨k, rfl, hk, hb1⟩
  have HB1 := Lib.hid hb1
  clear hb1
  go_wp2_with fail
  rw [hk.out]
  go_ret
  exact ⟨rfl, HB1.out⟩
/-- Values lie in memory by their numbers. -/
def NumAt (w : World) (A : Option Addr) (vs : List Vl) : Prop := ∀ i, i < vs.length → ∃ b, A = some ⟨b, 0, none⟩ ∧ b < w.heap.size ∧ w.cell? ⟨b, i * 4, none⟩ = some (.int .i64 (vn vs i).num) ∧ w.cell? ⟨b, i * 4 + 1, none⟩ = some (.int .i64 (vn vs i).den)
theorem NumAt.below {w w' : World} {A : Option Addr} {vs : List Vl} (h : NumAt w A vs) (k : Below w.heap.size w w') : NumAt w' A vs := fun i hi => by
  obtain ⟨b, e, l, c0, c1⟩ := h i hi
  exact ⟨b, e, Nat.lt_of_lt_of_le l k.size, (k.cell (p := ⟨b, i * 4, none⟩) l).trans c0, (k.cell (p := ⟨b, i * 4 + 1, none⟩) l).trans c1⟩
theorem vm_num {B C c n : Nat} {A : Option Addr} {w : World} {ps : List (Vl × Value)} {vs : List Vl} (h : VMk B C (.slice A n c) w ps) (hp : ps.map (·.1) = vs) : NumAt w A vs := fun i hi => by
  subst hp
  have hi' : i < ps.length := by rwa [List.length_map] at hi
  have e : ps[i]? = some ps[i] := List.getElem?_eq_getElem hi'
  obtain ⟨b, e1, l, c0, c1, _⟩ := vm_at h e
  refine ⟨b, e1, l, ?_, ?_⟩
  · rw [c0]; simp [vn, List.getD, e]
  · rw [c1]; simp [vn, List.getD, e]
set_option maxHeartbeats 1000000 in
theorem holds1_any (vs : List Vl) (A : Option Addr) (c g : Nat) (n : Int) (h0 : 0 ≤ n) (h1 : n < vs.length) (w : World) (hg : HB w g 30 #[.slice A vs.length c]) (hv : NumAt w A vs) :
    Calls Tryz.prog 21 #[.int .i64 n, .pointer (some ⟨g, 0, none⟩)] w fun e w' => e = .returned (.bool ((vn vs n.toNat).num == 0)) ∧ Below w.heap.size w w' := by
  obtain ⟨k, rfl⟩ : ∃ k : Nat, n = k := ⟨n.toNat, by omega⟩
  rw [Int.toNat_natCast]
  obtain ⟨b, rfl, lb, c0, c1⟩ := hv k (by omega)
  have x0 := hg.cell 0
  have hk : k < vs.length := by omega
  have XF := Lib.hid (isfalse_any (vn vs k).num (vn vs k).den w)
  clear hv h0 h1
  generalize vs.length = vl at *
  generalize (vn vs k).num = N at *
  generalize (vn vs k).den = D at *
  go_enter Tryz.func21, Tryz.ntmps21
  go_wp2_with fail
  refine XF.out.mono ?_
  rintro e w1 ⟨rfl, hb1⟩
  have HB1 := Lib.hid hb1
  clear hb1
  go_wp2_with fail
  go_ret
  exact ⟨rfl, HB1.out⟩
/-- Does it hold? -/
def hoR (r : Except (Int × Int) (List Vl)) (hs : List Int) : Bool := match r with
  | .ok vs => !(hs.any fun n => (vn vs n.toNat).num == 0)
  | .error _ => false
def errC (r : Except (Int × Int) (List Vl)) : Int := match r with
  | .ok _ => 0
  | .error p => p.1
def errA (r : Except (Int × Int) (List Vl)) : Int := match r with
  | .ok _ => 0
  | .error p => p.2
def HoldsQ (r : Except (Int × Int) (List Vl)) (hs : List Int) (w : World) (e : Ending) (w' : World) : Prop := e = .returned (.tuple #[.bool (hoR r hs), .agg #[.int .i64 (errC r), .int .i64 (errA r)]]) ∧ Below w.heap.size w w'
set_option maxRecDepth 100000 in
set_option maxHeartbeats 8000000 in
theorem holds_ok (qs : List Dc) (ns : List Nd) (hs : List Int) (ms : List Mg) (Ad An Ah Am : Option Addr) (dc nc hc mc : Nat) (w : World) (h : AwAt w qs ns hs ms Ad An Ah Am dc nc hc mc) (vs : List Vl) (hr : mvR qs ns hs ms = .ok vs) (hh : ∀ i, i < hs.length → 0 ≤ nth hs i ∧ nth hs i < vs.length) :
    Calls Tryz.prog 8 #[.agg #[.slice Ad qs.length dc, .slice An ns.length nc, .slice Ah hs.length hc], .agg #[.slice Am ms.length mc]] w (HoldsQ (.ok vs) hs w) := by
  have X1 := Lib.hid (fun (W : World) (k : Below w.heap.size w W) => value_any qs ns hs ms Ad An Ah Am dc nc hc mc W (h.below k))
  rw [hr] at X1
  have HI := Lib.hid h.fh
  have HL := Lib.hid h.h1
  have BX : Hid (Below w.heap.size w (((w.alloc (.cells #[.slice Ad qs.length dc, .slice An ns.length nc, .slice Ah hs.length hc] 26)).alloc (.cells #[.slice Am ms.length mc] 29)).alloc (.cells #[.int .i64 0, .int .i64 0] 32))) := Lib.hid (by go_grown)
  have HX := Lib.hid (((HB.new w 26 #[.slice Ad qs.length dc, .slice An ns.length nc, .slice Ah hs.length hc]).alloc (.cells #[.slice Am ms.length mc] 29)).alloc (.cells #[.int .i64 0, .int .i64 0] 32))
  have FX := Lib.hid (HB.new2 w (.cells #[.slice Ad qs.length dc, .slice An ns.length nc, .slice Ah hs.length hc] 26) (.cells #[.slice Am ms.length mc] 29) 32 #[.int .i64 0, .int .i64 0])
  have XC := Lib.hid (fun (A : Option Addr) (c g : Nat) (W : World) (k : Below w.heap.size w W) (hg : HB W g 30 #[.slice A vs.length c]) (hv : NumAt W A vs) =>
    containsint_any enters_holds1 hs Ah hc #[.pointer (some ⟨g, 0, none⟩)] (fun n => (vn vs n.toNat).num == 0) (fun W => HB W g 30 #[.slice A vs.length c] ∧ NumAt W A vs) (fun W W' h1 h2 => ⟨h1.1.below h2, h1.2.below h2⟩) h.h1
      (fun i W hi hW => holds1_any vs A c g (nth hs i) (hh i hi).1 (hh i hi).2 W hW.1 hW.2) W (h.fh.below k) ⟨hg, hv⟩)
  clear h hr hh HI HL
  generalize hQ : HoldsQ (.ok vs) hs w = Q0 at *
  have HQ0 := Lib.hid (fun e w' (z : HoldsQ (.ok vs) hs w e w') => (show Q0 e w' by rw [← hQ]; exact z))
  clear hQ
  unfold HoldsQ hoR errC errA at HQ0
  dsimp only at HQ0
  generalize hs.any (fun n => (vn vs n.toNat).num == 0) = B at *
  generalize qs.length = ql at *
  generalize ns.length = nl at *
  generalize hs.length = hl at *
  generalize ms.length = ml at *
  generalize hvl : vs.length = vl at *
  go_enter Tryz.func8, Tryz.ntmps8
  go_wp2_with fail
  refine (X1.out _ BX.out).mono ?_
  rintro e w1 hq1
  obtain ⟨A, c, ps, rfl, hvm, hpv, hb1⟩ : ∃ A c ps, e = .returned (.tuple #[.slice A vs.length c, .agg #[.int .i64 0, .int .i64 0]]) ∧ VMk _ _ (.slice A vs.length c) w1 ps ∧ ps.map (·.1) = vs ∧ Below _ _ w1 := hq1
  have NA := Lib.hid (vm_num hvm hpv)
  rw [hvl] at *
  have B1 := Lib.hid (below_after BX.out hb1)
  have H1 := Lib.hid (HX.out.below hb1)
  have F1 := Lib.hid (FX.out.below hb1)
  clear hvm hpv hb1 X1 HX BX FX
  have BY := Lib.hid (new_below w1 (.cells #[.slice A vl c] 30))
  have BZ := Lib.hid (new_below (w1.alloc (.cells #[.slice A vl c] 30)) (.cells #[.int .i64 0, .int .i64 0] 32))
  have BB := Lib.hid (below_after BY.out BZ.out)
  have HG := Lib.hid ((HB.new w1 30 #[.slice A vl c]).below BZ.out)
  have HF := Lib.hid (HB.new1 w1 (.cells #[.slice A vl c] 30) 32 #[.int .i64 0, .int .i64 0])
  have H2 := Lib.hid (H1.out.below BB.out)
  have F2 := Lib.hid (F1.out.below BB.out)
  have X3 := Lib.hid (XC.out A c w1.heap.size _ (below_after B1.out BB.out) HG.out (NA.out.below BB.out))
  clear XC
  obtain ⟨a0, a1, a2, -⟩ := H2.out.three
  obtain ⟨f0, f1, -⟩ := F2.out.two
  go_wp2_with fail
  refine X3.out.mono ?_
  rintro e w3 ⟨rfl, hb3⟩
  have F3 := Lib.hid (F2.out.below hb3)
  have B3 := Lib.hid (below_after (below_after B1.out BB.out) hb3)
  clear hb3
  obtain ⟨f0', f1', f2', f3'⟩ := F3.out.two
  have FW := Lib.hid (far2 w3 (w.heap.size + 1 + 1) (.int .i64 0) (.int .i64 0))
  have FIN := Lib.hid (HQ0.out _ _ ⟨rfl, bw_far B3.out (by omega) FW.out⟩)
  obtain ⟨c0, c1, -⟩ := (hb_set2 (n := .int .i64 0) (d := .int .i64 0) F3.out).two
  go_wp2_with fail
  exact bodyPost_ret (v := .tuple #[.bool !B, .agg #[.int .i64 0, .int .i64 0]]) (by simp [results, Tryz.results8, go_sem, c0, c1]) rfl FIN.out
set_option maxRecDepth 100000 in
set_option maxHeartbeats 8000000 in
theorem holds_err (qs : List Dc) (ns : List Nd) (hs : List Int) (ms : List Mg) (Ad An Ah Am : Option Addr) (dc nc hc mc : Nat) (w : World) (h : AwAt w qs ns hs ms Ad An Ah Am dc nc hc mc) (C D : Int) (hr : mvR qs ns hs ms = .error (C, D)) (hC : C ≠ 0) :
    Calls Tryz.prog 8 #[.agg #[.slice Ad qs.length dc, .slice An ns.length nc, .slice Ah hs.length hc], .agg #[.slice Am ms.length mc]] w (HoldsQ (.error (C, D)) hs w) := by
  have X1 := Lib.hid (fun (W : World) (k : Below w.heap.size w W) => value_any qs ns hs ms Ad An Ah Am dc nc hc mc W (h.below k))
  rw [hr] at X1
  have BX : Hid (Below w.heap.size w (((w.alloc (.cells #[.slice Ad qs.length dc, .slice An ns.length nc, .slice Ah hs.length hc] 26)).alloc (.cells #[.slice Am ms.length mc] 29)).alloc (.cells #[.int .i64 0, .int .i64 0] 32))) := Lib.hid (by go_grown)
  have FX := Lib.hid (HB.new2 w (.cells #[.slice Ad qs.length dc, .slice An ns.length nc, .slice Ah hs.length hc] 26) (.cells #[.slice Am ms.length mc] 29) 32 #[.int .i64 0, .int .i64 0])
  clear h hr
  generalize hQ : HoldsQ (.error (C, D)) hs w = Q0 at *
  have HQ0 := Lib.hid (fun e w' (z : HoldsQ (.error (C, D)) hs w e w') => (show Q0 e w' by rw [← hQ]; exact z))
  clear hQ
  unfold HoldsQ hoR errC errA at HQ0
  dsimp only at HQ0
  generalize qs.length = ql at *
  generalize ns.length = nl at *
  generalize hs.length = hl at *
  generalize ms.length = ml at *
  have hC' : (C == 0) = false := by simpa using hC
  go_enter Tryz.func8, Tryz.ntmps8
  go_wp2_with fail
  refine (X1.out _ BX.out).mono ?_
  rintro e w1 ⟨rfl, hb1⟩
  have B1 := Lib.hid (below_after BX.out hb1)
  have F1 := Lib.hid (FX.out.below hb1)
  clear hb1 X1 BX FX
  dsimp only
  have BY := Lib.hid (new_below w1 (.cells #[.slice none 0 0] 30))
  have BZ := Lib.hid (new_below (w1.alloc (.cells #[.slice none 0 0] 30)) (.cells #[.int .i64 C, .int .i64 D] 32))
  have BB := Lib.hid (below_after BY.out BZ.out)
  have HF := Lib.hid (HB.new1 w1 (.cells #[.slice none 0 0] 30) 32 #[.int .i64 C, .int .i64 D])
  have F2 := Lib.hid (F1.out.below BB.out)
  have B2 := Lib.hid (below_after B1.out BB.out)
  obtain ⟨f0, f1, f2, f3⟩ := F2.out.two
  have tc2 : (C != 0) = true := by simpa using hC
  clear hC
  go_wp2_with fail
  have Z2 := Lib.hid (hb_set2 (n := .int .i64 C) (d := .int .i64 D) F2.out)
  have FW := Lib.hid (far2 ((w1.alloc (.cells #[.slice none 0 0] 30)).alloc (.cells #[.int .i64 C, .int .i64 D] 32)) (w.heap.size + 1 + 1) (.int .i64 C) (.int .i64 D))
  have BF := Lib.hid (bw_far B2.out (by omega) FW.out)
  clear BY BZ BB HF F2 B2 FW
  go_region
  all_goals
    obtain ⟨z0, z1, -⟩ := Z2.out.drew.two
    have FIN := Lib.hid (HQ0.out _ _ ⟨rfl, BF.out.drew⟩)
    clear f0 f1 f2 f3 Z2 BF
    go_wp2_with fail
    exact bodyPost_ret (v := .tuple #[.bool false, .agg #[.int .i64 C, .int .i64 D]]) (by simp [results, Tryz.results8, go_sem, z0, z1]) rfl FIN.out
theorem holds_any (qs : List Dc) (ns : List Nd) (hs : List Int) (ms : List Mg) (Ad An Ah Am : Option Addr) (dc nc hc mc : Nat) (w : World) (h : AwAt w qs ns hs ms Ad An Ah Am dc nc hc mc) (h0 : ∀ C D, mvR qs ns hs ms = .error (C, D) → C ≠ 0) (hh : ∀ vs, mvR qs ns hs ms = .ok vs → ∀ i, i < hs.length → 0 ≤ nth hs i ∧ nth hs i < vs.length) :
    Calls Tryz.prog 8 #[.agg #[.slice Ad qs.length dc, .slice An ns.length nc, .slice Ah hs.length hc], .agg #[.slice Am ms.length mc]] w (HoldsQ (mvR qs ns hs ms) hs w) := by
  cases hr : mvR qs ns hs ms with
  | ok vs => exact holds_ok qs ns hs ms Ad An Ah Am dc nc hc mc w h vs hr (hh vs hr)
  | error e =>
    obtain ⟨C, D⟩ := e
    exact holds_err qs ns hs ms Ad An Ah Am dc nc hc mc w h C D hr (h0 C D hr)
end Go.Proofs.YtaodebpogibimaaGreat
namespace Go.Proofs.YtaodebpogibimaaGreat
open Go.RowKit

theorem sumL_ten {fs : List (Int × Int)} : ∀ {p : Int × Int}, (sumL p fs).2 = 0 ∨ (sumL p fs).2 = 10 := by
  induction fs with
  | nil => intro p; exact .inl rfl
  | cons q r ih =>
    intro p
    rw [sumL]
    split
    · exact ih
    · exact .inr rfl
/-- A node without a value is beyond what a fraction holds. -/
theorem evv_ten {op n d ds : Int} {ks : List Int} {kids : List Vl} {m : Mg} (N : Nk op n d ds ks kids) : (evV op (srt op d ds ks) n d m kids).2 = 0 ∨ (evV op (srt op d ds ks) n d m kids).2 = 10 := by
  have hs := N.sort
  have hkc := N.kc
  have hlen := N.len
  rcases op_cases6 N.lo N.hi with ho | rfl | rfl | ho | ho | rfl | rfl
  · rw [evv_tru ho (srt_tru ho hs).1]; exact .inl rfl
  · exact .inl rfl
  · exact .inl rfl
  · obtain ⟨e1, e2⟩ := srt_num ho hs
    rw [evv_num ho]
    rcases ho with rfl | rfl | rfl
    · exact .inl rfl
    · exact sumL_ten
    · have h1 := hkc (by decide) (by decide)
      simp [kcN] at h1
      show madeC ((cn (numsOf kids) 0).1 * n) ((cn (numsOf kids) 0).2 * d) = 0 ∨ madeC ((cn (numsOf kids) 0).1 * n) ((cn (numsOf kids) 0).2 * d) = 10
      rw [cn_nums]
      have a1 := fvalid_bd (N.nums e2 0 (by omega))
      have a2 := fvalid_bd (isfr_val (N.num (.inr rfl)))
      have hD : (vn kids 0).den * d ≠ 0 := fun z => by
        rcases Int.mul_eq_zero.1 z with z | z <;> omega
      by_cases z : madeC ((vn kids 0).num * n) ((vn kids 0).den * d) = 0
      · exact .inl z
      · exact .inr (made_big hD z).2.2
  · unfold evV evF
    rw [if_neg (by omega), if_neg (by omega), if_neg (by omega), if_neg (by omega), if_neg (by omega)]
    split <;> exact .inl rfl
  · exact .inl rfl
  · exact .inl rfl
set_option maxRecDepth 100000 in
set_option maxHeartbeats 4000000 in
/-- What is wrong with an ask, or a world, is told. -/
theorem refval_bad (qs : List Dc) (ns : List Nd) (hs : List Int) (ms : List Mg) (Ad An Ah Am : Option Addr) (dc nc hc mc : Nat) (w : World) (h : AwAt w qs ns hs ms Ad An Ah Am dc nc hc mc) (h0 : meC qs ns hs ms ≠ 0) :
    Calls Tryz.prog 6 #[.agg #[.slice Ad qs.length dc, .slice An ns.length nc, .slice Ah hs.length hc], .agg #[.slice Am ms.length mc]] w (RvsQ (.error (meC qs ns hs ms, meA qs ns hs ms)) w) := by
  have HN := Lib.hid (va_new w (.slice Ad qs.length dc) (.slice An ns.length nc) (.slice Ah hs.length hc) (.slice Am ms.length mc))
  have X1 := Lib.hid (fun (W : World) (k : Below w.heap.size w W) => refmean_any qs ns hs ms Ad An Ah Am dc nc hc mc W (h.below k))
  clear h
  generalize meC qs ns hs ms = C at *
  generalize meA qs ns hs ms = A9 at *
  have tc : (C == 0) = false := by simpa using h0
  have tc2 : (C != 0) = true := by simpa using h0
  clear h0
  generalize ns.length = nl at *
  generalize qs.length = ql at *
  generalize hs.length = hl at *
  generalize ms.length = ml at *
  obtain ⟨a0, a1, a2, af0, af1, af2⟩ := HN.out.a.three
  go_enter Tryz.func6, Tryz.ntmps6
  go_wp2_with fail
  refine (X1.out _ HN.out.b).mono ?_
  rintro e w1 ⟨rfl, hb1⟩
  have M1 := Lib.hid (HN.out.below hb1)
  have M2 := Lib.hid (M1.out.below (new_below w1 (.cells #[.int .i64 C, .int .i64 A9] 32)))
  clear hb1 a0 a1 a2 af0 af1 af2
  obtain ⟨e0, e1, ef0, ef1⟩ := M2.out.f.two
  go_wp2_with fail
  have Z2 := Lib.hid (hb_set2 (n := .int .i64 C) (d := .int .i64 A9) M2.out.f)
  have BF := Lib.hid (bw_far M2.out.b (by omega) (far2 (w1.alloc (.cells #[.int .i64 C, .int .i64 A9] 32)) (w.heap.size + 1 + 1) (.int .i64 C) (.int .i64 A9)))
  go_region
  all_goals
    obtain ⟨z0, z1, -⟩ := Z2.out.drew.two
    have FIN : Hid (RvsQ (.error (C, A9)) w (.returned (.tuple #[.slice none 0 0, .agg #[.int .i64 C, .int .i64 A9]])) _) := Lib.hid ⟨rfl, BF.out.drew⟩
    clear e0 e1 ef0 ef1 Z2 BF
    go_wp2_with fail
    exact bodyPost_ret (v := .tuple #[.slice none 0 0, .agg #[.int .i64 C, .int .i64 A9]]) (by simp [results, Tryz.results6, go_sem, z0, z1]) rfl FIN.out
/-- THE CONTRACT of MeanValue. -/
theorem refval_any (qs : List Dc) (ns : List Nd) (hs : List Int) (ms : List Mg) (Ad An Ah Am : Option Addr) (dc nc hc mc : Nat) (w : World) (h : AwAt w qs ns hs ms Ad An Ah Am dc nc hc mc) :
    Calls Tryz.prog 6 #[.agg #[.slice Ad qs.length dc, .slice An ns.length nc, .slice Ah hs.length hc], .agg #[.slice Am ms.length mc]] w (RvsQ (mvR qs ns hs ms) w) := by
  unfold mvR
  by_cases h0 : meC qs ns hs ms = 0
  · rw [if_pos h0]
    obtain ⟨h1, h2, h3, _⟩ := mec_zero h0
    obtain ⟨h4, h5⟩ := nd_known h0
    have hL : akL qs ns hs = srtL qs ns ns.length := by unfold akL; rw [if_pos h1]
    refine refval_ok qs ns hs ms (srtL qs ns ns.length) Ad An Ah Am dc nc hc mc w h h0 h2 h1 (ak_a0 h1).1 hL (srtL_len _ _ _) (by omega) (fun i hi => ?_) (fun i hi j hj => ?_) (evOf qs ns ms) (fun i vs hi hv => ?_) (fun i vs W Av vc nk hi hv hB hkv => ?_)
    · have := (ndc_zero (h5 i hi).c).2.2.1
      omega
    · have := (ndc_zero (h5 i hi).c).2.2.2.2.1 _ (List.getElem_mem hj)
      rw [← nth_of hj] at this
      omega
    · have N := nd_nk (h5 i hi) hi (vals_good h5 (by omega) hv)
      unfold evOf
      rw [(h5 i hi).s]
      exact evv_ten N
    · exact vo_any (h5 i hi) hi (vals_good h5 (by omega) hv) Ad Am An Ah dc ns.length nc hs.length hc mc nk w W hB (Nat.le_trans h.d1 h.d2) h.fd h.fm Av vc hkv
  · rw [if_neg h0]
    exact refval_bad qs ns hs ms Ad An Ah Am dc nc hc mc w h h0
/-- An error tells something. -/
theorem mvr_err {qs : List Dc} {ns : List Nd} {hs : List Int} {ms : List Mg} {C D : Int} (h : mvR qs ns hs ms = .error (C, D)) : C ≠ 0 := by
  unfold mvR at h
  split at h
  · have hv : ∀ k, valsE (evOf qs ns ms) k = .error (C, D) → C ≠ 0 := by
      intro k
      induction k with
      | zero => intro h; cases h
      | succ k ih =>
        intro h
        rw [valsE_succ] at h
        cases hk : valsE (evOf qs ns ms) k with
        | error e =>
          rw [hk] at h
          injection h with h
          subst h
          exact ih hk
        | ok us =>
          rw [hk] at h
          dsimp only at h
          split at h
          · cases h
          · rename_i hz
            injection h with h
            injection h with h _
            rw [← h]
            exact hz
    exact hv _ h
  · rename_i hz
    injection h with h
    injection h with h _
    rw [← h]
    exact hz
theorem mvr_ok {qs : List Dc} {ns : List Nd} {hs : List Int} {ms : List Mg} {vs : List Vl} (h : mvR qs ns hs ms = .ok vs) : vs.length ≤ 200 ∧ (∀ i, i < vs.length → (vn vs i).cells.length ≤ 2000) ∧ (∀ i, i < hs.length → 0 ≤ nth hs i ∧ nth hs i < vs.length ∧ ((vn vs (nth hs i).toNat).num = 0 ∨ (vn vs (nth hs i).toNat).num = 1)) := by
  unfold mvR at h
  split at h
  · rename_i h0
    obtain ⟨h1, h2, h3, _⟩ := mec_zero h0
    obtain ⟨h4, h5⟩ := nd_known h0
    have hl := valsE_len h
    have hg := vals_good h5 (Nat.le_refl _) h
    refine ⟨by omega, fun i hi => gd_cells (hg i (by omega)), fun i hi => ?_⟩
    have hh := (ak_a0 h1).2.2.2.2 i hi
    unfold hC hdC at hh
    have hsl := srtL_len qs ns ns.length
    split at hh
    · exact absurd hh (by decide)
    rename_i z1
    split at hh
    · exact absurd hh (by decide)
    rename_i z2
    have b0 : 0 ≤ nth hs i ∧ nth hs i < ns.length := by omega
    refine ⟨b0.1, by omega, ?_⟩
    have g := hg (nth hs i).toNat (by omega)
    have e : nth (srtL qs ns ns.length) (nth hs i).toNat = 1 := by omega
    rw [e] at g
    exact gd_bool g
  · cases h
end Go.Proofs.YtaodebpogibimaaGreat
namespace Go.Proofs.YtaodebpogibimaaGreat
open Go.RowKit

set_option maxRecDepth 100000 in
set_option maxHeartbeats 4000000 in
theorem valuesays_ok (qs : List Dc) (ns : List Nd) (hs : List Int) (ms : List Mg) (Ad An Ah Am : Option Addr) (dc nc hc mc : Nat) (w : World) (h : AwAt w qs ns hs ms Ad An Ah Am dc nc hc mc) (vs : List Vl) (hr : mvR qs ns hs ms = .ok vs) :
    Calls Tryz.prog 3 #[.agg #[.slice Ad qs.length dc, .slice An ns.length nc, .slice Ah hs.length hc], .agg #[.slice Am ms.length mc]] w fun e w' => e = .returned (.bool true) ∧ Below w.heap.size w w' := by
  have X1 := Lib.hid (fun (W : World) (k : Below w.heap.size w W) => value_any qs ns hs ms Ad An Ah Am dc nc hc mc W (h.below k))
  have X2 := Lib.hid (fun (W : World) (k : Below w.heap.size w W) => refval_any qs ns hs ms Ad An Ah Am dc nc hc mc W (h.below k))
  rw [hr] at X1 X2
  obtain ⟨hl200, hcl, -⟩ := mvr_ok hr
  have X3 := Lib.hid (fun (A B : Option Addr) (c d : Nat) (W : World) (ha : VsAt W A vs) (hb : VsAt W B vs) => samevalues_any vs A B c d (by unfold maxLen; omega) (fun i hi => Nat.le_trans (hcl i hi) (by decide)) W ha hb)
  have NA : Hid (HB ((w.alloc (.cells #[.slice Ad qs.length dc, .slice An ns.length nc, .slice Ah hs.length hc] 26)).alloc (.cells #[.slice Am ms.length mc] 29)) w.heap.size 26 #[.slice Ad qs.length dc, .slice An ns.length nc, .slice Ah hs.length hc]) := Lib.hid ((HB.new _ _ _).alloc _)
  have NW : Hid (HB ((w.alloc (.cells #[.slice Ad qs.length dc, .slice An ns.length nc, .slice Ah hs.length hc] 26)).alloc (.cells #[.slice Am ms.length mc] 29)) (w.heap.size + 1) 29 #[.slice Am ms.length mc]) := Lib.hid (HB.new1 _ _ _ _)
  have B0 : Hid (Below w.heap.size w ((w.alloc (.cells #[.slice Ad qs.length dc, .slice An ns.length nc, .slice Ah hs.length hc] 26)).alloc (.cells #[.slice Am ms.length mc] 29))) := Lib.hid (by go_grown)
  clear h hr hl200 hcl
  generalize qs.length = ql at *
  generalize ns.length = nl at *
  generalize hs.length = hl at *
  generalize ms.length = ml at *
  generalize hvl : vs.length = vl at *
  have HVL := Lib.hid hvl
  clear hvl
  obtain ⟨a0, a1, a2, -⟩ := NA.out.three
  obtain ⟨m0, -⟩ := NW.out.one
  go_enter Tryz.func3, Tryz.ntmps3
  go_wp2_with fail
  refine (X1.out _ B0.out).mono ?_
  rintro e w1 hq1
  obtain ⟨A, c, ps, rfl, hvm, hpv, hb1⟩ : ∃ A c ps, e = .returned (.tuple #[.slice A vs.length c, .agg #[.int .i64 0, .int .i64 0]]) ∧ VMk _ _ (.slice A vs.length c) w1 ps ∧ ps.map (·.1) = vs ∧ Below _ _ w1 := hq1
  have VA1 : Hid (VsAt w1 A vs) := Lib.hid (by
    have := vm_vs hvm (by rw [← hpv, List.length_map])
    rw [hpv] at this
    exact this)
  rw [HVL.out]
  have BF1 := Lib.hid (new_below w1 (.cells #[.int .i64 0, .int .i64 0] 32))
  have F1 := Lib.hid (HB.new w1 32 #[.int .i64 0, .int .i64 0])
  have NA1 := Lib.hid ((NA.out.below hb1).below BF1.out)
  have NW1 := Lib.hid ((NW.out.below hb1).below BF1.out)
  have B1 := Lib.hid (below_after (below_after B0.out hb1) BF1.out)
  have VA2 := Lib.hid (VA1.out.below BF1.out)
  clear hb1 hvm hpv X1 NA NW B0 VA1 a0 a1 a2 m0 BF1
  obtain ⟨a0, a1, a2, -⟩ := NA1.out.three
  obtain ⟨m0, -⟩ := NW1.out.one
  go_wp2_with fail
  generalize hW : w1.alloc (.cells #[.int .i64 0, .int .i64 0] 32) = W2 at *
  generalize hg : w1.heap.size = g1 at *
  clear hW hg
  refine (X2.out _ B1.out).mono ?_
  rintro e w2 hq2
  obtain ⟨B, d, rfl, hvb, hb2⟩ : ∃ A c, e = .returned (.tuple #[.slice A vs.length c, .agg #[.int .i64 0, .int .i64 0]]) ∧ VsAt w2 A vs ∧ Below _ _ w2 := hq2
  rw [HVL.out]
  have BF2 := Lib.hid (new_below w2 (.cells #[.int .i64 0, .int .i64 0] 32))
  have F2 := Lib.hid (HB.new w2 32 #[.int .i64 0, .int .i64 0])
  have F3 := Lib.hid ((F1.out.below hb2).below BF2.out)
  have B2 := Lib.hid (below_after (below_after B1.out hb2) BF2.out)
  have VA3 := Lib.hid ((VA2.out.below hb2).below BF2.out)
  have VB3 := Lib.hid (hvb.below BF2.out)
  have X4 := Lib.hid (X3.out A B c d _ VA3.out VB3.out)
  clear hb2 hvb X2 X3 NA1 NW1 B1 VA2 VA3 VB3 F1 a0 a1 a2 m0 BF2
  go_wp2_with fail
  generalize hW : w2.alloc (.cells #[.int .i64 0, .int .i64 0] 32) = W3 at *
  generalize hg : w2.heap.size = g2 at *
  clear hW hg
  refine X4.out.mono ?_
  rintro e w3 ⟨rfl, hb3⟩
  have F5 := Lib.hid (F3.out.below hb3)
  have F6 := Lib.hid (F2.out.below hb3)
  have B3 := Lib.hid (below_after B2.out hb3)
  clear hb3 F3 F2 B2 X4
  obtain ⟨f0, f1, -⟩ := F5.out.two
  obtain ⟨e0, e1, -⟩ := F6.out.two
  go_wp2_with fail
  go_ret
  exact ⟨rfl, B3.out⟩
set_option maxRecDepth 100000 in
set_option maxHeartbeats 4000000 in
theorem valuesays_err (qs : List Dc) (ns : List Nd) (hs : List Int) (ms : List Mg) (Ad An Ah Am : Option Addr) (dc nc hc mc : Nat) (w : World) (h : AwAt w qs ns hs ms Ad An Ah Am dc nc hc mc) (C D : Int) (hr : mvR qs ns hs ms = .error (C, D)) :
    Calls Tryz.prog 3 #[.agg #[.slice Ad qs.length dc, .slice An ns.length nc, .slice Ah hs.length hc], .agg #[.slice Am ms.length mc]] w fun e w' => e = .returned (.bool true) ∧ Below w.heap.size w w' := by
  have X1 := Lib.hid (fun (W : World) (k : Below w.heap.size w W) => value_any qs ns hs ms Ad An Ah Am dc nc hc mc W (h.below k))
  have X2 := Lib.hid (fun (W : World) (k : Below w.heap.size w W) => refval_any qs ns hs ms Ad An Ah Am dc nc hc mc W (h.below k))
  rw [hr] at X1 X2
  have X3 : Hid (∀ W, Calls Tryz.prog 7 #[.slice none 0 0, .slice none 0 0] W fun e w' => e = .returned (.bool true) ∧ Below W.heap.size W w') := Lib.hid (fun W => samevalues_any [] none none 0 0 (Nat.zero_le _) (fun i hi => absurd hi (by simp)) W (vs_nil _ _) (vs_nil _ _))
  have NA : Hid (HB ((w.alloc (.cells #[.slice Ad qs.length dc, .slice An ns.length nc, .slice Ah hs.length hc] 26)).alloc (.cells #[.slice Am ms.length mc] 29)) w.heap.size 26 #[.slice Ad qs.length dc, .slice An ns.length nc, .slice Ah hs.length hc]) := Lib.hid ((HB.new _ _ _).alloc _)
  have NW : Hid (HB ((w.alloc (.cells #[.slice Ad qs.length dc, .slice An ns.length nc, .slice Ah hs.length hc] 26)).alloc (.cells #[.slice Am ms.length mc] 29)) (w.heap.size + 1) 29 #[.slice Am ms.length mc]) := Lib.hid (HB.new1 _ _ _ _)
  have B0 : Hid (Below w.heap.size w ((w.alloc (.cells #[.slice Ad qs.length dc, .slice An ns.length nc, .slice Ah hs.length hc] 26)).alloc (.cells #[.slice Am ms.length mc] 29))) := Lib.hid (by go_grown)
  clear h hr
  generalize qs.length = ql at *
  generalize ns.length = nl at *
  generalize hs.length = hl at *
  generalize ms.length = ml at *
  obtain ⟨a0, a1, a2, -⟩ := NA.out.three
  obtain ⟨m0, -⟩ := NW.out.one
  go_enter Tryz.func3, Tryz.ntmps3
  go_wp2_with fail
  refine (X1.out _ B0.out).mono ?_
  rintro e w1 ⟨rfl, hb1⟩
  dsimp only
  have BF1 := Lib.hid (new_below w1 (.cells #[.int .i64 C, .int .i64 D] 32))
  have F1 := Lib.hid (HB.new w1 32 #[.int .i64 C, .int .i64 D])
  have NA1 := Lib.hid ((NA.out.below hb1).below BF1.out)
  have NW1 := Lib.hid ((NW.out.below hb1).below BF1.out)
  have B1 := Lib.hid (below_after (below_after B0.out hb1) BF1.out)
  clear hb1 X1 NA NW B0 a0 a1 a2 m0 BF1
  obtain ⟨a0, a1, a2, -⟩ := NA1.out.three
  obtain ⟨m0, -⟩ := NW1.out.one
  go_wp2_with fail
  generalize hW : w1.alloc (.cells #[.int .i64 C, .int .i64 D] 32) = W2 at *
  generalize hg : w1.heap.size = g1 at *
  clear hW hg
  refine (X2.out _ B1.out).mono ?_
  rintro e w2 ⟨rfl, hb2⟩
  dsimp only
  have BF2 := Lib.hid (new_below w2 (.cells #[.int .i64 C, .int .i64 D] 32))
  have F2 := Lib.hid (HB.new w2 32 #[.int .i64 C, .int .i64 D])
  have F3 := Lib.hid ((F1.out.below hb2).below BF2.out)
  have B2 := Lib.hid (below_after (below_after B1.out hb2) BF2.out)
  clear hb2 X2 NA1 NW1 B1 F1 a0 a1 a2 m0 BF2
  go_wp2_with fail
  generalize hW : w2.alloc (.cells #[.int .i64 C, .int .i64 D] 32) = W3 at *
  generalize hg : w2.heap.size = g2 at *
  clear hW hg
  refine (X3.out _).mono ?_
  rintro e w3 ⟨rfl, hb3⟩
  have F5 := Lib.hid (F3.out.below hb3)
  have F6 := Lib.hid (F2.out.below hb3)
  have B3 := Lib.hid (below_after B2.out hb3)
  clear hb3 F3 F2 B2 X3
  obtain ⟨f0, f1, -⟩ := F5.out.two
  obtain ⟨e0, e1, -⟩ := F6.out.two
  go_wp2_with fail
  go_ret
  exact ⟨by simp, B3.out⟩
theorem valuesays_any (qs : List Dc) (ns : List Nd) (hs : List Int) (ms : List Mg) (Ad An Ah Am : Option Addr) (dc nc hc mc : Nat) (w : World) (h : AwAt w qs ns hs ms Ad An Ah Am dc nc hc mc) :
    Calls Tryz.prog 3 #[.agg #[.slice Ad qs.length dc, .slice An ns.length nc, .slice Ah hs.length hc], .agg #[.slice Am ms.length mc]] w fun e w' => e = .returned (.bool true) ∧ Below w.heap.size w w' := by
  cases hr : mvR qs ns hs ms with
  | ok vs => exact valuesays_ok qs ns hs ms Ad An Ah Am dc nc hc mc w h vs hr
  | error e =>
    obtain ⟨C, D⟩ := e
    exact valuesays_err qs ns hs ms Ad An Ah Am dc nc hc mc w h C D hr
end Go.Proofs.YtaodebpogibimaaGreat
namespace Go.Proofs.YtaodebpogibimaaGreat
open Go.ChangeShapes Go.WideShapes Go.ChangeAt Go.RowKit Go.Joins Go.Deep

theorem Tryz.own : ownKnob Tryz.prog.godebug = none := by kernel_rfl
theorem Tryz.laidOut : laidOutB Tryz.prog = true := by kernel_rfl
section
variable {H : Type} {enc : TypeId × Value → H} {W : World}
theorem Tryz.cells26 : Tryz.prog.cellsOf 26 = 3 := by kernel_rfl
theorem Tryz.cells52 : Tryz.prog.cellsOf 52 = 3 := by kernel_rfl
theorem Tryz.cells56 : Tryz.prog.cellsOf 56 = 5 := by kernel_rfl
set_option maxRecDepth 100000 in
theorem open_ask {base : Nat} {v : Value} {d : DataW H} {p : List MemPlace} (hval : Value.okWide Tryz.prog W .any base 26 v) (h : DataW.Trod enc Tryz.prog W 0 (fun _ => true) true 26 v d p) :
    ∃ Ad An Ah dc nc hc qs ns hs, v = .agg #[.slice Ad (List.length qs) dc, .slice An (List.length ns) nc, .slice Ah (List.length hs) hc] ∧ qs.length ≤ dc ∧ dc ≤ maxLen ∧ ns.length ≤ nc ∧ nc ≤ maxLen ∧ hs.length ≤ hc ∧ hc ≤ maxLen ∧ DsAt W Ad qs ∧ NsAt W An ns ∧ Is W Ah hs := by
  obtain ⟨c0, c1, c2, y0, y1, y2, k, rfl, _, _, hy0, hy1, hy2⟩ := open_agg3 Tryz.underlying26 (by kernel_rfl) Tryz.cells26 hval h
  obtain ⟨Ad, dc, qs, e0, a1, a2, a3, _, _⟩ := open_ds Tryz.underlying22 Tryz.underlying52 Tryz.cells52 rfl rfl rfl (by kernel_rfl) (by kernel_rfl) (by kernel_rfl) Tryz.underlying9 rfl rfl Tryz.underlying24 Tryz.underlying3 (by kernel_rfl) hy0
  obtain ⟨An, nc, ns, e1, b1, b2, b3, _, _⟩ := open_ns Tryz.underlying23 Tryz.underlying56 Tryz.cells56 rfl rfl rfl rfl rfl (by kernel_rfl) (by kernel_rfl) (by kernel_rfl) (by kernel_rfl) (by kernel_rfl) Tryz.underlying9 rfl rfl rfl rfl Tryz.underlying24 Tryz.underlying3 (by kernel_rfl) hy1
  obtain ⟨Ah, hc, hs, e2, d1, d2, d3, _, _⟩ := open_isP (v := c2) Tryz.underlying24 Tryz.underlying3 (by kernel_rfl) hy2
  simp at e0 e1
  subst e0 e1 e2
  exact ⟨Ad, An, Ah, dc, nc, hc, qs, ns, hs, rfl, a1, a2, b1, b2, d1, d2, a3, b3, d3⟩
end
theorem vlT : VlT Tryz.prog 47 3 := ⟨44, 45, 96, _, _, _, _, _, _, _, Tryz.underlying47, by kernel_rfl, rfl, rfl, rfl, by kernel_rfl, by kernel_rfl, by kernel_rfl, rfl, rfl, rfl, Tryz.underlying44, rfl, rfl, rfl, rfl, Tryz.underlying45, Tryz.underlying96, by kernel_rfl, rfl, rfl, rfl, rfl, Tryz.underlying3, by kernel_rfl⟩
section
variable {H : Type} {enc : TypeId × Value → H} {W : World}
theorem Tryz.cells29 : Tryz.prog.cellsOf 29 = 1 := by kernel_rfl
theorem array1 {α : Type} {cs : Array α} (h : cs.size = 1) : ∃ c0, cs = #[c0] := by
  obtain ⟨l⟩ := cs
  match l, h with
  | [c0], _ => exact ⟨c0, rfl⟩
set_option maxRecDepth 100000 in
theorem open_world {base : Nat} {v : Value} {d : DataW H} {p : List MemPlace} (hval : Value.okWide Tryz.prog W .any base 29 v) (h : DataW.Trod enc Tryz.prog W 0 (fun _ => true) true 29 v d p) :
    ∃ Am mc ms, v = .agg #[.slice Am (List.length ms) mc] ∧ ms.length ≤ mc ∧ mc ≤ maxLen ∧ MsAt W Am ms ∧ ∀ q ∈ ms, Mg.wf q := by
  obtain ⟨cs, rfl, hsz⟩ := okWide_struct Tryz.underlying29 hval
  obtain ⟨c0, rfl⟩ := array1 (hsz.trans Tryz.cells29)
  obtain ⟨fuel, hf⟩ := h
  obtain ⟨xs, n, _, _, _, hxl, hg⟩ := DataW.trod_struct Tryz.underlying29 hf
  have q0 := hg 0 _ rfl
  have e0 : (0 : Nat) < xs.length := by rw [hxl]; decide
  rw [List.getElem?_eq_getElem e0] at q0
  have q1 : DataW.trod enc Tryz.prog W 0 (fun _ => true) true n 27 [c0] = some xs[0] := q0
  obtain ⟨A, c, qs, e1, h1, h2, h3, h4⟩ := open_ms vlT Tryz.underlying27 Tryz.underlying49 (by kernel_rfl) rfl rfl (by kernel_rfl) (by kernel_rfl) rfl rfl Tryz.underlying42 Tryz.underlying89 (by kernel_rfl) rfl rfl (by kernel_rfl) (by kernel_rfl) rfl rfl Tryz.underlying24 Tryz.underlying3 (by kernel_rfl) q1
  simp at e1
  subst e1
  exact ⟨A, c, qs, rfl, h1, h2, h3, h4⟩
end
end Go.Proofs.YtaodebpogibimaaGreat
namespace Go.Proofs.YtaodebpogibimaaGreat
open Go.RowKit

set_option maxRecDepth 100000 in
set_option maxHeartbeats 8000000 in
theorem refholds_ok (qs : List Dc) (ns : List Nd) (hs : List Int) (ms : List Mg) (Ad An Ah Am : Option Addr) (dc nc hc mc : Nat) (w : World) (h : AwAt w qs ns hs ms Ad An Ah Am dc nc hc mc) (vs : List Vl) (hr : mvR qs ns hs ms = .ok vs) :
    Calls Tryz.prog 9 #[.agg #[.slice Ad qs.length dc, .slice An ns.length nc, .slice Ah hs.length hc], .agg #[.slice Am ms.length mc]] w (HoldsQ (.ok vs) hs w) := by
  have HN := Lib.hid (va_new w (.slice Ad qs.length dc) (.slice An ns.length nc) (.slice Ah hs.length hc) (.slice Am ms.length mc))
  have X1 := Lib.hid (fun (W : World) (k : Below w.heap.size w W) => refval_any qs ns hs ms Ad An Ah Am dc nc hc mc W (h.below k))
  rw [hr] at X1
  have HI := Lib.hid h.fh
  have hl1 := h.h1
  have HH := Lib.hid (mvr_ok hr).2.2
  have hvl200 := (mvr_ok hr).1
  clear h hr
  generalize hQ : HoldsQ (.ok vs) hs w = Q0 at *
  have HQ0 := Lib.hid (fun e w' (z : HoldsQ (.ok vs) hs w e w') => (show Q0 e w' by rw [← hQ]; exact z))
  clear hQ
  unfold HoldsQ hoR errC errA at HQ0
  dsimp only at HQ0
  have HB1 : Hid ((∀ j, j < hs.length → (vn vs (nth hs j).toNat).num = 1) → (hs.any fun n => (vn vs n.toNat).num == 0) = false) := Lib.hid (fun k => by
    rw [List.any_eq_false]
    intro z hz
    obtain ⟨j, hj, rfl⟩ := List.getElem_of_mem hz
    have := k j hj
    rw [nth_of hj] at this
    rw [this]
    decide)
  have HB2 : Hid (∀ j, j < hs.length → (vn vs (nth hs j).toNat).num = 0 → (hs.any fun n => (vn vs n.toNat).num == 0) = true) := Lib.hid (fun j hj k => by
    rw [List.any_eq_true]
    rw [nth_of hj] at k
    exact ⟨_, List.getElem_mem hj, by rw [k]; rfl⟩)
  generalize hs.any (fun n => (vn vs n.toNat).num == 0) = B at *
  generalize qs.length = ql at *
  generalize ns.length = nl at *
  generalize hhl : hs.length = hl at *
  have HHL := Lib.hid hhl
  clear hhl
  generalize ms.length = ml at *
  generalize hvl : vs.length = vl at *
  have HVL := Lib.hid hvl
  clear hvl
  unfold maxLen at hl1
  obtain ⟨a0, a1, a2, af0, af1, af2⟩ := HN.out.a.three
  go_enter Tryz.func9, Tryz.ntmps9
  go_wp2_with fail
  refine (X1.out _ HN.out.b).mono ?_
  rintro e w1 hq1
  obtain ⟨A, c, rfl, hvs, hb1⟩ : ∃ A c, e = .returned (.tuple #[.slice A vs.length c, .agg #[.int .i64 0, .int .i64 0]]) ∧ VsAt w1 A vs ∧ Below _ _ w1 := hq1
  rw [HVL.out]
  have M1 := Lib.hid (HN.out.below hb1)
  have BY := Lib.hid (new_below w1 (.cells #[.int .i64 0, .int .i64 0] 32))
  have M2 := Lib.hid (M1.out.below BY.out)
  have VS := Lib.hid (hvs.below BY.out)
  have HF := Lib.hid (HB.new w1 32 #[.int .i64 0, .int .i64 0])
  clear hvs hb1 X1 HN M1 BY a0 a1 a2 af0 af1 af2
  obtain ⟨e0, e1, -⟩ := HF.out.two
  go_wp2_with fail
  generalize hW9 : w1.alloc (.cells #[.int .i64 0, .int .i64 0] 32) = W9 at *
  generalize hg7 : w1.heap.size = g7 at *
  clear hW9 hg7 e0 e1
  have HI9 := Lib.hid (HI.out.below M2.out.b)
  clear HI
  go_loopw [8] (fun k wr => ∃ i : Nat, i ≤ hl ∧ k = .int .i64 i ∧ wr = W9 ∧ Hid (∀ j, j < i → (vn vs (nth hs j).toNat).num = 1)) (fun k _ => hl - (intOf k).toNat)
  case atStart => exact ⟨0, by omega, rfl, rfl, Lib.hid (fun j hj => absurd hj (by omega))⟩
  case round =>
    obtain ⟨i, hi, rfl, rfl, HJ⟩ := hrel
    obtain ⟨a0, a1, a2, af0, af1, af2⟩ := M2.out.a.three
    obtain ⟨f0, f1, f2, f3⟩ := M2.out.f.two
    obtain ⟨e0, e1, -⟩ := HF.out.two
    by_cases hlt : i < hl
    · have t3 : decide ((i : Int) < hl) = true := by simpa using hlt
      have l0 : (i : Int) < hl := by omega
      obtain ⟨bh, oh, rfl, lh, h0⟩ := is_at (i := i) HI9.out (by rw [HHL.out]; exact hlt)
      obtain ⟨z0, z1, z2⟩ := HH.out i hlt
      have HJ2 : Hid ((vn vs (nth hs i).toNat).num = 1 → ∀ j, j < i + 1 → (vn vs (nth hs j).toNat).num = 1) := Lib.hid (fun k j hj => by
        rcases Nat.lt_or_ge j i with z | z
        · exact HJ.out j z
        · obtain rfl : j = i := by omega
          exact k)
      have HB3 := Lib.hid (HB2.out i hlt)
      obtain ⟨n, hn⟩ : ∃ n : Nat, nth hs i = n := ⟨(nth hs i).toNat, by omega⟩
      rw [hn] at z0 z1 z2 HJ2 HB3 h0
      rw [Int.toNat_natCast] at z2 HJ2 HB3
      clear hn
      obtain ⟨bv, ov, rfl, lv, v0, -⟩ := vs_at (i := n) VS.out (by rw [HVL.out]; omega)
      simp only [Nat.add_zero] at v0
      have l1 : (n : Int) < vl := by omega
      by_cases hz : (vn vs n).num = 1
      · have HJ3 := Lib.hid (HJ2.out hz)
        rw [hz] at v0
        clear hz z2 HJ2 HB3
        go_wp2_with fail
        go_round
        case rel => exact ⟨i + 1, by omega, by go_num, trivial, HJ3⟩
        case measure => simp [intOf]; omega
      · have hz0 : (vn vs n).num = 0 := by omega
        have HBT := Lib.hid (HB3.out hz0)
        rw [hz0] at v0
        clear hz z2 HJ2 HB3 hz0
        go_wp2_with fail
        have Z2 := Lib.hid (hb_set2 (n := .int .i64 0) (d := .int .i64 0) M2.out.f)
        have BF := Lib.hid (bw_far M2.out.b (by omega) (far2 wr (w.heap.size + 1 + 1) (.int .i64 0) (.int .i64 0)))
        go_region
        all_goals
          obtain ⟨y0, y1, -⟩ := Z2.out.drew.two
          have FIN := Lib.hid (HQ0.out (.returned (.tuple #[.bool false, .agg #[.int .i64 0, .int .i64 0]])) _ ⟨by rw [HBT.out]; rfl, BF.out.drew⟩)
          clear f0 f1 f2 f3 Z2 BF
          go_wp2_with fail
          exact bodyPost_ret (v := .tuple #[.bool false, .agg #[.int .i64 0, .int .i64 0]]) (by simp [results, Tryz.results9, go_sem, y0, y1]) rfl FIN.out
    · obtain rfl : i = hl := by omega
      have t3 : decide ((i : Int) < i) = false := by simp
      have HBT := Lib.hid (HB1.out HJ.out)
      go_wp2_with fail
      have Z2 := Lib.hid (hb_set2 (n := .int .i64 0) (d := .int .i64 0) M2.out.f)
      have BF := Lib.hid (bw_far M2.out.b (by omega) (far2 wr (w.heap.size + 1 + 1) (.int .i64 0) (.int .i64 0)))
      go_region
      all_goals
        obtain ⟨y0, y1, -⟩ := Z2.out.drew.two
        have FIN := Lib.hid (HQ0.out (.returned (.tuple #[.bool true, .agg #[.int .i64 0, .int .i64 0]])) _ ⟨by rw [HBT.out]; rfl, BF.out.drew⟩)
        clear f0 f1 f2 f3 Z2 BF
        go_wp2_with fail
        exact bodyPost_ret (v := .tuple #[.bool true, .agg #[.int .i64 0, .int .i64 0]]) (by simp [results, Tryz.results9, go_sem, y0, y1]) rfl FIN.out
set_option maxRecDepth 100000 in
set_option maxHeartbeats 8000000 in
theorem refholds_err (qs : List Dc) (ns : List Nd) (hs : List Int) (ms : List Mg) (Ad An Ah Am : Option Addr) (dc nc hc mc : Nat) (w : World) (h : AwAt w qs ns hs ms Ad An Ah Am dc nc hc mc) (C D : Int) (hr : mvR qs ns hs ms = .error (C, D)) :
    Calls Tryz.prog 9 #[.agg #[.slice Ad qs.length dc, .slice An ns.length nc, .slice Ah hs.length hc], .agg #[.slice Am ms.length mc]] w (HoldsQ (.error (C, D)) hs w) := by
  have HN := Lib.hid (va_new w (.slice Ad qs.length dc) (.slice An ns.length nc) (.slice Ah hs.length hc) (.slice Am ms.length mc))
  have X1 := Lib.hid (fun (W : World) (k : Below w.heap.size w W) => refval_any qs ns hs ms Ad An Ah Am dc nc hc mc W (h.below k))
  rw [hr] at X1
  have hC := mvr_err hr
  clear h hr
  have tc2 : (C != 0) = true := by simpa using hC
  clear hC
  generalize hQ : HoldsQ (.error (C, D)) hs w = Q0 at *
  have HQ0 := Lib.hid (fun e w' (z : HoldsQ (.error (C, D)) hs w e w') => (show Q0 e w' by rw [← hQ]; exact z))
  clear hQ
  unfold HoldsQ hoR errC errA at HQ0
  dsimp only at HQ0
  generalize qs.length = ql at *
  generalize ns.length = nl at *
  generalize hs.length = hl at *
  generalize ms.length = ml at *
  obtain ⟨a0, a1, a2, af0, af1, af2⟩ := HN.out.a.three
  go_enter Tryz.func9, Tryz.ntmps9
  go_wp2_with fail
  refine (X1.out _ HN.out.b).mono ?_
  rintro e w1 ⟨rfl, hb1⟩
  have M1 := Lib.hid (HN.out.below hb1)
  have M2 := Lib.hid (M1.out.below (new_below w1 (.cells #[.int .i64 C, .int .i64 D] 32)))
  clear hb1 a0 a1 a2 af0 af1 af2
  dsimp only
  obtain ⟨e0, e1, ef0, ef1⟩ := M2.out.f.two
  go_wp2_with fail
  have Z2 := Lib.hid (hb_set2 (n := .int .i64 C) (d := .int .i64 D) M2.out.f)
  have BF := Lib.hid (bw_far M2.out.b (by omega) (far2 (w1.alloc (.cells #[.int .i64 C, .int .i64 D] 32)) (w.heap.size + 1 + 1) (.int .i64 C) (.int .i64 D)))
  go_region
  all_goals
    obtain ⟨z0, z1, -⟩ := Z2.out.drew.two
    have FIN := Lib.hid (HQ0.out (.returned (.tuple #[.bool false, .agg #[.int .i64 C, .int .i64 D]])) _ ⟨rfl, BF.out.drew⟩)
    clear e0 e1 ef0 ef1 Z2 BF
    go_wp2_with fail
    exact bodyPost_ret (v := .tuple #[.bool false, .agg #[.int .i64 C, .int .i64 D]]) (by simp [results, Tryz.results9, go_sem, z0, z1]) rfl FIN.out
/-- THE CONTRACT of MeanHolds. -/
theorem refholds_any (qs : List Dc) (ns : List Nd) (hs : List Int) (ms : List Mg) (Ad An Ah Am : Option Addr) (dc nc hc mc : Nat) (w : World) (h : AwAt w qs ns hs ms Ad An Ah Am dc nc hc mc) :
    Calls Tryz.prog 9 #[.agg #[.slice Ad qs.length dc, .slice An ns.length nc, .slice Ah hs.length hc], .agg #[.slice Am ms.length mc]] w (HoldsQ (mvR qs ns hs ms) hs w) := by
  cases hr : mvR qs ns hs ms with
  | ok vs => exact refholds_ok qs ns hs ms Ad An Ah Am dc nc hc mc w h vs hr
  | error e =>
    obtain ⟨C, D⟩ := e
    exact refholds_err qs ns hs ms Ad An Ah Am dc nc hc mc w h C D hr
theorem progholds_any (qs : List Dc) (ns : List Nd) (hs : List Int) (ms : List Mg) (Ad An Ah Am : Option Addr) (dc nc hc mc : Nat) (w : World) (h : AwAt w qs ns hs ms Ad An Ah Am dc nc hc mc) :
    Calls Tryz.prog 8 #[.agg #[.slice Ad qs.length dc, .slice An ns.length nc, .slice Ah hs.length hc], .agg #[.slice Am ms.length mc]] w (HoldsQ (mvR qs ns hs ms) hs w) :=
  holds_any qs ns hs ms Ad An Ah Am dc nc hc mc w h (fun _ _ z => mvr_err z) (fun _ z i hi => ⟨((mvr_ok z).2.2 i hi).1, ((mvr_ok z).2.2 i hi).2.1⟩)
end Go.Proofs.YtaodebpogibimaaGreat
namespace Go.Proofs.YtaodebpogibimaaGreat
open Go.RowKit

theorem mvr_nil : mvR [] [] [] [] = .ok [] := by
  have h : akC [] [] [] = 0 := by decide
  have h2 : meC [] [] [] [] = 0 := by
    unfold meC
    rw [if_pos h]
    decide
  unfold mvR
  rw [if_pos h2]
  rfl
theorem aw_nil (w : World) : AwAt w [] [] [] [] none none none none 0 0 0 0 := ⟨Nat.le_refl _, Nat.zero_le _, Nat.le_refl _, Nat.zero_le _, Nat.zero_le _, trivial, Nat.le_refl _, Nat.zero_le _, fun z => absurd z (by simp), fun z => absurd z (by simp), is_nil _ _, ms_nil _ _, fun q hq => absurd hq (by simp)⟩
set_option maxRecDepth 100000 in
set_option maxHeartbeats 4000000 in
theorem holdssays_any (qs : List Dc) (ns : List Nd) (hs : List Int) (ms : List Mg) (Ad An Ah Am : Option Addr) (dc nc hc mc : Nat) (w : World) (h : AwAt w qs ns hs ms Ad An Ah Am dc nc hc mc) :
    Calls Tryz.prog 4 #[.agg #[.slice Ad qs.length dc, .slice An ns.length nc, .slice Ah hs.length hc], .agg #[.slice Am ms.length mc]] w fun e w' => e = .returned (.bool true) ∧ Below w.heap.size w w' := by
  have X1 := Lib.hid (fun (W : World) (k : Below w.heap.size w W) => progholds_any qs ns hs ms Ad An Ah Am dc nc hc mc W (h.below k))
  have X2 := Lib.hid (fun (W : World) (k : Below w.heap.size w W) => refholds_any qs ns hs ms Ad An Ah Am dc nc hc mc W (h.below k))
  have X3 : Hid (∀ W, Calls Tryz.prog 8 #[.agg #[.slice none 0 0, .slice none 0 0, .slice none 0 0], .agg #[.slice none 0 0]] W fun e w' => e = .returned (.tuple #[.bool true, .agg #[.int .i64 0, .int .i64 0]]) ∧ Below W.heap.size W w') := Lib.hid (fun W => by
    have := progholds_any [] [] [] [] none none none none 0 0 0 0 W (aw_nil W)
    rw [mvr_nil] at this
    exact this)
  unfold HoldsQ at X1 X2
  have NA : Hid (HB ((w.alloc (.cells #[.slice Ad qs.length dc, .slice An ns.length nc, .slice Ah hs.length hc] 26)).alloc (.cells #[.slice Am ms.length mc] 29)) w.heap.size 26 #[.slice Ad qs.length dc, .slice An ns.length nc, .slice Ah hs.length hc]) := Lib.hid ((HB.new _ _ _).alloc _)
  have NW : Hid (HB ((w.alloc (.cells #[.slice Ad qs.length dc, .slice An ns.length nc, .slice Ah hs.length hc] 26)).alloc (.cells #[.slice Am ms.length mc] 29)) (w.heap.size + 1) 29 #[.slice Am ms.length mc]) := Lib.hid (HB.new1 _ _ _ _)
  have B0 : Hid (Below w.heap.size w ((w.alloc (.cells #[.slice Ad qs.length dc, .slice An ns.length nc, .slice Ah hs.length hc] 26)).alloc (.cells #[.slice Am ms.length mc] 29))) := Lib.hid (by go_grown)
  clear h
  generalize hoR (mvR qs ns hs ms) hs = R at *
  generalize errC (mvR qs ns hs ms) = C at *
  generalize errA (mvR qs ns hs ms) = D at *
  generalize qs.length = ql at *
  generalize ns.length = nl at *
  generalize hs.length = hl at *
  generalize ms.length = ml at *
  obtain ⟨a0, a1, a2, -⟩ := NA.out.three
  obtain ⟨m0, -⟩ := NW.out.one
  go_enter Tryz.func4, Tryz.ntmps4
  go_wp2_with fail
  refine (X1.out _ B0.out).mono ?_
  rintro e w1 ⟨rfl, hb1⟩
  have BF1 := Lib.hid (new_below w1 (.cells #[.int .i64 C, .int .i64 D] 32))
  have F1 := Lib.hid (HB.new w1 32 #[.int .i64 C, .int .i64 D])
  have NA1 := Lib.hid ((NA.out.below hb1).below BF1.out)
  have NW1 := Lib.hid ((NW.out.below hb1).below BF1.out)
  have B1 := Lib.hid (below_after (below_after B0.out hb1) BF1.out)
  clear hb1 X1 NA NW B0 a0 a1 a2 m0 BF1
  obtain ⟨a0, a1, a2, -⟩ := NA1.out.three
  obtain ⟨m0, -⟩ := NW1.out.one
  go_wp2_with fail
  generalize hW : w1.alloc (.cells #[.int .i64 C, .int .i64 D] 32) = W2 at *
  generalize hg : w1.heap.size = g1 at *
  clear hW hg
  refine (X2.out _ B1.out).mono ?_
  rintro e w2 ⟨rfl, hb2⟩
  have BF2 := Lib.hid (new_below w2 (.cells #[.int .i64 C, .int .i64 D] 32))
  have F2 := Lib.hid (HB.new w2 32 #[.int .i64 C, .int .i64 D])
  have F3 := Lib.hid ((F1.out.below hb2).below BF2.out)
  have B2 := Lib.hid (below_after (below_after B1.out hb2) BF2.out)
  clear hb2 X2 NA1 NW1 B1 F1 a0 a1 a2 m0 BF2
  go_wp2_with fail
  generalize hW : w2.alloc (.cells #[.int .i64 C, .int .i64 D] 32) = W3 at *
  generalize hg : w2.heap.size = g2 at *
  clear hW hg
  refine (X3.out _).mono ?_
  rintro e w3 ⟨rfl, hb3⟩
  have BF3 := Lib.hid (new_below w3 (.cells #[.int .i64 0, .int .i64 0] 32))
  have F4 := Lib.hid (HB.new w3 32 #[.int .i64 0, .int .i64 0])
  have F5 := Lib.hid ((F3.out.below hb3).below BF3.out)
  have F6 := Lib.hid ((F2.out.below hb3).below BF3.out)
  have B3 := Lib.hid (below_after (below_after B2.out hb3) BF3.out)
  clear hb3 F3 F2 B2 X3 BF3
  obtain ⟨f0, f1, -⟩ := F5.out.two
  obtain ⟨e0, e1, -⟩ := F6.out.two
  obtain ⟨d0, d1, -⟩ := F4.out.two
  have tr : (R == R) = true := by simp
  go_wp2_with fail
  go_ret
  exact ⟨by simp, B3.out⟩
end Go.Proofs.YtaodebpogibimaaGreat
