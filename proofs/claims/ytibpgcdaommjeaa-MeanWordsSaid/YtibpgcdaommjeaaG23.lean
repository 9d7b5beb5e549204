/-
  Values of nodes: the reckoning of an array's look-up, and of an array that is put to.
  Values of nodes: the reckoning of a node, whole; mean.Value, whole.
  Asks that are made of raw numbers: nodes that may be, with their sorts.
-/
import Derived.Test.YtibpgcdaommjeaaG22
import Derived.Test.YtibpgcdaommjeaaG21
import Derived.Test.YtibpgcdaommjeaaG14
import Derived.Test.YtibpgcdaommjeaaG17
namespace Go.Proofs.Ytibpgcdaommjeaa
open Go.RowKit

/-- A value in memory, and some numbers. -/
@[reducible] def GtE (bv ov bf of : Nat) (x0 x1 x2 x3 y0 y1 : Value) (W : World) : Prop := W.cell? ⟨bv, ov, none⟩ = some x0 ∧ W.cell? ⟨bv, ov + 1, none⟩ = some x1 ∧ W.cell? ⟨bv, ov + 2, none⟩ = some x2 ∧ W.cell? ⟨bv, ov + 3, none⟩ = some x3 ∧ W.cell? ⟨bf, of + 2, none⟩ = some y0 ∧ W.cell? ⟨bf, of + 4, none⟩ = some y1
theorem gte_of {bv ov bf of : Nat} {x0 x1 x2 x3 y0 y1 : Value} {W W' : World} (h : GtE bv ov bf of x0 x1 x2 x3 y0 y1 W) (h1 : W'.heap[bv]? = W.heap[bv]?) (h2 : W'.heap[bf]? = W.heap[bf]?) : GtE bv ov bf of x0 x1 x2 x3 y0 y1 W' :=
  ⟨(World.cell?_of_block h1).trans h.1, (World.cell?_of_block h1).trans h.2.1, (World.cell?_of_block h1).trans h.2.2.1, (World.cell?_of_block h1).trans h.2.2.2.1, (World.cell?_of_block h2).trans h.2.2.2.2.1, (World.cell?_of_block h2).trans h.2.2.2.2.2⟩
@[reducible] def GgE (bv ov bf of : Nat) (x0 x1 x2 x3 y0 : Value) (W : World) : Prop := W.cell? ⟨bv, ov, none⟩ = some x0 ∧ W.cell? ⟨bv, ov + 1, none⟩ = some x1 ∧ W.cell? ⟨bv, ov + 2, none⟩ = some x2 ∧ W.cell? ⟨bv, ov + 3, none⟩ = some x3 ∧ W.cell? ⟨bf, of + 2, none⟩ = some y0
theorem gge_of {bv ov bf of : Nat} {x0 x1 x2 x3 y0 : Value} {W W' : World} (h : GgE bv ov bf of x0 x1 x2 x3 y0 W) (h1 : W'.heap[bv]? = W.heap[bv]?) (h2 : W'.heap[bf]? = W.heap[bf]?) : GgE bv ov bf of x0 x1 x2 x3 y0 W' :=
  ⟨(World.cell?_of_block h1).trans h.1, (World.cell?_of_block h1).trans h.2.1, (World.cell?_of_block h1).trans h.2.2.1, (World.cell?_of_block h1).trans h.2.2.2.1, (World.cell?_of_block h2).trans h.2.2.2.2⟩
theorem cs_cell {w : World} {b o : Nat} {cs : List (Int × Int)} (h : CsAt w (some ⟨b, o, none⟩) cs) {i : Nat} (hi : i < cs.length) : w.cell? ⟨b, o + i * 2, none⟩ = some (.int .i64 (cn cs i).1) := by
  obtain ⟨b', o', e, _, c, _⟩ := cs_at h hi
  injection e with e
  injection e with e1 e2
  subst e1 e2
  exact c
theorem nums1 (kids : List Vl) (j : Nat) : (cn (numsOf kids) j).1 = (vn kids j).num := by
  unfold cn numsOf vn
  rw [List.getD_eq_getElem?_getD, List.getD_eq_getElem?_getD, List.getElem?_map]
  cases kids[j]? with
  | none => rfl
  | some v => rfl
set_option maxRecDepth 100000 in
set_option maxHeartbeats 8000000 in
theorem eval_get {fidd : Nat} (capss : Array Value) (sort : Int) (N D : Int) (nm : ByteArray) (Ak Av : Option Addr) (kl kc vc : Nat) (kids : List Vl) (hk : kids.length ≤ 1000) (w : World) (hv : VsAt w Av kids) (h3 : 2 ≤ kids.length) (hcl : (vn kids 0).cells.length ≤ 2000) (hsr : Srt (vn kids 0).cells) :
    Calls Try.prog 18 #[.agg #[.int .i64 24, .slice Ak kl kc, .int .i64 N, .int .i64 D, .string nm], .int .i64 sort, .slice Av kids.length vc, .func (.func fidd) #[] capss] w (EvQ (Vl.mk (getF (vn kids 0) (vn kids 1).num) 1 [] 0) 0 w) := by
  have HN := Lib.hid (ev_new w 24 N D nm Ak kl kc)
  have HV := Lib.hid hv
  have HLN := Lib.hid (numsOf_len kids)
  obtain ⟨bv, ov, rfl, hbv, y0, y1, y3, Ac0, cc0, y2, hlc, _, hcs⟩ := vs_at (i := 0) hv (by omega)
  simp only [Nat.add_zero, Nat.zero_add, Nat.zero_mul] at y0 y1 y2 y3
  have HPK := Lib.hid (fun (W : World) (k : Below w.heap.size w W) => get_any (vn kids 0) Ac0 cc0 (vn kids 1).num hcl hsr W (hcs.below k))
  have HYS := Lib.hid (And.intro y0 (And.intro y1 (And.intro y2 y3)))
  have hn1 : 1 < (numsOf kids).length := by rw [numsOf_len]; omega
  skip
  have HN1 := Lib.hid (nums1 kids 1)
  have HN2 := Lib.hid (nums1 kids 2)
  clear y0 y1 y2 y3 hcs hsr hcl hlc
  generalize getF (vn kids 0) (vn kids 1).num = x at *
  have hlt3 : 2 ≤ kids.length := h3
  generalize hL : kids.length = L at *
  have HL := Lib.hid hL
  clear hv hL
  go_enter Try.func18, Try.ntmps18
  go_wp2_with fail
  go_loopw [10, 12, 17] (fun nv _ k wr => ∃ i : Nat, i ≤ L ∧ k = .int .i64 i ∧ Hid (wr.ownsRow w.heap.size 39 2 nv i (csV (numsOf (kids.take i)))) ∧ Hid (EvM w 24 N D nm Ak kl kc wr)) (fun _ _ k _ => L - (intOf k).toNat)
  case atStart => exact ⟨0, by omega, rfl, Lib.hid (own_nil _ _ _ _), Lib.hid ⟨HN.out.1, HN.out.2.1, HN.out.2.2.1, HN.out.2.2.2⟩⟩
  case round =>
    clear HN
    obtain ⟨i, hi, rfl, HO, HM⟩ := hrel
    by_cases hlt : i < L
    · obtain ⟨b, o, hAv, hb, c0, c1, c3, Ac, cc, c2, _⟩ := vs_at (i := i) (HV.out.below HM.out.b) (by rw [HL.out]; exact hlt)
      have t3 : decide ((i : Int) < L) = true := by simpa using hlt
      injection hAv with hAv
      injection hAv with hA1 hA2
      subst hA1 hA2
      have HT := Lib.hid (numsOf_take (kids := kids) (i := i) (by rw [HL.out]; exact hlt))
      simp only [Nat.add_zero, Nat.zero_add] at c0 c1 c2 c3
      generalize (vn kids i).num = qn at *
      generalize (vn kids i).den = qd at *
      generalize (vn kids i).rest = qr at *
      generalize (vn kids i).cells.length = ql at *
      generalize u10 = kv at *
      have B1 := Lib.hid (new_below wr (.cells #[.int .i64 qn, .int .i64 qd, .slice Ac ql cc, .int .i64 qr] 42))
      have B2 := Lib.hid (new_below (wr.alloc (.cells #[.int .i64 qn, .int .i64 qd, .slice Ac ql cc, .int .i64 qr] 42)) (.cells #[.int .i64 qn, .int .i64 qd] 39))
      have HO3 := Lib.hid (own_below (own_below HO.out B1.out) B2.out)
      have HM3 := Lib.hid ((HM.out.below B1.out).below B2.out)
      go_wp2_with (at_builtin; refine wpl_app2 76 39 Try.underlying76 (.agg #[.int .i64 0, .int .i64 0]) 2 16 infoFrac rfl (by decide) rfl _ _ rfl w.heap.size kv i (csV (numsOf (kids.take i))) rfl HO3.out (wr.heap.size + 1) #[.int .i64 qn, .int .i64 qd] rfl (HB.new1 _ _ _ _) rfl (by simp [Value.oneCell']) (by omega) (by unfold maxLen; omega) HM3.out.b.size ?_)
      intro g4 cap4 w4 hown4 hkp4 hbw4 _
      have M4 : Hid (EvM w 24 N D nm Ak kl kc w4) := Lib.hid ⟨hkp4 _ _ _ (own_ne HO3.out HM3.out.n (by decide)) HM3.out.n, hkp4 _ _ _ (own_ne HO3.out HM3.out.v (by decide)) HM3.out.v, hkp4 _ _ _ (own_ne HO3.out HM3.out.f (by decide)) HM3.out.f, hbw4 _ HM3.out.b⟩
      have O4 := hown4
      clear hkp4 hbw4 hown4
      go_wp2_with fail
      go_round
      case rel => exact ⟨i + 1, by omega, by go_num, Lib.hid (by rw [HT.out, csV_snoc]; exact O4.out), M4⟩
      case measure => simp [intOf]; omega
    · obtain rfl : i = L := by omega
      have t3 : decide ((i : Int) < i) = false := by simp
      obtain ⟨An, nc, hkv⟩ := own_val HO.out
      subst hkv
      have HFS : Hid (numsOf (kids.take i) = numsOf kids) := Lib.hid (by rw [List.take_of_length_le (by rw [HL.out]; exact Nat.le_refl _)])
      have HC : Hid (CsAt wr An (numsOf kids)) := Lib.hid (by
        rw [← HFS.out]
        exact own_cs HO.out (by rw [HFS.out, HLN.out]))
      have HLEN : Hid ((numsOf kids).length = i) := HLN
      obtain ⟨k0, k1, k2, k3, k4⟩ := HM.out.n.five
      obtain ⟨bf, of', rfl, hbf, _, _⟩ := cs_at (i := 1) HC.out hn1
      have z1 := cs_cell HC.out hn1
      skip
      rw [HN1.out] at z1
      skip
      have KF : Hid (∀ W', W'.heap[bv]? = wr.heap[bv]? → W'.heap[bf]? = wr.heap[bf]? → GgE bv ov bf of' (.int .i64 (vn kids 0).num) (.int .i64 (vn kids 0).den) (.slice Ac0 (vn kids 0).cells.length cc0) (.int .i64 (vn kids 0).rest) (.int .i64 (vn kids 1).num) W') := Lib.hid (fun W' h1 h2 => gge_of ⟨(HM.out.b.cell (p := ⟨bv, ov, none⟩) hbv).trans HYS.out.1, (HM.out.b.cell (p := ⟨bv, ov + 1, none⟩) hbv).trans HYS.out.2.1, (HM.out.b.cell (p := ⟨bv, ov + 2, none⟩) hbv).trans HYS.out.2.2.1, (HM.out.b.cell (p := ⟨bv, ov + 3, none⟩) hbv).trans HYS.out.2.2.2, z1 ⟩ h1 h2)
      have nv : bf ≠ w.heap.size + 1 := fun z => (own_ne HO.out HM.out.v (by decide)) (by simp [Value.ownBlock, z])
      have nf : bf ≠ w.heap.size + 1 + 1 := fun z => (own_ne HO.out HM.out.f (by decide)) (by simp [Value.ownBlock, z])
      have bvr : bv < wr.heap.size := Nat.lt_of_lt_of_le hbv HM.out.b.size
      have l1 : 1 < i := by omega
      have l1z : (1 : Int) < i := by omega
      have l0 : 0 < i := by omega
      have l0z : (0 : Int) < i := by omega
      skip
      have T1 := Lib.hid (fun (W : World) (k : Below wr.heap.size wr W) => HPK.out W (bw_below (Nat.le_refl _) HM.out.b k))
      clear z1
      generalize (vn kids 0).num = v0n at *
      generalize (vn kids 0).den = v0d at *
      generalize (vn kids 0).cells.length = v0l at *
      generalize (vn kids 0).rest = v0r at *
      generalize (vn kids 1).num = v1n at *
      generalize (vn kids 2).num = v2n at *
      go_upto_region 18 with fail
      clear k0 k1 k2 k3 k4
      go_region_held3 (fun W => GgE bv ov bf of' (.int .i64 v0n) (.int .i64 v0d) (.slice Ac0 v0l cc0) (.int .i64 v0r) (.int .i64 v1n) W)
        ((refine KF.out _ ?_ ?_ <;> (first | (simp (disch := (first | omega | (simp only [sz_drew, sz_set, sz_alloc]; omega))) only [hp_set, L6.out.1, L6.out.2]; done) | (simp only [L5.out.1, L5.out.2]; done) | (simp only [hp_drew]; done))))
        (first
          | (go_at_call 32; refine (T1.out _ (by go_grown)).mono ?_; rintro e w1 ⟨rfl, hb1⟩; have G1 : Hid (Below wr.heap.size wr w1) := Lib.hid (below_after (show Below wr.heap.size wr _ by go_grown) hb1); have L5 : Hid (w1.heap[bv]? = wr.heap[bv]? ∧ w1.heap[bf]? = wr.heap[bf]?) := Lib.hid ⟨G1.out.block _ bvr, G1.out.block _ hbf⟩; clear hb1)
          | (go_at_call 31; refine (whole_any _ _).mono ?_; rintro e w2 ⟨rfl, hb2⟩; have G2 : Hid (Below wr.heap.size wr w2) := Lib.hid (below_after (by first | exact G1.out | exact G1.out.drew) hb2); have L6 : Hid (w2.heap[bv]? = wr.heap[bv]? ∧ w2.heap[bf]? = wr.heap[bf]?) := Lib.hid ⟨G2.out.block _ bvr, G2.out.block _ hbf⟩; obtain ⟨e0, e1, e2, e3, fe0, fe1, fe2, fe3⟩ := (HM.out.below G2.out).v.four; obtain ⟨g0, g1, fg0, fg1⟩ := (HM.out.below G2.out).f.two; clear hb2))
      all_goals
        have M9 := Lib.hid (HM.out.below G2.out)
        have P8 := ev_put M9.out (Vl.mk x 1 [] 0) none 0 0
        dsimp only [List.length_nil] at P8
        have P9 := Lib.hid P8
        obtain ⟨z0, z1, z2, z3, -⟩ := P9.out.1.four
        obtain ⟨y0, y1, -⟩ := P9.out.2.1.two
        have FIN : Hid (EvQ (Vl.mk x 1 [] 0) 0 w (.returned (.tuple #[.agg #[.int .i64 x, .int .i64 1, .slice none 0 0, .int .i64 0], .agg #[.int .i64 0, .int .i64 0]])) _) := Lib.hid ⟨none, 0, rfl, Lib.hid (own_nil _ _ _ _), P9.out.2.2.1⟩
        clear P8 P9
        go_wp2_with fail
        exact bodyPost_ret (v := .tuple #[.agg #[.int .i64 x, .int .i64 1, .slice none 0 0, .int .i64 0], .agg #[.int .i64 0, .int .i64 0]]) (by simp [results, Try.results18, go_sem, z0, z1, z2, z3, y0, y1]) rfl FIN.out
set_option maxRecDepth 100000 in
set_option maxHeartbeats 8000000 in
theorem eval_put {fidd : Nat} (capss : Array Value) (sort : Int) (N D : Int) (nm : ByteArray) (Ak Av : Option Addr) (kl kc vc : Nat) (kids : List Vl) (hk : kids.length ≤ 1000) (w : World) (hv : VsAt w Av kids) (h3 : 3 ≤ kids.length) (hcl : (vn kids 0).cells.length ≤ 2000) (hsr : Srt (vn kids 0).cells) :
    Calls Try.prog 18 #[.agg #[.int .i64 25, .slice Ak kl kc, .int .i64 N, .int .i64 D, .string nm], .int .i64 sort, .slice Av kids.length vc, .func (.func fidd) #[] capss] w (EvQ (putF (vn kids 0) (vn kids 1).num (vn kids 2).num) 0 w) := by
  have HN := Lib.hid (ev_new w 25 N D nm Ak kl kc)
  have HV := Lib.hid hv
  have HLN := Lib.hid (numsOf_len kids)
  obtain ⟨bv, ov, rfl, hbv, y0, y1, y3, Ac0, cc0, y2, hlc, _, hcs⟩ := vs_at (i := 0) hv (by omega)
  simp only [Nat.add_zero, Nat.zero_add, Nat.zero_mul] at y0 y1 y2 y3
  have HPK := Lib.hid (fun (W : World) (k : Below w.heap.size w W) => putv_any (vn kids 0) Ac0 cc0 (vn kids 1).num (vn kids 2).num hcl hlc hsr W (hcs.below k))
  have HYS := Lib.hid (And.intro y0 (And.intro y1 (And.intro y2 y3)))
  have hn1 : 1 < (numsOf kids).length := by rw [numsOf_len]; omega
  have hn2 : 2 < (numsOf kids).length := by rw [numsOf_len]; omega
  have HN1 := Lib.hid (nums1 kids 1)
  have HN2 := Lib.hid (nums1 kids 2)
  clear y0 y1 y2 y3 hcs hsr hcl hlc
  unfold ValQ at HPK
  generalize putF (vn kids 0) (vn kids 1).num (vn kids 2).num = q at *
  have hlt3 : 3 ≤ kids.length := h3
  generalize hL : kids.length = L at *
  have HL := Lib.hid hL
  clear hv hL
  go_enter Try.func18, Try.ntmps18
  go_wp2_with fail
  go_loopw [10, 12, 17] (fun nv _ k wr => ∃ i : Nat, i ≤ L ∧ k = .int .i64 i ∧ Hid (wr.ownsRow w.heap.size 39 2 nv i (csV (numsOf (kids.take i)))) ∧ Hid (EvM w 25 N D nm Ak kl kc wr)) (fun _ _ k _ => L - (intOf k).toNat)
  case atStart => exact ⟨0, by omega, rfl, Lib.hid (own_nil _ _ _ _), Lib.hid ⟨HN.out.1, HN.out.2.1, HN.out.2.2.1, HN.out.2.2.2⟩⟩
  case round =>
    clear HN
    obtain ⟨i, hi, rfl, HO, HM⟩ := hrel
    by_cases hlt : i < L
    · obtain ⟨b, o, hAv, hb, c0, c1, c3, Ac, cc, c2, _⟩ := vs_at (i := i) (HV.out.below HM.out.b) (by rw [HL.out]; exact hlt)
      have t3 : decide ((i : Int) < L) = true := by simpa using hlt
      injection hAv with hAv
      injection hAv with hA1 hA2
      subst hA1 hA2
      have HT := Lib.hid (numsOf_take (kids := kids) (i := i) (by rw [HL.out]; exact hlt))
      simp only [Nat.add_zero, Nat.zero_add] at c0 c1 c2 c3
      generalize (vn kids i).num = qn at *
      generalize (vn kids i).den = qd at *
      generalize (vn kids i).rest = qr at *
      generalize (vn kids i).cells.length = ql at *
      generalize u10 = kv at *
      have B1 := Lib.hid (new_below wr (.cells #[.int .i64 qn, .int .i64 qd, .slice Ac ql cc, .int .i64 qr] 42))
      have B2 := Lib.hid (new_below (wr.alloc (.cells #[.int .i64 qn, .int .i64 qd, .slice Ac ql cc, .int .i64 qr] 42)) (.cells #[.int .i64 qn, .int .i64 qd] 39))
      have HO3 := Lib.hid (own_below (own_below HO.out B1.out) B2.out)
      have HM3 := Lib.hid ((HM.out.below B1.out).below B2.out)
      go_wp2_with (at_builtin; refine wpl_app2 76 39 Try.underlying76 (.agg #[.int .i64 0, .int .i64 0]) 2 16 infoFrac rfl (by decide) rfl _ _ rfl w.heap.size kv i (csV (numsOf (kids.take i))) rfl HO3.out (wr.heap.size + 1) #[.int .i64 qn, .int .i64 qd] rfl (HB.new1 _ _ _ _) rfl (by simp [Value.oneCell']) (by omega) (by unfold maxLen; omega) HM3.out.b.size ?_)
      intro g4 cap4 w4 hown4 hkp4 hbw4 _
      have M4 : Hid (EvM w 25 N D nm Ak kl kc w4) := Lib.hid ⟨hkp4 _ _ _ (own_ne HO3.out HM3.out.n (by decide)) HM3.out.n, hkp4 _ _ _ (own_ne HO3.out HM3.out.v (by decide)) HM3.out.v, hkp4 _ _ _ (own_ne HO3.out HM3.out.f (by decide)) HM3.out.f, hbw4 _ HM3.out.b⟩
      have O4 := hown4
      clear hkp4 hbw4 hown4
      go_wp2_with fail
      go_round
      case rel => exact ⟨i + 1, by omega, by go_num, Lib.hid (by rw [HT.out, csV_snoc]; exact O4.out), M4⟩
      case measure => simp [intOf]; omega
    · obtain rfl : i = L := by omega
      have t3 : decide ((i : Int) < i) = false := by simp
      obtain ⟨An, nc, hkv⟩ := own_val HO.out
      subst hkv
      have HFS : Hid (numsOf (kids.take i) = numsOf kids) := Lib.hid (by rw [List.take_of_length_le (by rw [HL.out]; exact Nat.le_refl _)])
      have HC : Hid (CsAt wr An (numsOf kids)) := Lib.hid (by
        rw [← HFS.out]
        exact own_cs HO.out (by rw [HFS.out, HLN.out]))
      have HLEN : Hid ((numsOf kids).length = i) := HLN
      obtain ⟨k0, k1, k2, k3, k4⟩ := HM.out.n.five
      obtain ⟨bf, of', rfl, hbf, _, _⟩ := cs_at (i := 1) HC.out hn1
      have z1 := cs_cell HC.out hn1
      have z2 := cs_cell HC.out hn2
      rw [HN1.out] at z1
      rw [HN2.out] at z2
      have KF : Hid (∀ W', W'.heap[bv]? = wr.heap[bv]? → W'.heap[bf]? = wr.heap[bf]? → GtE bv ov bf of' (.int .i64 (vn kids 0).num) (.int .i64 (vn kids 0).den) (.slice Ac0 (vn kids 0).cells.length cc0) (.int .i64 (vn kids 0).rest) (.int .i64 (vn kids 1).num) (.int .i64 (vn kids 2).num) W') := Lib.hid (fun W' h1 h2 => gte_of ⟨(HM.out.b.cell (p := ⟨bv, ov, none⟩) hbv).trans HYS.out.1, (HM.out.b.cell (p := ⟨bv, ov + 1, none⟩) hbv).trans HYS.out.2.1, (HM.out.b.cell (p := ⟨bv, ov + 2, none⟩) hbv).trans HYS.out.2.2.1, (HM.out.b.cell (p := ⟨bv, ov + 3, none⟩) hbv).trans HYS.out.2.2.2, z1, z2⟩ h1 h2)
      have nv : bf ≠ w.heap.size + 1 := fun z => (own_ne HO.out HM.out.v (by decide)) (by simp [Value.ownBlock, z])
      have nf : bf ≠ w.heap.size + 1 + 1 := fun z => (own_ne HO.out HM.out.f (by decide)) (by simp [Value.ownBlock, z])
      have bvr : bv < wr.heap.size := Nat.lt_of_lt_of_le hbv HM.out.b.size
      have l1 : 1 < i := by omega
      have l1z : (1 : Int) < i := by omega
      have l0 : 0 < i := by omega
      have l0z : (0 : Int) < i := by omega
      have l2 : 2 < i := by omega
      have l2z : (2 : Int) < i := by omega
      have T1 := Lib.hid (fun (W : World) (k : Below wr.heap.size wr W) => HPK.out W (bw_below (Nat.le_refl _) HM.out.b k))
      clear z1 z2
      generalize (vn kids 0).num = v0n at *
      generalize (vn kids 0).den = v0d at *
      generalize (vn kids 0).cells.length = v0l at *
      generalize (vn kids 0).rest = v0r at *
      generalize (vn kids 1).num = v1n at *
      generalize (vn kids 2).num = v2n at *
      go_upto_region 20 with fail
      clear k0 k1 k2 k3 k4
      go_region_held3 (fun W => GtE bv ov bf of' (.int .i64 v0n) (.int .i64 v0d) (.slice Ac0 v0l cc0) (.int .i64 v0r) (.int .i64 v1n) (.int .i64 v2n) W)
        ((refine KF.out _ ?_ ?_ <;> (first | (simp (disch := (first | omega | (simp only [sz_drew, sz_set, sz_alloc]; omega))) only [hp_set, L5.out.1, L5.out.2]; done) | (simp only [hp_drew]; done))))
        (first
          | (go_at_call 33; refine (T1.out _ (by go_grown)).mono ?_; rintro e w1 ⟨A9, c9, rfl, ho9, hb1⟩; have O9 := ho9; have G1 : Hid (Below wr.heap.size wr w1) := Lib.hid (below_after (show Below wr.heap.size wr _ by go_grown) hb1); have L5 : Hid (w1.heap[bv]? = wr.heap[bv]? ∧ w1.heap[bf]? = wr.heap[bf]?) := Lib.hid ⟨G1.out.block _ bvr, G1.out.block _ hbf⟩; obtain ⟨e0, e1, e2, e3, fe0, fe1, fe2, fe3⟩ := (HM.out.below G1.out).v.four; obtain ⟨g0, g1, fg0, fg1⟩ := (HM.out.below G1.out).f.two; clear hb1 ho9))
      all_goals
        have M9 := Lib.hid (HM.out.below G1.out)
        have P8 := ev_put M9.out q A9 c9 0
        have P9 := Lib.hid P8
        obtain ⟨z0, z1, z2, z3, -⟩ := P9.out.1.four
        obtain ⟨y0, y1, -⟩ := P9.out.2.1.two
        have FIN : Hid (EvQ q 0 w (.returned (.tuple #[.agg #[.int .i64 q.num, .int .i64 q.den, .slice A9 q.cells.length c9, .int .i64 q.rest], .agg #[.int .i64 0, .int .i64 0]])) _) := Lib.hid ⟨A9, c9, rfl, Lib.hid (P9.out.2.2.2 _ _ _ _ (own_base O9.out HM.out.b.size)), P9.out.2.2.1⟩
        clear P8 P9
        go_wp2_with fail
        exact bodyPost_ret (v := .tuple #[.agg #[.int .i64 q.num, .int .i64 q.den, .slice A9 q.cells.length c9, .int .i64 q.rest], .agg #[.int .i64 0, .int .i64 0]]) (by simp [results, Try.results18, go_sem, z0, z1, z2, z3, y0, y1]) rfl FIN.out
end Go.Proofs.Ytibpgcdaommjeaa
namespace Go.Proofs.Ytibpgcdaommjeaa
open Go.RowKit

theorem fv_of {n d : Int} (h : d = 1) (h1 : -1073741824 ≤ n) (h2 : n ≤ 1073741824) : fvalid n d = true := by subst h; exact fvalid_whole h1 h2
/-- A node's value, but a name's. -/
theorem eval_rest {fidd : Nat} (capss : Array Value) {op n d ds : Int} {ks : List Int} {kids : List Vl} (N : Nk op n d ds ks kids) (h9 : op ≠ 9) (m : Mg) (nm : ByteArray) (Ak Av : Option Addr) (kl kc vc : Nat) (hk : kids.length ≤ 1000) (w : World) (hv : VsAt w Av kids) :
    Calls Try.prog 18 #[.agg #[.int .i64 op, .slice Ak kl kc, .int .i64 n, .int .i64 d, .string nm], .int .i64 (srt op d ds ks), .slice Av kids.length vc, .func (.func fidd) #[] capss] w (EvQ (evV op (srt op d ds ks) n d m kids).1 (evV op (srt op d ds ks) n d m kids).2 w) := by
  have hs := N.sort
  have hkc := N.kc h9
  have hlen := N.len
  rcases op_cases6 N.lo N.hi with ho | rfl | rfl | ho | ho | rfl | rfl
  · obtain ⟨e1, e2, e3⟩ := srt_tru ho hs
    rw [evv_tru ho e1, e1]
    refine eval_truth capss op n d nm Ak Av kl kc vc kids hk w hv ho (fun z => ?_) (fun z => ?_) (fun z => ?_)
    · subst z
      have := hkc (by decide)
      simp [kcN] at this
      omega
    · rcases z with rfl | rfl | rfl | rfl | rfl <;> (have := hkc (by decide); simp [kcN] at this; omega)
    · rw [cn_nums, cn_nums]
      have h2 : 2 ≤ kids.length := by rcases z with rfl | rfl | rfl <;> (have := hkc (by decide); simp [kcN] at this; omega)
      rcases (show (op = 13 ∨ op = 14) ∨ op = 22 by omega) with z | z
      · exact ⟨N.nums (e2 z) 0 (by omega), N.nums (e2 z) 1 (by omega)⟩
      · obtain ⟨a, b⟩ := N.words (e3 z)
        have b0 := b 0 (by omega)
        have b1 := b 1 (by omega)
        have b2 := (mds_big a).2
        exact ⟨fv_of b0.1 (by omega) (by omega), fv_of b1.1 (by omega) (by omega)⟩
  · rw [evv_7]
    have := hkc (by decide)
    simp [kcN] at this
    exact eval_pick capss _ n d nm Ak Av kl kc vc kids hk w hv (by omega)
  · exact absurd rfl h9
  · obtain ⟨e1, e2⟩ := srt_num ho hs
    rw [evv_num ho]
    refine eval_number capss op _ n d nm Ak Av kl kc vc kids hk w hv ho (fun i hi => ?_) (fun z => ?_)
    · rw [cn_nums]
      exact N.nums e2 i hi
    · subst z
      have := hkc (by decide)
      simp [kcN] at this
      exact ⟨by omega, isfr_val (N.num (.inr rfl))⟩
  · by_cases h15 : op = 15
    · subst h15
      obtain ⟨w1, w2, w3, w4⟩ := N.word rfl
      have e : srt 15 d ds ks = 10 + d := rfl
      rw [evv_wrd ho (by rw [e]; omega), e]
      exact eval_word capss 15 (10 + d) n d nm Ak Av kl kc vc kids hk w hv ho (by omega) (fun z => absurd rfl z) (fun z => by omega) (fun z => by omega)
    · have ho2 : op = 16 ∨ op = 17 ∨ op = 18 ∨ op = 19 ∨ op = 20 ∨ op = 21 ∨ op = 23 := by omega
      obtain ⟨e1, e2⟩ := srt_wrd ho2 hs
      obtain ⟨w1, w2⟩ := N.words e2
      rw [evv_wrd ho (by rw [e1]; omega), e1]
      have k1 : 1 ≤ kids.length := by
        rcases ho2 with rfl | rfl | rfl | rfl | rfl | rfl | rfl <;> (have := hkc (by decide); simp [kcN] at this; omega)
      refine eval_word capss op (nth ks 0) n d nm Ak Av kl kc vc kids hk w hv ho w1 (fun _ => ?_) (fun z => ?_) (fun z => N.left z)
      · have := w2 0 k1
        rw [cn_nums]
        exact ⟨k1, (mds_big w1).1, (mds_big w1).2, this.2⟩
      · have k2 : 2 ≤ kids.length := by
          rcases z with rfl | rfl | rfl | rfl | rfl <;> (have := hkc (by decide); simp [kcN] at this; omega)
        have := w2 1 k2
        rw [cn_nums]
        exact ⟨k2, this.2⟩
  · obtain ⟨e1, e2, e3⟩ := srt_24 hs
    have := hkc (by decide)
    simp [kcN] at this
    have g0 := N.good 0 (by omega)
    rw [e2] at g0
    obtain ⟨_, _, _, g4⟩ := gdv5.1 g0
    rw [evv_24, e1]
    exact eval_get capss 4 n d nm Ak Av kl kc vc kids hk w hv (by omega) (Nat.le_trans (good_len g4) (by decide)) (good_srt g4)
  · obtain ⟨e1, e2, e3, e4⟩ := srt_25 hs
    have := hkc (by decide)
    simp [kcN] at this
    have g0 := N.good 0 (by omega)
    rw [e2] at g0
    obtain ⟨_, _, _, g4⟩ := gdv5.1 g0
    rw [evv_25, e1]
    exact eval_put capss 5 n d nm Ak Av kl kc vc kids hk w hv (by omega) (Nat.le_trans (good_len g4) (by decide)) (good_srt g4)
theorem gd_cells {s : Int} {v : Vl} (h : gdV s v = true) : v.cells.length ≤ 2000 := by
  by_cases z : s = 5
  · subst z
    obtain ⟨_, _, _, g4⟩ := gdv5.1 h
    exact Nat.le_trans (good_len g4) (by decide)
  · rw [((gdv_w z).1 h).1]
    exact Nat.zero_le _
theorem enters_clos : Enters 15 := fun _ _ => by kernel_rfl
/-- A node's value. -/
theorem eval_any {qs : List Dc} {ns : List Nd} {ms : List Mg} {i : Nat} {vs : List Vl} (hk : NdK qs ns ms i) (hi : i < ns.length) (hv : ∀ j, j < i → gdV (nth (srtL qs ns ns.length) j) (vn vs j) = true) (Ad An Ah Am : Option Addr) (dc nc hl hc mc : Nat) (w W : World) (hq : qs.length ≤ maxLen) (hm : ms.length ≤ maxLen) (hd : DsAt W Ad qs) (hms : MsAt W Am ms)
    (hV : VaM w (.slice Ad qs.length dc) (.slice An ns.length nc) (.slice Ah hl hc) (.slice Am ms.length mc) W) (Av Ak : Option Addr) (vc kc : Nat) (hkv : VsAt W Av (kidsV ns i vs)) :
    Calls Try.prog 18 #[.agg #[.int .i64 (nn ns i).op, .slice Ak (nn ns i).kids.length kc, .int .i64 (nn ns i).n, .int .i64 (nn ns i).d, .string (nn ns i).name], .int .i64 (nth (srtL qs ns ns.length) i), .slice Av (nn ns i).kids.length vc, .func (.func 15) #[] #[.pointer (some ⟨w.heap.size + 1, 0, none⟩), .pointer (some ⟨w.heap.size, 0, none⟩)]] W (EvQ (evOf qs ns ms i vs).1 (evOf qs ns ms i vs).2 W) := by
  have N := nd_nk hk hi hv
  have h8 := (ndc_zero hk.c).2.2.1
  have hl2 := kids_len ns i vs
  unfold evOf
  rw [hk.s]
  unfold ndT
  by_cases h9 : (nn ns i).op = 9
  · obtain ⟨k, k1, k2, k3, k4, k5, k6⟩ := hk.m h9
    obtain ⟨m1, m2, m3, m4, m5⟩ := mgc_zero k6
    obtain ⟨Ar, cr, Ac, cc, x1, x2, x3, x4⟩ := clos_any qs ms (nn ns i).name Ad Am An Ah dc mc ns.length nc hl hc (w.heap.size + 1) w.heap.size k hq hm k1 k4 W hd hms hV.m hV.a
    rw [k2, h9, evv_9]
    have := eval_name enters_clos #[.pointer (some ⟨w.heap.size + 1, 0, none⟩), .pointer (some ⟨w.heap.size, 0, none⟩)] (srt 9 (nn ns i).d (kDs qs (nn ns i)) (kSo (srtL qs ns i) (nn ns i).kids)) (nn ns i).n (nn ns i).d (nn ns i).name Ak Av (nn ns i).kids.length kc vc (kidsV ns i vs) (by omega) W hkv (mn ms k) Ar Ac cr cc (by unfold maxLen; omega) (gd_cells m4) (fun j hj => gd_cells (m5 _ (by rw [show en (mn ms k).rows j = (mn ms k).rows[j] by simp [en, List.getD, hj]]; exact List.getElem_mem hj))) x1 x2 x4
    rw [hl2] at this
    exact this
  · have := eval_rest (fidd := 15) #[.pointer (some ⟨w.heap.size + 1, 0, none⟩), .pointer (some ⟨w.heap.size, 0, none⟩)] N h9 (mn ms (fdI qs (nn ns i).name)) (nn ns i).name Ak Av (nn ns i).kids.length kc vc (by omega) W hkv
    rw [hl2] at this
    exact this
/-- The values of all nodes, or the first fault. -/
def mvR (qs : List Dc) (ns : List Nd) (hs : List Int) (ms : List Mg) : Except (Int × Int) (List Vl) := if meC qs ns hs ms = 0 then valsE (evOf qs ns ms) ns.length else .error (meC qs ns hs ms, meA qs ns hs ms)
theorem value_any (qs : List Dc) (ns : List Nd) (hs : List Int) (ms : List Mg) (Ad An Ah Am : Option Addr) (dc nc hc mc : Nat) (w : World) (h : AwAt w qs ns hs ms Ad An Ah Am dc nc hc mc) :
    Calls Try.prog 9 #[.agg #[.slice Ad qs.length dc, .slice An ns.length nc, .slice Ah hs.length hc], .agg #[.slice Am ms.length mc]] w (ValsQ (mvR qs ns hs ms) w) := by
  unfold mvR
  by_cases h0 : meC qs ns hs ms = 0
  · rw [if_pos h0]
    obtain ⟨h1, h2, h3, _⟩ := mec_zero h0
    obtain ⟨h4, h5⟩ := nd_known h0
    have hL : akL qs ns hs = srtL qs ns ns.length := by unfold akL; rw [if_pos h1]
    refine value_ok qs ns hs ms (srtL qs ns ns.length) Ad An Ah Am dc nc hc mc w h h0 h2 h1 (ak_a0 h1).1 hL (srtL_len _ _ _) (by omega) (fun i hi => ?_) (fun i hi j hj => ?_) (evOf qs ns ms) (fun i vs W Av Ak vc kc hi hv hV hkv => ?_)
    · have := (ndc_zero (h5 i hi).c).2.2.1
      omega
    · have := (ndc_zero (h5 i hi).c).2.2.2.2.1 _ (List.getElem_mem hj)
      rw [← nth_of hj] at this
      omega
    · exact eval_any (h5 i hi) hi (vals_good h5 (by omega) hv) Ad An Ah Am dc nc hs.length hc mc w W (Nat.le_trans h.d1 h.d2) (Nat.le_trans h.m1 h.m2) (h.fd.below hV.b) (h.fm.below hV.b) hV Av Ak vc kc hkv
  · rw [if_neg h0]
    exact value_bad qs ns hs ms Ad An Ah Am dc nc hc mc w h h0
end Go.Proofs.Ytibpgcdaommjeaa
namespace Go.Proofs.Ytibpgcdaommjeaa
open Go.RowKit

/-- The declared names. -/
def dqs : List Dc :=
  [⟨⟨#[112]⟩, [], 1⟩, ⟨⟨#[113]⟩, [], 1⟩, ⟨⟨#[120]⟩, [], 2⟩, ⟨⟨#[121]⟩, [], 2⟩, ⟨⟨#[114]⟩, [], 3⟩, ⟨⟨#[97]⟩, [], 4⟩, ⟨⟨#[98]⟩, [], 4⟩, ⟨⟨#[99]⟩, [], 4⟩, ⟨⟨#[102]⟩, [4], 4⟩, ⟨⟨#[103]⟩, [4, 4], 1⟩, ⟨⟨#[104]⟩, [4], 2⟩, ⟨⟨#[109]⟩, [], 5⟩, ⟨⟨#[118]⟩, [], 13⟩, ⟨⟨#[119]⟩, [], 13⟩]
theorem dqs_ok : fsC (dcC dqs) dqs.length 30 = 0 ∧ fsA (dcC dqs) dqs.length 30 = 0 := fs_ok (by decide) (by
  have h : (List.range 14).all (fun j => dcC dqs j == 0) = true := by decide +kernel
  intro j hj
  rw [List.all_eq_true] at h
  simpa using h j (List.mem_range.2 hj))
/-- Nodes that may be, and their sorts. -/
def Ok (ns : List Nd) (ss : List Int) : Prop := srtL dqs ns ns.length = ss ∧ ∀ i, i < ns.length → nC dqs ns i = 0
theorem ok_len {ns : List Nd} {ss : List Int} (h : Ok ns ss) : ss.length = ns.length := by rw [← h.1, srtL_len]
theorem srtL_cong {qs : List Dc} {ns ms : List Nd} (i : Nat) (h : ∀ j, j < i → nn ns j = nn ms j) : srtL qs ns i = srtL qs ms i := by
  induction i with
  | zero => rfl
  | succ i ih => rw [srtL, srtL, ih (fun j hj => h j (by omega)), h i (by omega)]
theorem nn_app {ns ms : List Nd} {j : Nat} (h : j < ns.length) : nn (ns ++ ms) j = nn ns j := by simp [nn, List.getD_eq_getElem?_getD, List.getElem?_append_left h]
theorem nn_take {ns : List Nd} {j n : Nat} (h : j < n) : nn (ns.take n) j = nn ns j := by simp [nn, List.getD_eq_getElem?_getD, List.getElem?_take_of_lt h]
theorem nC_cong {qs : List Dc} {ns ms : List Nd} (i : Nat) (h : ∀ j, j < i + 1 → nn ns j = nn ms j) : nC qs ns i = nC qs ms i := by
  unfold nC
  rw [h i (by omega), srtL_cong i (fun j hj => h j (by omega))]
theorem ok_nil : Ok [] [] := ⟨rfl, fun _ hi => absurd hi (Nat.not_lt_zero _)⟩
theorem ok_put {ns : List Nd} {ss : List Int} {q : Nd} {s : Int} (h : Ok ns ss) (hc : ndC dqs q ss.length ss = 0) (hs : ndT dqs q ss = s) : Ok (ns ++ [q]) (ss ++ [s]) := by
  have hl := ok_len h
  have e : srtL dqs (ns ++ [q]) ns.length = ss := by rw [← h.1]; exact srtL_cong _ (fun j hj => nn_app hj)
  have eq : nn (ns ++ [q]) ns.length = q := by simp [nn, List.getD_eq_getElem?_getD]
  refine ⟨?_, fun i hi => ?_⟩
  · rw [List.length_append, List.length_singleton, srtL, e, eq]
    unfold ndS
    rw [← hl, if_pos hc, hs]
  · rw [List.length_append, List.length_singleton] at hi
    by_cases z : i = ns.length
    · subst z
      unfold nC
      rw [e, eq, ← hl]
      exact hc
    · rw [nC_cong i (ms := ns) (fun j hj => nn_app (by omega))]
      exact h.2 i (by omega)
theorem ok_take {ns : List Nd} {ss : List Int} (h : Ok ns ss) {n : Nat} (hn : n ≤ ns.length) : Ok (ns.take n) (ss.take n) := by
  have hl : (ns.take n).length = n := by simp; omega
  refine ⟨?_, fun i hi => ?_⟩
  · rw [hl, srtL_cong n (ms := ns) (fun j hj => nn_take hj), ← h.1]
    have : ∀ m, n ≤ m → (srtL dqs ns m).take n = srtL dqs ns n := by
      intro m hm
      induction m with
      | zero => obtain rfl : n = 0 := by omega
                rfl
      | succ m ih =>
        by_cases z : n = m + 1
        · subst z
          exact List.take_of_length_le (by rw [srtL_len]; exact Nat.le_refl _)
        · rw [srtL, List.take_append_of_le_length (by rw [srtL_len]; omega), ih (by omega)]
    exact (this _ hn).symm
  · rw [hl] at hi
    rw [nC_cong i (ms := ns) (fun j hj => nn_take (by omega))]
    exact h.2 i (by omega)
theorem ask_fine {ns : List Nd} {ss hs : List Int} (h : Ok ns ss) (h1 : ns.length ≤ 200) (h2 : hs.length ≤ 200) (h3 : ∀ i, i < hs.length → 0 ≤ nth hs i ∧ nth hs i < ss.length ∧ nth ss (nth hs i).toNat = 1) : akC dqs ns hs = 0 ∧ akA dqs ns hs = 0 ∧ akL dqs ns hs = ss := by
  have := ak4 (hs := hs) dqs_ok.1 (fs_ok (code := nC dqs ns) (lim := 200) h1 h.2).1 (fs_ok h2 (fun i hi => by
    unfold hC hdC
    rw [h.1]
    obtain ⟨a, b, c⟩ := h3 i hi
    rw [if_neg (by omega), if_neg (by rw [c]; simp)]))
  rw [h.1] at this
  exact this
theorem nd_ok {q : Nd} {ss : List Int} {s : Int} (h1 : 1 ≤ q.op ∧ q.op ≤ 25) (h2 : q.op = 9 → 0 ≤ fdZ dqs q.name) (h3 : q.kids.length ≤ 8) (h4 : kWant dqs q = -1 ∨ (q.kids.length : Int) = kWant dqs q) (h5 : ∀ k ∈ q.kids, 0 ≤ k ∧ k < ss.length) (h6 : flC q.op q.n q.d q.name.toList.isEmpty = 0) (h7 : ndT dqs q ss = s) (h8 : s ≠ 0) :
    ndC dqs q ss.length ss = 0 ∧ ndT dqs q ss = s := by
  refine ⟨?_, h7⟩
  unfold ndC
  have hk : kIn ss.length q.kids = true := by
    unfold kIn
    rw [List.all_eq_true]
    intro k hk
    have := h5 k hk
    simp
    omega
  rw [if_neg (by omega), if_neg (fun z => by have := h2 z.1; omega), if_neg (by
    rintro (z | z)
    · omega
    · rcases h4 with y | y
      · exact z.1 y
      · exact z.2 y), if_neg (by rw [hk]; decide), if_neg (by rw [h6]; decide), if_neg (by rw [h7]; exact h8)]
/-- A node without kids that names something. -/
theorem nd_name {nm : ByteArray} {ss : List Int} {s : Int} (h : fdZ dqs nm = fdI dqs nm ∧ (dn dqs (fdI dqs nm)).args = [] ∧ (dn dqs (fdI dqs nm)).sort = s ∧ nm.toList.isEmpty = false) (hs : s ≠ 0) : ndC dqs ⟨9, [], 0, 0, nm⟩ ss.length ss = 0 ∧ ndT dqs ⟨9, [], 0, 0, nm⟩ ss = s := by
  obtain ⟨a, b, c, d⟩ := h
  refine nd_ok (by simp) (fun _ => by rw [a]; omega) (by simp) (.inr (by simp [kWant, b])) (by simp) (by simp [flC, d]) ?_ hs
  simp [ndT, kSo, srt, kDs, c, whn]
theorem nm_p : fdZ dqs ⟨#[112]⟩ = fdI dqs ⟨#[112]⟩ ∧ (dn dqs (fdI dqs ⟨#[112]⟩)).args = [] ∧ (dn dqs (fdI dqs ⟨#[112]⟩)).sort = 1 ∧ (⟨#[112]⟩ : ByteArray).toList.isEmpty = false := by decide +kernel
theorem nm_q : fdZ dqs ⟨#[113]⟩ = fdI dqs ⟨#[113]⟩ ∧ (dn dqs (fdI dqs ⟨#[113]⟩)).args = [] ∧ (dn dqs (fdI dqs ⟨#[113]⟩)).sort = 1 ∧ (⟨#[113]⟩ : ByteArray).toList.isEmpty = false := by decide +kernel
theorem nm_x : fdZ dqs ⟨#[120]⟩ = fdI dqs ⟨#[120]⟩ ∧ (dn dqs (fdI dqs ⟨#[120]⟩)).args = [] ∧ (dn dqs (fdI dqs ⟨#[120]⟩)).sort = 2 ∧ (⟨#[120]⟩ : ByteArray).toList.isEmpty = false := by decide +kernel
theorem nm_y : fdZ dqs ⟨#[121]⟩ = fdI dqs ⟨#[121]⟩ ∧ (dn dqs (fdI dqs ⟨#[121]⟩)).args = [] ∧ (dn dqs (fdI dqs ⟨#[121]⟩)).sort = 2 ∧ (⟨#[121]⟩ : ByteArray).toList.isEmpty = false := by decide +kernel
theorem nm_r : fdZ dqs ⟨#[114]⟩ = fdI dqs ⟨#[114]⟩ ∧ (dn dqs (fdI dqs ⟨#[114]⟩)).args = [] ∧ (dn dqs (fdI dqs ⟨#[114]⟩)).sort = 3 ∧ (⟨#[114]⟩ : ByteArray).toList.isEmpty = false := by decide +kernel
theorem nm_a : fdZ dqs ⟨#[97]⟩ = fdI dqs ⟨#[97]⟩ ∧ (dn dqs (fdI dqs ⟨#[97]⟩)).args = [] ∧ (dn dqs (fdI dqs ⟨#[97]⟩)).sort = 4 ∧ (⟨#[97]⟩ : ByteArray).toList.isEmpty = false := by decide +kernel
theorem nm_b : fdZ dqs ⟨#[98]⟩ = fdI dqs ⟨#[98]⟩ ∧ (dn dqs (fdI dqs ⟨#[98]⟩)).args = [] ∧ (dn dqs (fdI dqs ⟨#[98]⟩)).sort = 4 ∧ (⟨#[98]⟩ : ByteArray).toList.isEmpty = false := by decide +kernel
theorem nm_c : fdZ dqs ⟨#[99]⟩ = fdI dqs ⟨#[99]⟩ ∧ (dn dqs (fdI dqs ⟨#[99]⟩)).args = [] ∧ (dn dqs (fdI dqs ⟨#[99]⟩)).sort = 4 ∧ (⟨#[99]⟩ : ByteArray).toList.isEmpty = false := by decide +kernel
theorem nm_m : fdZ dqs ⟨#[109]⟩ = fdI dqs ⟨#[109]⟩ ∧ (dn dqs (fdI dqs ⟨#[109]⟩)).args = [] ∧ (dn dqs (fdI dqs ⟨#[109]⟩)).sort = 5 ∧ (⟨#[109]⟩ : ByteArray).toList.isEmpty = false := by decide +kernel
theorem nm_v : fdZ dqs ⟨#[118]⟩ = fdI dqs ⟨#[118]⟩ ∧ (dn dqs (fdI dqs ⟨#[118]⟩)).args = [] ∧ (dn dqs (fdI dqs ⟨#[118]⟩)).sort = 13 ∧ (⟨#[118]⟩ : ByteArray).toList.isEmpty = false := by decide +kernel
theorem nm_w : fdZ dqs ⟨#[119]⟩ = fdI dqs ⟨#[119]⟩ ∧ (dn dqs (fdI dqs ⟨#[119]⟩)).args = [] ∧ (dn dqs (fdI dqs ⟨#[119]⟩)).sort = 13 ∧ (⟨#[119]⟩ : ByteArray).toList.isEmpty = false := by decide +kernel
theorem nd_tf {ss : List Int} (k : Int) (h : 0 ≤ k ∧ k < 2) : ndC dqs ⟨1 + k, [], 0, 0, ⟨#[]⟩⟩ ss.length ss = 0 ∧ ndT dqs ⟨1 + k, [], 0, 0, ⟨#[]⟩⟩ ss = 1 := by
  have h2 : k = 0 ∨ k = 1 := by omega
  rcases h2 with rfl | rfl
  all_goals exact nd_ok (by simp) (fun z => absurd z (by simp)) (by simp) (.inr (by simp [kWant, kcN])) (by simp) (by decide +kernel) (by simp [ndT, kSo, srt, whn]) (by decide)
theorem nd_int {ss : List Int} (k : Int) (h : 0 ≤ k ∧ k < 7) : ndC dqs ⟨10, [], k - 3, 1, ⟨#[]⟩⟩ ss.length ss = 0 ∧ ndT dqs ⟨10, [], k - 3, 1, ⟨#[]⟩⟩ ss = 2 := by
  have h2 : k = 0 ∨ k = 1 ∨ k = 2 ∨ k = 3 ∨ k = 4 ∨ k = 5 ∨ k = 6 := by omega
  rcases h2 with rfl | rfl | rfl | rfl | rfl | rfl | rfl
  all_goals exact nd_ok (by simp) (fun z => absurd z (by simp)) (by simp) (.inr (by simp [kWant, kcN])) (by simp) (by decide +kernel) (by simp [ndT, kSo, srt, whn, numS]) (by decide)
theorem nd_real {ss : List Int} (k : Int) (h : 0 ≤ k ∧ k < 4) : ndC dqs ⟨10, [], 2 * k - 3, 2, ⟨#[]⟩⟩ ss.length ss = 0 ∧ ndT dqs ⟨10, [], 2 * k - 3, 2, ⟨#[]⟩⟩ ss = 3 := by
  have h2 : k = 0 ∨ k = 1 ∨ k = 2 ∨ k = 3 := by omega
  rcases h2 with rfl | rfl | rfl | rfl
  all_goals exact nd_ok (by simp) (fun z => absurd z (by simp)) (by simp) (.inr (by simp [kWant, kcN])) (by simp) (by decide +kernel) (by simp [ndT, kSo, srt, whn, numS]) (by decide)
theorem nd_word {ss : List Int} (k : Int) (h : 0 ≤ k ∧ k < 8) : ndC dqs ⟨15, [], k, 3, ⟨#[]⟩⟩ ss.length ss = 0 ∧ ndT dqs ⟨15, [], k, 3, ⟨#[]⟩⟩ ss = 13 := by
  refine nd_ok (by simp) (fun z => absurd z (by simp)) (by simp) (.inr (by simp [kWant, kcN])) (by simp) ?_ (by simp [ndT, srt]) (by decide)
  have h2 : k = 0 ∨ k = 1 ∨ k = 2 ∨ k = 3 ∨ k = 4 ∨ k = 5 ∨ k = 6 ∨ k = 7 := by omega
  rcases h2 with rfl | rfl | rfl | rfl | rfl | rfl | rfl | rfl
  all_goals decide +kernel
end Go.Proofs.Ytibpgcdaommjeaa
