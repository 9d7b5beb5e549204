/-
  The reference's put to an array.
-/
import Derived.Test.YtaodebpogibimaaGreatG11
import Derived.Test.YtaodebpogibimaaGreatG07
namespace Go.Proofs.YtaodebpogibimaaGreat
open Go.RowKit

/-- What stands while an array is put to. -/
structure PcM (w0 : World) (v : Vl) (A : Option Addr) (c L : Nat) (kv : Value) (W : World) : Prop where
  p : HB W w0.heap.size 47 #[.int .i64 v.num, .int .i64 v.den, .slice A L c, .int .i64 v.rest]
  r : HB W (w0.heap.size + 1) 47 #[.int .i64 0, .int .i64 0, .slice none 0 0, .int .i64 0]
  o : HB W (w0.heap.size + 1 + 1) 47 #[.int .i64 0, .int .i64 0, kv, .int .i64 v.rest]
  b : Below w0.heap.size w0 W
theorem PcM.below {w0 w w' : World} {v : Vl} {A : Option Addr} {c L : Nat} {kv : Value} (h : PcM w0 v A c L kv w) (k : Below w.heap.size w w') : PcM w0 v A c L kv w' := ⟨h.p.below k, h.r.below k, h.o.below k, below_after h.b k⟩
theorem pc_new (w : World) (v : Vl) (A : Option Addr) (c L : Nat) : PcM w v A c L (.slice none 0 0) (((w.alloc (.cells #[.int .i64 v.num, .int .i64 v.den, .slice A L c, .int .i64 v.rest] 47)).alloc (.cells #[.int .i64 0, .int .i64 0, .slice none 0 0, .int .i64 0] 47)).alloc (.cells #[.int .i64 0, .int .i64 0, .slice none 0 0, .int .i64 v.rest] 47)) :=
  ⟨((HB.new _ _ _).alloc _).alloc _, (HB.new1 _ _ _ _).alloc _, HB.new2 _ _ _ _ _, by go_grown⟩
theorem PcM.keep {w0 w w' : World} {v : Vl} {A : Option Addr} {c L n : Nat} {kv : Value} {xs : List Value} (h : PcM w0 v A c L kv w) (ho : w.ownsRow w0.heap.size 96 2 kv n xs) (k1 : ∀ g t cs, some g ≠ kv.ownBlock → HB w g t cs → HB w' g t cs) (k2 : ∀ W, Below w0.heap.size W w → Below w0.heap.size W w') : PcM w0 v A c L kv w' :=
  ⟨k1 _ _ _ (own_ne ho h.p (by decide)) h.p, k1 _ _ _ (own_ne ho h.r (by decide)) h.r, k1 _ _ _ (own_ne ho h.o (by decide)) h.o, k2 _ h.b⟩
theorem pc_set {w0 W : World} {v : Vl} {A : Option Addr} {c L : Nat} {kv : Value} (h : PcM w0 v A c L kv W) (k2 : Value) : PcM w0 v A c L k2 (W.setCell ⟨w0.heap.size + 1 + 1, 2, none⟩ k2) ∧ ∀ B z n xs, W.ownsRow B 96 2 z n xs → World.ownsRow (W.setCell ⟨w0.heap.size + 1 + 1, 2, none⟩ k2) B 96 2 z n xs := by
  have F := far_set W (w0.heap.size + 1 + 1) 2 k2
  refine ⟨⟨hb_far h.p (by omega) F, hb_far h.r (by omega) F, ?_, bw_far h.b (by omega) F⟩, fun B z n xs ho => own_far ho (own_ne ho h.o (by decide)) F⟩
  have := h.o.set_ 2 k2
  simpa using this
theorem pc_res {w0 W : World} {v : Vl} {A : Option Addr} {c L : Nat} {kv : Value} (h : PcM w0 v A c L kv W) (x0 x1 x2 x3 : Value) :
    HB ((((W.setCell ⟨w0.heap.size + 1, 0, none⟩ x0).setCell ⟨w0.heap.size + 1, 1, none⟩ x1).setCell ⟨w0.heap.size + 1, 2, none⟩ x2).setCell ⟨w0.heap.size + 1, 3, none⟩ x3) (w0.heap.size + 1) 47 #[x0, x1, x2, x3] ∧
    Below w0.heap.size w0 ((((W.setCell ⟨w0.heap.size + 1, 0, none⟩ x0).setCell ⟨w0.heap.size + 1, 1, none⟩ x1).setCell ⟨w0.heap.size + 1, 2, none⟩ x2).setCell ⟨w0.heap.size + 1, 3, none⟩ x3) ∧
    (∀ B z n xs, W.ownsRow B 96 2 z n xs → World.ownsRow ((((W.setCell ⟨w0.heap.size + 1, 0, none⟩ x0).setCell ⟨w0.heap.size + 1, 1, none⟩ x1).setCell ⟨w0.heap.size + 1, 2, none⟩ x2).setCell ⟨w0.heap.size + 1, 3, none⟩ x3) B 96 2 z n xs) := by
  have F := far4 W (w0.heap.size + 1) x0 x1 x2 x3
  exact ⟨hb_set4 h.r, bw_far h.b (by omega) F, fun B z n xs ho => own_far ho (own_ne ho h.r (by decide)) F⟩
theorem own_new {w : World} {base n sz : Nat} {e : TypeId} {v : Value} {xs : List Value} (h : w.ownsRow base e sz v n xs) : some w.heap.size ≠ v.ownBlock := by
  rcases h.2 with ⟨rfl, _⟩ | ⟨g', cap, cur, rfl, _, hh, _⟩
  · simp [Value.ownBlock]
  · have := HB.lt hh
    simp [Value.ownBlock]; omega
set_option maxRecDepth 100000 in
set_option maxHeartbeats 8000000 in
theorem putcell_any (v : Vl) (A : Option Addr) (c : Nat) (t u : Int) (hl : v.cells.length ≤ 2000) (hs : v.cells.Pairwise (fun a b => a.1 < b.1)) (w : World) (h : CsAt w A v.cells) :
    Calls Tryz.prog 54 #[.agg #[.int .i64 v.num, .int .i64 v.den, .slice A v.cells.length c, .int .i64 v.rest], .int .i64 t, .int .i64 u] w (ValQ (putF v t u) w) := by
  have HM := Lib.hid (pc_new w v A c v.cells.length)
  have HA := Lib.hid h
  have HP := Lib.hid (pc_put (v := v) (t := t) (u := u) hs)
  have HPR : Hid ((putF v t u).num = 0 ∧ (putF v t u).den = 0 ∧ (putF v t u).rest = v.rest) := Lib.hid ⟨rfl, rfl, rfl⟩
  have HST := Lib.hid (fun i => pcL_step (t := t) (u := u) (b := u == v.rest) (cs := v.cells) (i := i))
  have HLN := Lib.hid (fun i => pcL_len (t := t) (u := u) (b := u == v.rest) (cs := v.cells) (i := i))
  have HZ : Hid (pcL t u (u == v.rest) v.cells 0 = (u == v.rest, [])) := Lib.hid (by simp [pcL])
  clear hs h
  generalize putF v t u = q at *
  generalize pcL t u (u == v.rest) v.cells = PL at *
  generalize hL : v.cells.length = L at *
  have HL := Lib.hid hL
  clear hL
  go_enter Tryz.func54, Tryz.ntmps54
  go_wp2_with fail
  generalize hf0 : (u == v.rest) = f0 at *
  clear hf0
  go_loopw [8, 9] (fun nb k wr => ∃ (i : Nat) (b : Bool) (cs : List (Int × Int)) (n : Nat) (kv : Value), i ≤ L ∧ k = .int .i64 i ∧ nb = .bool b ∧ n ≤ 4000 ∧ Hid (PL i = (b, cs)) ∧ Hid (cs.length = n) ∧ Hid (PcM w v A c L kv wr) ∧ Hid (wr.ownsRow w.heap.size 96 2 kv n (csV cs))) (fun _ k _ => L - (intOf k).toNat)
  case atStart => exact ⟨0, _, [], 0, _, by omega, rfl, rfl, by omega, HZ, Lib.hid rfl, HM, Lib.hid (own_nil _ _ _ _)⟩
  case round =>
    clear HM HZ
    obtain ⟨i, b, cs, n, kv, hi, rfl, rfl, hn, HPL, HCL, HM, HO⟩ := hrel
    by_cases hlt : i < L
    · have t3 : decide ((i : Int) < L) = true := by simpa using hlt
      have l0 : (i : Int) < L := by omega
      obtain ⟨bb, o, rfl, lb, c0, c1⟩ := cs_at (i := i) (HA.out.below HM.out.b) (by rw [HL.out]; exact hlt)
      have HS : Hid (PL (i + 1) = pcS t u (b, cs) (cn v.cells i)) := Lib.hid (by rw [← HPL.out]; exact HST.out i hlt)
      have HLB : Hid (∀ b2 c2, PL (i + 1) = (b2, c2) → c2.length ≤ 4000) := Lib.hid (fun b2 c2 e => by
        have := HLN.out (i + 1)
        rw [e] at this
        exact Nat.le_trans this (by omega))
      generalize cn v.cells i = ci at *
      obtain ⟨q0, q1⟩ := ci
      dsimp only at c0 c1
      have BN := Lib.hid (new_below wr (.cells #[.int .i64 q0, .int .i64 q1] 96))
      have O1 := Lib.hid (own_below HO.out BN.out)
      have M1 := Lib.hid (HM.out.below BN.out)
      have N1 := Lib.hid (HB.new wr 96 #[.int .i64 q0, .int .i64 q1])
      have NE := Lib.hid (own_new HO.out)
      obtain ⟨v0, v1, v2, v3, -⟩ := HM.out.p.four
      obtain ⟨o0, o1, o2, o3, y0, y1, y2, y3⟩ := M1.out.o.four
      cases b with
      | true =>
        have hg : True := trivial
        by_cases he : q0 = t
        · obtain rfl : t = q0 := he.symm
          have te : (t != t) = false := by simp
          have HSE : Hid (PL (i + 1) = (true, cs)) := Lib.hid (HS.out.trans (by simp [pcS]))
          clear hg
          go_wp2_with fail
          go_round
          case rel => exact ⟨i + 1, true, cs, n, kv, by omega, by go_num, rfl, hn, HSE, HCL, M1, O1⟩
          case measure => simp [intOf]; omega
        ·
          have te : (q0 != t) = true := by simpa using he
          have HSE : Hid (PL (i + 1) = (true, cs ++ [(q0, q1)])) := Lib.hid (HS.out.trans (by simp [pcS, he]))
          have n4 := HLB.out _ _ HSE.out
          rw [List.length_append, HCL.out, List.length_singleton] at n4
          have HCL2 : Hid ((cs ++ [(q0, q1)]).length = n + 1) := Lib.hid (by rw [List.length_append, HCL.out]; rfl)
          have B2 := Lib.hid (new_below (wr.alloc (.cells #[.int .i64 q0, .int .i64 q1] 96)) (.cells #[.int .i64 q0, .int .i64 q1] 96))
          have O2 := Lib.hid (own_below O1.out B2.out)
          have M2 := Lib.hid (M1.out.below B2.out)
          clear he hg
          go_wp2_with (at_builtin; refine wpl_app2 45 96 Tryz.underlying45 (.agg #[.int .i64 0, .int .i64 0]) 2 16 infoCell rfl (by decide) rfl _ _ rfl w.heap.size kv (n) (csV (cs)) rfl O2.out (wr.heap.size + 1) #[.int .i64 q0, .int .i64 q1] rfl (HB.new1 _ _ _ _) rfl (by simp [Value.oneCell']) (by omega) (by unfold maxLen; omega) M2.out.b.size ?_)
          intro g4 cap4 w4 hown4 hkp4 hbw4 _
          have M4 := Lib.hid (M2.out.keep O2.out hkp4 hbw4)
          have P4 := pc_set M4.out (.slice (some ⟨g4, 0, none⟩) (n + 1) cap4)
          have M5 := Lib.hid P4.1
          have O5 : Hid (World.ownsRow (w4.setCell ⟨w.heap.size + 1 + 1, 2, none⟩ (.slice (some ⟨g4, 0, none⟩) (n + 1) cap4)) w.heap.size 96 2 (.slice (some ⟨g4, 0, none⟩) (n + 1) cap4) (n + 1) (csV ((cs) ++ [(q0, q1)]))) := Lib.hid (P4.2 _ _ _ _ (by rw [csV_snoc]; exact hown4.out))
          clear o0 o1 o2 o3 y0 y1 y2 y3
          obtain ⟨o0, o1, o2, o3, y0, y1, y2, y3⟩ := M4.out.o.four
          clear hown4 hkp4 hbw4 P4
          go_wp2_with fail
          go_round
          case rel => exact ⟨i + 1, true, _, n + 1, _, by omega, by go_num, rfl, n4, HSE, HCL2, M5, O5⟩
          case measure => simp [intOf]; omega
      | false =>
        by_cases hg : t < q0
        ·
          have te : (q0 != t) = true := by simp; omega
          have he : ¬ q0 = t := by omega
          have tg : decide (t < q0) = true := by simpa using hg
          have HSE : Hid (PL (i + 1) = (true, cs ++ [(t, u)] ++ [(q0, q1)])) := Lib.hid (HS.out.trans (by simp [pcS, he, hg]))
          have n4 := HLB.out _ _ HSE.out
          rw [List.length_append, List.length_append, HCL.out, List.length_singleton, List.length_singleton] at n4
          have HCL2 : Hid ((cs ++ [(t, u)] ++ [(q0, q1)]).length = n + 1 + 1) := Lib.hid (by rw [List.length_append, List.length_append, HCL.out]; rfl)
          have B2 := Lib.hid (new_below (wr.alloc (.cells #[.int .i64 q0, .int .i64 q1] 96)) (.cells #[.int .i64 t, .int .i64 u] 96))
          have O2 := Lib.hid (own_below O1.out B2.out)
          have M2 := Lib.hid (M1.out.below B2.out)
          have NW := HM.out.o.lt
          clear he hg
          go_wp2_with (at_builtin; refine wpl_app2 45 96 Tryz.underlying45 (.agg #[.int .i64 0, .int .i64 0]) 2 16 infoCell rfl (by decide) rfl _ _ rfl w.heap.size kv (n) (csV (cs)) rfl O2.out (wr.heap.size + 1) #[.int .i64 t, .int .i64 u] rfl (HB.new1 _ _ _ _) rfl (by simp [Value.oneCell']) (by omega) (by unfold maxLen; omega) M2.out.b.size ?_)
          intro g4 cap4 w4 hown4 hkp4 hbw4 _
          have M4 := Lib.hid (M2.out.keep O2.out hkp4 hbw4)
          have P4 := pc_set M4.out (.slice (some ⟨g4, 0, none⟩) (n + 1) cap4)
          have M5 := Lib.hid P4.1
          have O5 : Hid (World.ownsRow (w4.setCell ⟨w.heap.size + 1 + 1, 2, none⟩ (.slice (some ⟨g4, 0, none⟩) (n + 1) cap4)) w.heap.size 96 2 (.slice (some ⟨g4, 0, none⟩) (n + 1) cap4) (n + 1) (csV ((cs) ++ [(t, u)]))) := Lib.hid (P4.2 _ _ _ _ (by rw [csV_snoc]; exact hown4.out))
          have N5 : Hid (HB (w4.setCell ⟨w.heap.size + 1 + 1, 2, none⟩ (.slice (some ⟨g4, 0, none⟩) (n + 1) cap4)) wr.heap.size 96 #[.int .i64 q0, .int .i64 q1]) := Lib.hid (hb_far (hkp4 _ _ _ NE.out (N1.out.below B2.out)) (by omega) (far_set _ _ _ _))
          clear o0 o1 o2 o3 y0 y1 y2 y3
          obtain ⟨o0, o1, o2, o3, y0, y1, y2, y3⟩ := M4.out.o.four
          clear hown4 hkp4 hbw4 P4 M2 O2 B2
          go_upto_region 10 with fail
          generalize (w4.setCell ⟨w.heap.size + 1 + 1, 2, none⟩ (.slice (some ⟨g4, 0, none⟩) (n + 1) cap4)) = w5 at *
          clear o0 o1 o2 o3 y0 y1 y2 y3 M4
          obtain ⟨o0, o1, o2, o3, y0, y1, y2, y3⟩ := M5.out.o.four
          have nn0 := N5.out.cell 0
          have nn1 := N5.out.cell 1
          simp only [List.getElem?_toArray, List.getElem?_cons_zero, List.getElem?_cons_succ] at nn0 nn1
          generalize hk5 : (Value.slice (some ⟨g4, 0, none⟩) (n + 1) cap4) = kv5 at *
          clear hk5
          have B6 := Lib.hid (new_below w5 (.cells #[.int .i64 q0, .int .i64 q1] 96))
          have O6 := Lib.hid (own_below O5.out B6.out)
          have M6 := Lib.hid (M5.out.below B6.out)
          clear w4
          go_wp2_with (at_builtin; refine wpl_app2 45 96 Tryz.underlying45 (.agg #[.int .i64 0, .int .i64 0]) 2 16 infoCell rfl (by decide) rfl _ _ rfl w.heap.size kv5 (n + 1) (csV (cs ++ [(t, u)])) rfl O6.out w5.heap.size #[.int .i64 q0, .int .i64 q1] rfl (HB.new _ _ _) rfl (by simp [Value.oneCell']) (by omega) (by unfold maxLen; omega) M6.out.b.size ?_)
          intro g7 cap7 w7 hown7 hkp7 hbw7 _
          have M7 := Lib.hid (M6.out.keep O6.out hkp7 hbw7)
          have P7 := pc_set M7.out (.slice (some ⟨g7, 0, none⟩) (n + 1 + 1) cap7)
          have M8 := Lib.hid P7.1
          have O8 : Hid (World.ownsRow (w7.setCell ⟨w.heap.size + 1 + 1, 2, none⟩ (.slice (some ⟨g7, 0, none⟩) (n + 1 + 1) cap7)) w.heap.size 96 2 (.slice (some ⟨g7, 0, none⟩) (n + 1 + 1) cap7) (n + 1 + 1) (csV ((cs ++ [(t, u)]) ++ [(q0, q1)]))) := Lib.hid (P7.2 _ _ _ _ (by rw [csV_snoc]; exact hown7.out))
          clear o0 o1 o2 o3 y0 y1 y2 y3
          obtain ⟨o0, o1, o2, o3, y0, y1, y2, y3⟩ := M7.out.o.four
          clear hown7 hkp7 hbw7 P7
          go_wp2_with fail
          go_round
          case rel => exact ⟨i + 1, true, _, n + 1 + 1, _, by omega, by go_num, rfl, n4, HSE, HCL2, M8, O8⟩
          case measure => simp [intOf]; omega
        · have tg : decide (t < q0) = false := by simpa using hg
          by_cases he : q0 = t
          · obtain rfl : t = q0 := he.symm
            have te : (t != t) = false := by simp
            have HSE : Hid (PL (i + 1) = (false, cs)) := Lib.hid (HS.out.trans (by simp [pcS]))
            clear hg
            go_wp2_with fail
            go_round
            case rel => exact ⟨i + 1, false, cs, n, kv, by omega, by go_num, rfl, hn, HSE, HCL, M1, O1⟩
            case measure => simp [intOf]; omega
          ·
            have te : (q0 != t) = true := by simpa using he
            have HSE : Hid (PL (i + 1) = (false, cs ++ [(q0, q1)])) := Lib.hid (HS.out.trans (by simp [pcS, he, hg]))
            have n4 := HLB.out _ _ HSE.out
            rw [List.length_append, HCL.out, List.length_singleton] at n4
            have HCL2 : Hid ((cs ++ [(q0, q1)]).length = n + 1) := Lib.hid (by rw [List.length_append, HCL.out]; rfl)
            have B2 := Lib.hid (new_below (wr.alloc (.cells #[.int .i64 q0, .int .i64 q1] 96)) (.cells #[.int .i64 q0, .int .i64 q1] 96))
            have O2 := Lib.hid (own_below O1.out B2.out)
            have M2 := Lib.hid (M1.out.below B2.out)
            clear he hg
            go_wp2_with (at_builtin; refine wpl_app2 45 96 Tryz.underlying45 (.agg #[.int .i64 0, .int .i64 0]) 2 16 infoCell rfl (by decide) rfl _ _ rfl w.heap.size kv (n) (csV (cs)) rfl O2.out (wr.heap.size + 1) #[.int .i64 q0, .int .i64 q1] rfl (HB.new1 _ _ _ _) rfl (by simp [Value.oneCell']) (by omega) (by unfold maxLen; omega) M2.out.b.size ?_)
            intro g4 cap4 w4 hown4 hkp4 hbw4 _
            have M4 := Lib.hid (M2.out.keep O2.out hkp4 hbw4)
            have P4 := pc_set M4.out (.slice (some ⟨g4, 0, none⟩) (n + 1) cap4)
            have M5 := Lib.hid P4.1
            have O5 : Hid (World.ownsRow (w4.setCell ⟨w.heap.size + 1 + 1, 2, none⟩ (.slice (some ⟨g4, 0, none⟩) (n + 1) cap4)) w.heap.size 96 2 (.slice (some ⟨g4, 0, none⟩) (n + 1) cap4) (n + 1) (csV ((cs) ++ [(q0, q1)]))) := Lib.hid (P4.2 _ _ _ _ (by rw [csV_snoc]; exact hown4.out))
            clear o0 o1 o2 o3 y0 y1 y2 y3
            obtain ⟨o0, o1, o2, o3, y0, y1, y2, y3⟩ := M4.out.o.four
            clear hown4 hkp4 hbw4 P4
            go_wp2_with fail
            go_round
            case rel => exact ⟨i + 1, false, _, n + 1, _, by omega, by go_num, rfl, n4, HSE, HCL2, M5, O5⟩
            case measure => simp [intOf]; omega
    · obtain rfl : i = L := by omega
      have t3 : decide ((i : Int) < i) = false := by simp
      have HE : Hid ((if b = true then cs else cs ++ [(t, u)]) = q.cells) := Lib.hid (by
        have := HP.out
        rw [HPL.out] at this
        exact this)
      obtain ⟨v0, v1, v2, v3, -⟩ := HM.out.p.four
      cases b with
      | true =>
        have HQ : Hid (cs = q.cells) := Lib.hid HE.out
        have HLQ : Hid (n = q.cells.length) := Lib.hid (by rw [← HQ.out, HCL.out])
        obtain ⟨A9, c9, hk9⟩ := own_val HO.out
        subst hk9
        obtain ⟨o0, o1, o2, o3, -⟩ := HM.out.o.four
        obtain ⟨r0, r1, r2, r3, y0, y1, y2, y3⟩ := HM.out.r.four
        have P9 := pc_res HM.out (.int .i64 0) (.int .i64 0) (.slice A9 n c9) (.int .i64 v.rest)
        obtain ⟨z0, z1, z2, z3, -⟩ := P9.1.four
        have FIN : Hid (ValQ q w (.returned (.agg #[.int .i64 0, .int .i64 0, .slice A9 n c9, .int .i64 v.rest])) _) := Lib.hid ⟨A9, c9, by rw [HPR.out.1, HPR.out.2.1, HPR.out.2.2, HLQ.out], Lib.hid (by rw [← HLQ.out, ← HQ.out]; exact P9.2.2 _ _ _ _ HO.out), P9.2.1⟩
        clear P9 HO HM
        go_wp2_with fail
        exact bodyPost_ret (v := .agg #[.int .i64 0, .int .i64 0, .slice A9 n c9, .int .i64 v.rest]) (by simp [results, Tryz.results54, go_sem, z0, z1, z2, z3]) rfl FIN.out
      | false =>
        have HQ : Hid (cs ++ [(t, u)] = q.cells) := Lib.hid HE.out
        have HLQ : Hid (n + 1 = q.cells.length) := Lib.hid (by rw [← HQ.out, List.length_append, HCL.out]; rfl)
        obtain ⟨o0, o1, o2, o3, y0, y1, y2, y3⟩ := HM.out.o.four
        have B2 := Lib.hid (new_below wr (.cells #[.int .i64 t, .int .i64 u] 96))
        have O2 := Lib.hid (own_below HO.out B2.out)
        have M2 := Lib.hid (HM.out.below B2.out)
        go_wp2_with (at_builtin; refine wpl_app2 45 96 Tryz.underlying45 (.agg #[.int .i64 0, .int .i64 0]) 2 16 infoCell rfl (by decide) rfl _ _ rfl w.heap.size kv (n) (csV (cs)) rfl O2.out wr.heap.size #[.int .i64 t, .int .i64 u] rfl (HB.new _ _ _) rfl (by simp [Value.oneCell']) (by omega) (by unfold maxLen; omega) M2.out.b.size ?_)
        intro g4 cap4 w4 hown4 hkp4 hbw4 _
        have M4 := Lib.hid (M2.out.keep O2.out hkp4 hbw4)
        have P4 := pc_set M4.out (.slice (some ⟨g4, 0, none⟩) (n + 1) cap4)
        have M5 := Lib.hid P4.1
        have O5 : Hid (World.ownsRow (w4.setCell ⟨w.heap.size + 1 + 1, 2, none⟩ (.slice (some ⟨g4, 0, none⟩) (n + 1) cap4)) w.heap.size 96 2 (.slice (some ⟨g4, 0, none⟩) (n + 1) cap4) (n + 1) (csV ((cs) ++ [(t, u)]))) := Lib.hid (P4.2 _ _ _ _ (by rw [csV_snoc]; exact hown4.out))
        clear o0 o1 o2 o3 y0 y1 y2 y3 v0 v1 v2 v3
        obtain ⟨o0, o1, o2, o3, y0, y1, y2, y3⟩ := M4.out.o.four
        clear hown4 hkp4 hbw4 P4
        go_upto_region 14 with fail
        generalize (w4.setCell ⟨w.heap.size + 1 + 1, 2, none⟩ (.slice (some ⟨g4, 0, none⟩) (n + 1) cap4)) = w5 at *
        clear o0 o1 o2 o3 y0 y1 y2 y3 M4
        obtain ⟨o0, o1, o2, o3, -⟩ := M5.out.o.four
        obtain ⟨r0, r1, r2, r3, y0, y1, y2, y3⟩ := M5.out.r.four
        have P9 := pc_res M5.out (.int .i64 0) (.int .i64 0) (.slice (some ⟨g4, 0, none⟩) (n + 1) cap4) (.int .i64 v.rest)
        obtain ⟨z0, z1, z2, z3, -⟩ := P9.1.four
        have FIN : Hid (ValQ q w (.returned (.agg #[.int .i64 0, .int .i64 0, .slice (some ⟨g4, 0, none⟩) (n + 1) cap4, .int .i64 v.rest])) _) := Lib.hid ⟨some ⟨g4, 0, none⟩, cap4, by rw [HPR.out.1, HPR.out.2.1, HPR.out.2.2, HLQ.out], Lib.hid (by rw [← HLQ.out, ← HQ.out]; exact P9.2.2 _ _ _ _ O5.out), P9.2.1⟩
        clear P9 O5 M5
        go_wp2_with fail
        exact bodyPost_ret (v := .agg #[.int .i64 0, .int .i64 0, .slice (some ⟨g4, 0, none⟩) (n + 1) cap4, .int .i64 v.rest]) (by simp [results, Tryz.results54, go_sem, z0, z1, z2, z3]) rfl FIN.out
end Go.Proofs.YtaodebpogibimaaGreat
