/-
  Values of nodes: the law MeanMorgan.
-/
import Derived.Test.YtcpeddogckillaaGreatMevJ
namespace Go.Proofs.YtcpeddogckillaaGreat
open Go.RowKit

theorem hb_new_at_morgan {w : World} {n t : Nat} {cs : Array Value} (h : w.heap.size = n) : HB (w.alloc (.cells cs t)) n t cs := by subst h; exact HB.new w t cs
theorem morgan_at {W : World} {g N : Nat} {x y : Int} {b0 b1 b2 b3 b4 b5 : Nat} (hg : HB W g 39 #[.int .i64 4, .slice (some ⟨b0, 0, none⟩) 2 2, .int .i64 0, .int .i64 0, .string ⟨#[]⟩, .int .i64 3, .slice (some ⟨b1, 0, none⟩) 1 1, .int .i64 0, .int .i64 0, .string ⟨#[]⟩, .int .i64 3, .slice (some ⟨b2, 0, none⟩) 1 1, .int .i64 0, .int .i64 0, .string ⟨#[]⟩, .int .i64 3, .slice (some ⟨b3, 0, none⟩) 1 1, .int .i64 0, .int .i64 0, .string ⟨#[]⟩, .int .i64 5, .slice (some ⟨b4, 0, none⟩) 2 2, .int .i64 0, .int .i64 0, .string ⟨#[]⟩, .int .i64 6, .slice (some ⟨b5, 0, none⟩) 2 2, .int .i64 0, .int .i64 0, .string ⟨#[]⟩]) (h0 : HB W b0 3 #[.int .i64 x, .int .i64 y]) (h1 : HB W b1 3 #[.int .i64 (N : Int)]) (h2 : HB W b2 3 #[.int .i64 x]) (h3 : HB W b3 3 #[.int .i64 y]) (h4 : HB W b4 3 #[.int .i64 ((N : Int) + 2), .int .i64 ((N : Int) + 3)]) (h5 : HB W b5 3 #[.int .i64 ((N : Int) + 1), .int .i64 ((N : Int) + 4)]) : NsAt W (some ⟨g, 0, none⟩) (morganL N x y) := fun _ => ⟨g, 0, rfl, hg.lt, fun i q hq => by
  have hi : i < 6 := by
    rcases Nat.lt_or_ge i 6 with z | z
    · exact z
    · rw [List.getElem?_eq_none (by simpa [morganL] using z)] at hq
      cases hq
  have h2 : i = 0 ∨ i = 1 ∨ i = 2 ∨ i = 3 ∨ i = 4 ∨ i = 5 := by omega
  rcases h2 with rfl | rfl | rfl | rfl | rfl | rfl
  all_goals (simp [morganL] at hq; subst hq)
  · exact ⟨(hg.cell _).trans rfl, (hg.cell _).trans rfl, (hg.cell _).trans rfl, (hg.cell _).trans rfl, Nat.zero_le _, some ⟨b0, 0, none⟩, 2, (hg.cell _).trans rfl, by simp, by unfold maxLen; decide, is_row h0 (fun k hk => by
      simp at hk
      have : k = 0 ∨ k = 1 := by omega
      rcases this with rfl | rfl <;> rfl)⟩
  · exact ⟨(hg.cell _).trans rfl, (hg.cell _).trans rfl, (hg.cell _).trans rfl, (hg.cell _).trans rfl, Nat.zero_le _, some ⟨b1, 0, none⟩, 1, (hg.cell _).trans rfl, by simp, by unfold maxLen; decide, is_row h1 (fun k hk => by
      simp at hk
      subst hk
      rfl)⟩
  · exact ⟨(hg.cell _).trans rfl, (hg.cell _).trans rfl, (hg.cell _).trans rfl, (hg.cell _).trans rfl, Nat.zero_le _, some ⟨b2, 0, none⟩, 1, (hg.cell _).trans rfl, by simp, by unfold maxLen; decide, is_row h2 (fun k hk => by
      simp at hk
      subst hk
      rfl)⟩
  · exact ⟨(hg.cell _).trans rfl, (hg.cell _).trans rfl, (hg.cell _).trans rfl, (hg.cell _).trans rfl, Nat.zero_le _, some ⟨b3, 0, none⟩, 1, (hg.cell _).trans rfl, by simp, by unfold maxLen; decide, is_row h3 (fun k hk => by
      simp at hk
      subst hk
      rfl)⟩
  · exact ⟨(hg.cell _).trans rfl, (hg.cell _).trans rfl, (hg.cell _).trans rfl, (hg.cell _).trans rfl, Nat.zero_le _, some ⟨b4, 0, none⟩, 2, (hg.cell _).trans rfl, by simp, by unfold maxLen; decide, is_row h4 (fun k hk => by
      simp at hk
      have : k = 0 ∨ k = 1 := by omega
      rcases this with rfl | rfl <;> rfl)⟩
  · exact ⟨(hg.cell _).trans rfl, (hg.cell _).trans rfl, (hg.cell _).trans rfl, (hg.cell _).trans rfl, Nat.zero_le _, some ⟨b5, 0, none⟩, 2, (hg.cell _).trans rfl, by simp, by unfold maxLen; decide, is_row h5 (fun k hk => by
      simp at hk
      have : k = 0 ∨ k = 1 := by omega
      rcases this with rfl | rfl <;> rfl)⟩⟩
/-- Values, the last of which is true. -/
def morganQ (nl : Nat) (w : World) (e : Ending) (w' : World) : Prop := ∃ (A : Option Addr) (c pn : Nat) (ps : List (Vl × Value)), e = .returned (.tuple #[.slice A pn c, .bool true]) ∧ Hid (ps.length = pn) ∧ Hid (VMk w.heap.size w.heap.size (.slice A pn c) w' ps) ∧ Hid (pn = 0 ∨ (pn = nl + 6 ∧ ∃ p, ps[nl + 5]? = some p ∧ p.1.num = 1)) ∧ Below w.heap.size w w'
theorem morgan_q {ns : List Nd} {ss : List Int} {ms : List Mg} {x y : Int} (h : Ok ns ss) (hx : 0 ≤ x ∧ x < ss.length ∧ nth ss x.toNat = 1) (hy : 0 ≤ y ∧ y < ss.length ∧ nth ss y.toNat = 1) (h200 : ns.length ≤ 190) (hm : ms.length = 14) (hg : ∀ i, i < 14 → mcF dqs ms i = 0) {w w' : World} {e : Ending}
    (hq : ValdQ (valsE (evOf dqs (ns ++ morganL ns.length x y) ms) (ns ++ morganL ns.length x y).length) w e w') : morganQ ns.length w e w' := by
  obtain ⟨A, c, ps, h1, h2, h3, h4⟩ := hq
  refine ⟨A, c, ps.length, ps, h1, Lib.hid rfl, Lib.hid h2, Lib.hid ?_, h4⟩
  rcases h3 with rfl | h3
  · exact .inl rfl
  · have hl := valsE_len h3
    have hv := morgan_val h hx hy h200 hm hg h3
    have hlen : (ns ++ morganL ns.length x y).length = ns.length + 6 := by rw [List.length_append]; rfl
    rw [List.length_map, hlen] at hl
    have e : ps[ns.length + 5]? = some ps[ns.length + 5] := List.getElem?_eq_getElem (by omega)
    rw [show vn (ps.map (·.1)) (ns.length + 5) = ps[ns.length + 5].1 by simp [vn, List.getD, e]] at hv
    exact .inr ⟨hl, _, e, hv⟩
set_option maxRecDepth 100000 in
set_option maxHeartbeats 8000000 in
theorem morgan_any (zs ys : List Int) (A B : Option Addr) (c1 c2 : Nat) (hz : zs.length ≤ maxLen) (hy : ys.length ≤ maxLen) (w : World) (h1 : Is w A zs) (h2 : Is w B ys) :
    Calls Tryz.prog 5 #[.slice A zs.length c1, .slice B ys.length c2] w fun e w' => e = .returned (.bool true) ∧ Below w.heap.size w w' := by
  have XA := Lib.hid (askof_any zs A c1 20 (by decide) hz w h1)
  have XW := Lib.hid (fun (W : World) (k : Below w.heap.size w W) => worldof_any ys B c2 hy W (h2.below k))
  clear h1 h2 hz hy
  generalize zs.length = zl at *
  generalize ys.length = yl at *
  go_enter Tryz.func5, Tryz.ntmps5
  go_wp2_with fail
  refine XA.out.mono ?_
  rintro e w1 ⟨Ad, An, Ah, nc, hc, ns, ss, hs, rfl, hd, hn, hh, hnc, hnm, hok, n120, h200, hho, hb1⟩
  have n200 : ns.length ≤ 200 := Nat.le_trans n120 (by decide)
  have G1 : Hid (Below w.heap.size w w1) := Lib.hid hb1
  have n190 : ns.length ≤ 190 := Nat.le_trans n120 (by decide)
  have BN := Lib.hid (new_below w1 (.cells #[.slice Ad 14 14, .slice An ns.length nc, .slice Ah hs.length hc] 26))
  have HN := Lib.hid (HB.new w1 26 #[.slice Ad 14 14, .slice An ns.length nc, .slice Ah hs.length hc])
  have HSL := Lib.hid (ok_len hok)
  have XS : Hid (∀ W, Below (w1.alloc (.cells #[.slice Ad 14 14, .slice An ns.length nc, .slice Ah hs.length hc] 26)).heap.size (w1.alloc (.cells #[.slice Ad 14 14, .slice An ns.length nc, .slice Ah hs.length hc] 26)) W → Calls Tryz.prog 15 #[.agg #[.slice Ad 14 14, .slice An ns.length nc, .slice Ah hs.length hc]] W (GivesS ss 0 0 W)) := Lib.hid (fun W k => by
    have k' := below_after BN.out k
    have := sorts_any dqs ns hs Ad An Ah 14 nc hc (by decide) (by decide) (by unfold maxLen; omega) (by unfold maxLen; omega) W (hd.below k') (hn.below k') (hh.below k')
    obtain ⟨a, b, c⟩ := ask_fine hok n200 h200 hho
    rw [a, b, c] at this
    exact this)
  have XL := Lib.hid (lastbools_any ss Ad An Ah 14 14 ns.length nc hs.length hc (ok_len hok) n200 _ XS.out)
  have HD := Lib.hid hd
  have HNS := Lib.hid hn
  have HOK := Lib.hid hok
  have hnm' := hnm
  clear hd hn hh hok hho hb1 h200 XA XS hnm
  generalize hnl : ns.length = nl at *
  have HNL := Lib.hid hnl
  clear hnl
  generalize hs.length = hl at *
  obtain ⟨a0, a1, a2, -⟩ := HN.out.three
  go_wp2_with fail
  refine XL.out.mono ?_
  rintro e w2 ⟨x, y, rfl, HLB, hb2⟩
  have B2 := Lib.hid (below_after BN.out hb2)
  have G2 := Lib.hid (bw_below (Nat.le_refl _) G1.out B2.out)
  have N2 := Lib.hid (HN.out.below hb2)
  clear hb2 XL a0 a1 a2 BN HN
  obtain ⟨a0, a1, a2, -⟩ := N2.out.three
  by_cases hx0 : 0 ≤ x
  · have tx : decide (0 ≤ x) = true := by simpa using hx0
    have HXY : Hid ((0 ≤ x ∧ x < ss.length ∧ nth ss x.toNat = 1) ∧ (0 ≤ y ∧ y < ss.length ∧ nth ss y.toNat = 1)) := Lib.hid (by
      rcases HLB.out with ⟨z, _⟩ | ⟨y1, y2, y3, z | ⟨x1, x2, x3⟩⟩
      · omega
      · omega
      · rw [HSL.out]
        exact ⟨⟨x1, by omega, x3⟩, y1, by omega, y3⟩)
    rw [tx]
    clear hx0 tx HLB
    have hnz : (nl : Int) ≤ 190 := by omega
    have BX : Hid (Below w2.heap.size w2 ((((((((w2).alloc (.cells #[.int .i64 x, .int .i64 y] 3)).alloc (.cells #[.int .i64 (nl : Int)] 3)).alloc (.cells #[.int .i64 x] 3)).alloc (.cells #[.int .i64 y] 3)).alloc (.cells #[.int .i64 ((nl : Int) + 2), .int .i64 ((nl : Int) + 3)] 3)).alloc (.cells #[.int .i64 ((nl : Int) + 1), .int .i64 ((nl : Int) + 4)] 3)).alloc (.cells #[.int .i64 4, .slice (some ⟨w2.heap.size, 0, none⟩) 2 2, .int .i64 0, .int .i64 0, .string ⟨#[]⟩, .int .i64 3, .slice (some ⟨w2.heap.size + 1, 0, none⟩) 1 1, .int .i64 0, .int .i64 0, .string ⟨#[]⟩, .int .i64 3, .slice (some ⟨w2.heap.size + 1 + 1, 0, none⟩) 1 1, .int .i64 0, .int .i64 0, .string ⟨#[]⟩, .int .i64 3, .slice (some ⟨w2.heap.size + 1 + 1 + 1, 0, none⟩) 1 1, .int .i64 0, .int .i64 0, .string ⟨#[]⟩, .int .i64 5, .slice (some ⟨w2.heap.size + 1 + 1 + 1 + 1, 0, none⟩) 2 2, .int .i64 0, .int .i64 0, .string ⟨#[]⟩, .int .i64 6, .slice (some ⟨w2.heap.size + 1 + 1 + 1 + 1 + 1, 0, none⟩) 2 2, .int .i64 0, .int .i64 0, .string ⟨#[]⟩] 39))) := Lib.hid (by go_grown)
    have XNS : Hid (NsAt ((((((((w2).alloc (.cells #[.int .i64 x, .int .i64 y] 3)).alloc (.cells #[.int .i64 (nl : Int)] 3)).alloc (.cells #[.int .i64 x] 3)).alloc (.cells #[.int .i64 y] 3)).alloc (.cells #[.int .i64 ((nl : Int) + 2), .int .i64 ((nl : Int) + 3)] 3)).alloc (.cells #[.int .i64 ((nl : Int) + 1), .int .i64 ((nl : Int) + 4)] 3)).alloc (.cells #[.int .i64 4, .slice (some ⟨w2.heap.size, 0, none⟩) 2 2, .int .i64 0, .int .i64 0, .string ⟨#[]⟩, .int .i64 3, .slice (some ⟨w2.heap.size + 1, 0, none⟩) 1 1, .int .i64 0, .int .i64 0, .string ⟨#[]⟩, .int .i64 3, .slice (some ⟨w2.heap.size + 1 + 1, 0, none⟩) 1 1, .int .i64 0, .int .i64 0, .string ⟨#[]⟩, .int .i64 3, .slice (some ⟨w2.heap.size + 1 + 1 + 1, 0, none⟩) 1 1, .int .i64 0, .int .i64 0, .string ⟨#[]⟩, .int .i64 5, .slice (some ⟨w2.heap.size + 1 + 1 + 1 + 1, 0, none⟩) 2 2, .int .i64 0, .int .i64 0, .string ⟨#[]⟩, .int .i64 6, .slice (some ⟨w2.heap.size + 1 + 1 + 1 + 1 + 1, 0, none⟩) 2 2, .int .i64 0, .int .i64 0, .string ⟨#[]⟩] 39)) (some ⟨w2.heap.size + 1 + 1 + 1 + 1 + 1 + 1, 0, none⟩) (morganL nl x y)) := Lib.hid (morgan_at (hb_new_at_morgan (by simp)) (((((((hb_new_at_morgan (w := w2) (n := w2.heap.size) (t := 3) (cs := #[.int .i64 x, .int .i64 y]) (by simp)).alloc _).alloc _).alloc _).alloc _).alloc _).alloc _) ((((((hb_new_at_morgan (w := (w2).alloc (.cells #[.int .i64 x, .int .i64 y] 3)) (n := w2.heap.size + 1) (t := 3) (cs := #[.int .i64 (nl : Int)]) (by simp)).alloc _).alloc _).alloc _).alloc _).alloc _) (((((hb_new_at_morgan (w := ((w2).alloc (.cells #[.int .i64 x, .int .i64 y] 3)).alloc (.cells #[.int .i64 (nl : Int)] 3)) (n := w2.heap.size + 1 + 1) (t := 3) (cs := #[.int .i64 x]) (by simp)).alloc _).alloc _).alloc _).alloc _) ((((hb_new_at_morgan (w := (((w2).alloc (.cells #[.int .i64 x, .int .i64 y] 3)).alloc (.cells #[.int .i64 (nl : Int)] 3)).alloc (.cells #[.int .i64 x] 3)) (n := w2.heap.size + 1 + 1 + 1) (t := 3) (cs := #[.int .i64 y]) (by simp)).alloc _).alloc _).alloc _) (((hb_new_at_morgan (w := ((((w2).alloc (.cells #[.int .i64 x, .int .i64 y] 3)).alloc (.cells #[.int .i64 (nl : Int)] 3)).alloc (.cells #[.int .i64 x] 3)).alloc (.cells #[.int .i64 y] 3)) (n := w2.heap.size + 1 + 1 + 1 + 1) (t := 3) (cs := #[.int .i64 ((nl : Int) + 2), .int .i64 ((nl : Int) + 3)]) (by simp)).alloc _).alloc _) ((hb_new_at_morgan (w := (((((w2).alloc (.cells #[.int .i64 x, .int .i64 y] 3)).alloc (.cells #[.int .i64 (nl : Int)] 3)).alloc (.cells #[.int .i64 x] 3)).alloc (.cells #[.int .i64 y] 3)).alloc (.cells #[.int .i64 ((nl : Int) + 2), .int .i64 ((nl : Int) + 3)] 3)) (n := w2.heap.size + 1 + 1 + 1 + 1 + 1) (t := 3) (cs := #[.int .i64 ((nl : Int) + 1), .int .i64 ((nl : Int) + 4)]) (by simp)).alloc _))
    have XWI := Lib.hid (with_any ns (morganL nl x y) Ad An Ah (some ⟨w2.heap.size + 1 + 1 + 1 + 1 + 1 + 1, 0, none⟩) nc hl hc 6 nl 6 HNL.out rfl n200 (by decide) _ ((HNS.out.below B2.out).below BX.out) XNS.out)
    have N3 := Lib.hid (N2.out.below BX.out)
    have D3 := Lib.hid ((HD.out.below B2.out).below BX.out)
    have G3 := Lib.hid (bw_below (Nat.le_refl _) G2.out BX.out)
    clear XNS HD HNS N2 B2 G2 BX
    go_wp2_with fail
    refine XWI.out.mono ?_
    rintro e w4 ⟨A4, c4, rfl, h41, h42, h43, hb4⟩
    have NS4 := h43
    have D4 := Lib.hid (D3.out.below hb4)
    have G4 := Lib.hid (bw_below (Nat.le_refl _) G3.out hb4)
    clear h43 hb4 XWI D3 G3 N3 a0 a1 a2
    have XV : Hid (∀ (W : World) (Am : Option Addr) (mc : Nat) (ms : List Mg), Below w4.heap.size w4 W → ms.length = 14 → 14 ≤ mc → mc ≤ maxLen → MsAt W Am ms → (∀ i, i < 14 → mcF dqs ms i = 0) → (∀ q ∈ ms, q.wf) → Calls Tryz.prog 14 #[.agg #[.slice Ad 14 14, .slice A4 (nl + 6) c4, .slice none 0 0], .agg #[.slice Am 14 mc]] W (morganQ nl W)) := Lib.hid (fun W Am mc ms k q1 q2 q3 q4 q5 q6 => by
      have hlen : (ns ++ morganL nl x y).length = nl + 6 := by rw [List.length_append, HNL.out]; rfl
      have ok' : Ok (ns ++ morganL nl x y) (ss ++ [1, 1, 1, 1, 1, 1]) := by
        have := morgan_ok HOK.out HXY.out.1 HXY.out.2
        rw [HNL.out] at this
        exact this
      have h0 := world_fine (hs := []) (ms := ms) ok' (by rw [hlen]; omega) (by simp) (fun i hi => absurd hi (by simp)) q1 q5
      have := valued_any dqs (ns ++ morganL nl x y) [] ms Ad A4 none Am 14 c4 0 mc W ⟨Nat.le_refl _, by decide, by rw [hlen]; exact h41, h42, Nat.zero_le _, trivial, by rw [q1]; exact q2, q3, D4.out.below k, NS4.out.below k, is_nil _ _, q4, q6⟩ h0
      rw [q1] at this
      have this2 := this.mono fun e w' hx => morgan_q (x := x) (y := y) HOK.out HXY.out.1 HXY.out.2 (by rw [HNL.out]; exact n190) q1 q5 (by rw [HNL.out]; exact hx)
      rw [hlen, HNL.out] at this2
      exact this2)
    have BN4 := Lib.hid (new_below w4 (.cells #[.slice Ad 14 14, .slice A4 (nl + 6) c4, .slice none 0 0] 26))
    have HN4 := Lib.hid (HB.new w4 26 #[.slice Ad 14 14, .slice A4 (nl + 6) c4, .slice none 0 0])
    have KA : Hid (∀ W, Below (w4.alloc (.cells #[.slice Ad 14 14, .slice A4 (nl + 6) c4, .slice none 0 0] 26)).heap.size (w4.alloc (.cells #[.slice Ad 14 14, .slice A4 (nl + 6) c4, .slice none 0 0] 26)) W → AskE w4.heap.size (.slice Ad 14 14) (.slice A4 (nl + 6) c4) (.slice none 0 0) W) := Lib.hid (fun W k => ⟨(HN4.out.below k).cell 0, (HN4.out.below k).cell 1, (HN4.out.below k).cell 2⟩)
    have DR : Hid (Below (w4.alloc (.cells #[.slice Ad 14 14, .slice A4 (nl + 6) c4, .slice none 0 0] 26)).heap.size (w4.alloc (.cells #[.slice Ad 14 14, .slice A4 (nl + 6) c4, .slice none 0 0] 26)) (w4.alloc (.cells #[.slice Ad 14 14, .slice A4 (nl + 6) c4, .slice none 0 0] 26)).drew) := Lib.hid ((Below.refl _ _).drew)
    clear D4 NS4 HOK HXY HNL HSL h41 h42
    go_wp2_with fail
    go_region_held3 (fun W => AskE w4.heap.size (.slice Ad 14 14) (.slice A4 (nl + 6) c4) (.slice none 0 0) W)
      ((first | (with_reducible exact KA.out _ DR.out) | (with_reducible exact KA.out _ F5.out) | (with_reducible exact KA.out _ F6.out)))
      (first
        | (go_at_call 12; refine (XW.out _ (bw_below (Nat.le_refl _) (bw_below (Nat.le_refl _) G4.out BN4.out) DR.out)).mono ?_; rintro e w5 ⟨Am, mc, ms, rfl, hml, hm1, hm2, hms, hmg, hmw, hb5⟩; have F5 := Lib.hid (below_after DR.out hb5); have MS5 := hms; have MG5 := hmg; have MW5 := hmw; have HML := Lib.hid hml; clear hb5 hms hmg hmw hml)
        | (go_at_call 14; refine (XV.out _ Am mc ms (below_after BN4.out F5.out) HML.out hm1 hm2 MS5.out MG5.out MW5.out).mono ?_; rintro e w6 ⟨A6, c6, pn, ps, rfl, HPN, VM6, HP6, hb6⟩; have F6 := Lib.hid (below_after F5.out hb6); clear hb6))
    all_goals
      have G6 := Lib.hid (bw_below (Nat.le_refl _) (bw_below (Nat.le_refl _) G4.out BN4.out) F6.out)
      have XQ := Lib.hid (sure_any w6)
      clear XV XW KA DR BN4 HN4 G4
      go_wp2_with fail
      refine XQ.out.mono ?_
      rintro e w7 ⟨rfl, hb7⟩
      have G7 := Lib.hid (bw_below (Nat.le_refl _) G6.out hb7)
      have VM7 := Lib.hid (VM6.out.below hb7)
      clear hb7 XQ VM6 G6
      rcases HP6.out with z | ⟨z, p, hp, hp1⟩
      · have tp : ((pn : Int) == 0) = true := by rw [z]; rfl
        clear z
        go_wp2_with fail
        go_ret
        exact ⟨rfl, G7.out⟩
      · obtain ⟨bv, hbv, lbv, v0, v1, v2, v3⟩ := vm_at VM7.out hp
        rw [hp1] at v0
        subst hbv
        have tp : ((pn : Int) == 0) = false := by rw [beq_eq_false_iff_ne]; omega
        have l5 : (nl : Int) + 5 < pn := by omega
        have l6 : (0 : Int) ≤ (nl : Int) + 5 := by omega
        have l7 : ((nl : Int) + 5).toNat = nl + 5 := by omega
        have l8 : nl + 5 < pn := by omega
        clear z hp hp1 v1 v2 v3
        go_wp2_with fail
        go_ret
        exact ⟨rfl, G7.out⟩
  · have tx : decide (0 ≤ x) = false := by simpa using hx0
    rw [tx]
    have XQ := Lib.hid (sure_any w2)
    clear hx0 tx HLB XW
    go_wp2_with fail
    refine XQ.out.mono ?_
    rintro e w7 ⟨rfl, hb7⟩
    have G7 := Lib.hid (bw_below (Nat.le_refl _) G2.out hb7)
    clear hb7 XQ
    go_wp2_with fail
    go_ret
    exact ⟨rfl, G7.out⟩
end Go.Proofs.YtcpeddogckillaaGreat
