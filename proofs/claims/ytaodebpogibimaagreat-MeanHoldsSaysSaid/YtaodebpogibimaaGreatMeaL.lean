/-
  Worlds, by the reference: MeanCheck.
-/
import Derived.Test.YtaodebpogibimaaGreatMeaK
import Derived.Test.YtaodebpogibimaaGreatG10
import Derived.Test.YtaodebpogibimaaGreatAskAb
namespace Go.Proofs.YtaodebpogibimaaGreat
open Go.RowKit

set_option maxRecDepth 100000 in
set_option maxHeartbeats 8000000 in
theorem refmean_any (qs : List Dc) (ns : List Nd) (hs : List Int) (ms : List Mg) (Ad An Ah Am : Option Addr) (dc nc hc mc : Nat) (w : World) (h : AwAt w qs ns hs ms Ad An Ah Am dc nc hc mc) :
    Calls Tryz.prog 16 #[.agg #[.slice Ad qs.length dc, .slice An ns.length nc, .slice Ah hs.length hc], .agg #[.slice Am ms.length mc]] w fun e w' => e = .returned (.agg #[.int .i64 (meC qs ns hs ms), .int .i64 (meA qs ns hs ms)]) ∧ Below w.heap.size w w' := by
  have HH := Lib.hid h
  have K1 := Lib.hid (fun W (hb : Below w.heap.size w W) => refsorts_any qs ns hs Ad An Ah dc nc hc h.d1 h.d2 (Nat.le_trans h.n1 h.n2) h.h1 W (h.fd.below hb) (h.fn.below hb) (h.fh.below hb))
  have B0 : Hid (Below w.heap.size w (((w.alloc (.cells #[.slice Ad qs.length dc, .slice An ns.length nc, .slice Ah hs.length hc] 26)).alloc (.cells #[.slice Am ms.length mc] 29)).alloc (.cells #[.int .i64 0, .int .i64 0] 32))) := Lib.hid ((((Below.refl _ _).alloc (Nat.le_refl _) _).alloc (by simp) _).alloc (by simp; omega) _)
  have NA0 : Hid (HB (((w.alloc (.cells #[.slice Ad qs.length dc, .slice An ns.length nc, .slice Ah hs.length hc] 26)).alloc (.cells #[.slice Am ms.length mc] 29)).alloc (.cells #[.int .i64 0, .int .i64 0] 32)) w.heap.size 26 #[.slice Ad qs.length dc, .slice An ns.length nc, .slice Ah hs.length hc]) := Lib.hid (((HB.new _ _ _).alloc _).alloc _)
  have NW0 : Hid (HB (((w.alloc (.cells #[.slice Ad qs.length dc, .slice An ns.length nc, .slice Ah hs.length hc] 26)).alloc (.cells #[.slice Am ms.length mc] 29)).alloc (.cells #[.int .i64 0, .int .i64 0] 32)) (w.heap.size + 1) 29 #[.slice Am ms.length mc]) := Lib.hid ((HB.new1 _ _ _ _).alloc _)
  have NR0 : Hid (HB (((w.alloc (.cells #[.slice Ad qs.length dc, .slice An ns.length nc, .slice Ah hs.length hc] 26)).alloc (.cells #[.slice Am ms.length mc] 29)).alloc (.cells #[.int .i64 0, .int .i64 0] 32)) (w.heap.size + 1 + 1) 32 #[.int .i64 0, .int .i64 0]) := Lib.hid (HB.new2 _ _ _ _ _)
  have d2 := h.d2
  have m2 := h.m2
  have d1 := h.d1
  have m1 := h.m1
  unfold maxLen at d2 m2
  have HE : Hid (meC qs ns hs ms = (if akC qs ns hs = 0 then (if ms.length = qs.length then fsC (mcF qs ms) qs.length qs.length else 9) else akC qs ns hs) ∧ meA qs ns hs ms = (if akC qs ns hs = 0 then (if ms.length = qs.length then fsA (mcF qs ms) qs.length qs.length else 0) else akA qs ns hs)) := Lib.hid ⟨rfl, rfl⟩
  have HAK : Hid (akC qs ns hs = 0 → _) := Lib.hid (ak_a0 (qs := qs) (ns := ns) (hs := hs))
  clear h
  unfold GivesS at K1
  generalize akL qs ns hs = LL at *
  generalize meC qs ns hs ms = rC at *
  generalize meA qs ns hs ms = rA at *
  generalize hkC : akC qs ns hs = C at *
  generalize akA qs ns hs = A at *
  generalize ns.length = nl at *
  generalize hs.length = hl at *
  clear hkC
  by_cases hC : C = 0
  · subst hC
    obtain ⟨hA, ⟨hq30, hdc⟩, _, _⟩ := HAK.out rfl
    have HDC := Lib.hid hdc
    clear HAK hdc
    subst hA
    have HE2 : Hid (rC = (if ms.length = qs.length then fsC (mcF qs ms) qs.length qs.length else 9) ∧ rA = (if ms.length = qs.length then fsA (mcF qs ms) qs.length qs.length else 0)) := Lib.hid HE.out
    clear HE
    by_cases hm : ms.length = qs.length
    · have HR : Hid (rC = fsC (mcF qs ms) qs.length qs.length ∧ rA = fsA (mcF qs ms) qs.length qs.length) := Lib.hid (by
        have := HE2.out
        rw [if_pos hm, if_pos hm] at this
        exact this)
      have HM := Lib.hid hm
      have KD := Lib.hid (fun i (hi : i < qs.length) => dc_ok (HDC.out i hi))
      clear HE2 HDC
      rw [hm] at B0 NA0 NW0 NR0 m1 ⊢
      clear hm
      generalize hql : qs.length = ql at *
      have HQL := Lib.hid hql
      clear hql
      go_enter Tryz.func16, Tryz.ntmps16
      go_wp2_with fail
      refine (K1.out _ B0.out).mono ?_
      rintro e w1 ⟨S, sc, rfl, _, _, _, hb1⟩
      have F1 := Lib.hid (new_below w1 (.cells #[.int .i64 0, .int .i64 0] 32))
      have B1 : Hid (Below w.heap.size w (w1.alloc (.cells #[.int .i64 0, .int .i64 0] 32))) := Lib.hid (below_after (below_after B0.out hb1) F1.out)
      have NA1 := Lib.hid ((NA0.out.below hb1).below F1.out)
      have NW1 := Lib.hid ((NW0.out.below hb1).below F1.out)
      have NR1 := Lib.hid ((NR0.out.below hb1).below F1.out)
      clear hb1 B0 NA0 NW0 NR0 K1 F1
      obtain ⟨a0, a1, a2, _⟩ := NA1.out.three
      obtain ⟨w0, _⟩ := NW1.out.one
      obtain ⟨r0, r1, r2, r3⟩ := NR1.out.two
      have la := NA1.out.lt
      have lw := NW1.out.lt
      have lr := NR1.out.lt
      go_wp2_with fail
      go_loopw [7] (fun k wr => ∃ i : Nat, i ≤ ql ∧ k = .int .i64 i ∧ Hid (∀ j, j < i → mcF qs ms j = 0) ∧ Hid (Below w.heap.size w wr) ∧ Hid (HB wr w.heap.size 26 #[.slice Ad ql dc, .slice An nl nc, .slice Ah hl hc]) ∧ Hid (HB wr (w.heap.size + 1) 29 #[.slice Am ql mc]) ∧ Hid (HB wr (w.heap.size + 1 + 1) 32 #[.int .i64 0, .int .i64 0])) (fun k _ => ql - (intOf k).toNat)
      case atStart => exact ⟨0, by omega, rfl, Lib.hid (fun j hj => absurd hj (by omega)), B1, NA1, NW1, NR1⟩
      case round =>
        clear a0 a1 a2 w0 r0 r1 r2 r3 la lw lr
        obtain ⟨i, hi, rfl, HP, HB1, HA1, HW1, HR1⟩ := hrel
        obtain ⟨w0, _⟩ := HW1.out.one
        obtain ⟨a0, a1, a2, _⟩ := HA1.out.three
        have la := HA1.out.lt
        obtain ⟨r0, r1, r2, r3⟩ := HR1.out.two
        have lw := HW1.out.lt
        have lr := HR1.out.lt
        by_cases hlt : i < ql
        · have t3 : decide ((i : Int) < ql) = true := by simpa using hlt
          have HAW := Lib.hid (HH.out.below (HB1.out.mono (Nat.le_refl _)))
          obtain ⟨b1, o1, Ag, gc, rfl, lb1, c0, c1, c2, _, hg1, hg2, hg3⟩ := ds_at' (i := i) HAW.out.fd (by rw [HQL.out]; exact hlt)
          obtain ⟨b2, o2, rfl, lb2, ⟨⟨Ar, rc, e0, hr1, hr2, hr3⟩, e1, e2, e4, Ac, cc, e3, hc1, hc2, hc3⟩⟩ := ms_at (i := i) HAW.out.fm (by rw [HM.out]; exact hlt)
          have KW := Lib.hid (fun W (hb : Below wr.heap.size wr W) => meaningfault_any (dn qs i).name (dn qs i).args Ag Ar Ac gc rc cc (dn qs i).sort (mn ms i) (KD.out i hlt).1 hg1 hg2 hr1 hr2 hc1 hc2 W (hr3.below hb) (hc3.below hb))
          have HF : Hid (mcF qs ms i = mgC (dn qs i).args.length (dn qs i).sort (mn ms i)) := Lib.hid rfl
          clear hg3 hr3 hc3
          generalize mgC (dn qs i).args.length (dn qs i).sort (mn ms i) = C9 at *
          generalize (dn qs i).args.length = al at *
          generalize (dn qs i).name = nm at *
          generalize (dn qs i).sort = so at *
          generalize (mn ms i).rows.length = rl at *
          generalize (mn ms i).rest.cells.length = cl at *
          generalize (mn ms i).rest.num = vn at *
          generalize (mn ms i).rest.den = vd at *
          generalize (mn ms i).rest.rest = vr at *
          go_wp2_with fail
          have XW : Hid (Calls Tryz.prog 42 #[.agg #[.string nm, .slice Ag al gc, .int .i64 so], .agg #[.slice Ar rl rc, .int .i64 vn, .int .i64 vd, .slice Ac cl cc, .int .i64 vr]] wr.drew fun e w' => e = .returned (.int .i64 C9) ∧ Below wr.heap.size wr w') := Lib.hid ((KW.out _ (Below.refl _ _).drew).mono fun e w' ⟨h1, h2⟩ => ⟨h1, (Below.refl _ _).drew.trans h2⟩)
          go_region_with (go_at_call 42; (with_reducible refine XW.out.mono ?_); rintro e w2 ⟨rfl, hb2⟩; have G2 : Hid (Below w.heap.size w w2) := bw_below (Nat.le_refl _) HB1.out hb2; have A2 := Lib.hid (HA1.out.below hb2); have W2 := Lib.hid (HW1.out.below hb2); have R2 := Lib.hid (HR1.out.below hb2); clear hb2)
          all_goals
            clear w0 r0 r1 r2 r3 lw lr a0 a1 a2 la
            by_cases h9 : C9 = 0
            · subst h9
              go_wp2_with fail
              go_round
              case rel => exact ⟨i + 1, by omega, by go_num, Lib.hid (fun j hj => by
                rcases Nat.lt_or_ge j i with z | z
                · exact HP.out j z
                · obtain rfl : j = i := by omega
                  exact HF.out), G2, A2, W2, R2⟩
              case measure => simp [intOf]; omega
            · have t9 : (C9 != 0) = true := by simpa using h9
              have HZ := Lib.hid (fs_at (code := mcF qs ms) (lim := ql) (Nat.le_refl _) hlt HP.out (by rw [HF.out]; exact h9))
              clear h9
              obtain ⟨r0, r1, r2, r3⟩ := R2.out.two
              have lr := R2.out.lt
              have RR := (hb_set2 (n := .int .i64 C9) (d := .int .i64 i) R2.out)
              have FF := bw_far G2.out (by omega) (far2 w2 (w.heap.size + 1 + 1) (.int .i64 C9) (.int .i64 i))
              obtain ⟨y0, y1, _, _⟩ := RR.two
              go_wp2_with fail
              refine bodyPost_ret (v := .agg #[.int .i64 C9, .int .i64 i]) (by simp [results, Tryz.results16, go_sem, y0, y1]) rfl ⟨by rw [HR.out.1, HR.out.2, HZ.out.1, HZ.out.2, HF.out], FF⟩
        · obtain rfl : i = ql := by omega
          have t3 : decide ((i : Int) < i) = false := by simp
          have HZ := Lib.hid (fs_ok (code := mcF qs ms) (lim := i) (Nat.le_refl _) HP.out)
          have RR := (hb_set2 (n := .int .i64 0) (d := .int .i64 0) HR1.out)
          have FF := bw_far HB1.out (by omega) (far2 wr (w.heap.size + 1 + 1) (.int .i64 0) (.int .i64 0))
          obtain ⟨y0, y1, _, _⟩ := RR.two
          go_wp2_with fail
          refine bodyPost_ret (v := .agg #[.int .i64 0, .int .i64 0]) (by simp [results, Tryz.results16, go_sem, y0, y1]) rfl ⟨by rw [HR.out.1, HR.out.2, HZ.out.1, HZ.out.2], FF⟩
    · have HR : Hid (rC = 9 ∧ rA = 0) := Lib.hid (by
        have := HE2.out
        rw [if_neg hm, if_neg hm] at this
        exact this)
      have t9 : ((ms.length : Int) != qs.length) = true := by simp; omega
      clear HE2 HDC hm
      generalize qs.length = ql at *
      generalize ms.length = ml at *
      go_enter Tryz.func16, Tryz.ntmps16
      go_wp2_with fail
      refine (K1.out _ B0.out).mono ?_
      rintro e w1 ⟨S, sc, rfl, _, _, _, hb1⟩
      have F1 := Lib.hid (new_below w1 (.cells #[.int .i64 0, .int .i64 0] 32))
      have B1 : Hid (Below w.heap.size w (w1.alloc (.cells #[.int .i64 0, .int .i64 0] 32))) := Lib.hid (below_after (below_after B0.out hb1) F1.out)
      have NA1 := Lib.hid ((NA0.out.below hb1).below F1.out)
      have NW1 := Lib.hid ((NW0.out.below hb1).below F1.out)
      have NR1 := Lib.hid ((NR0.out.below hb1).below F1.out)
      clear hb1 B0 NA0 NW0 NR0 K1 F1
      obtain ⟨a0, a1, a2, _⟩ := NA1.out.three
      obtain ⟨w0, _⟩ := NW1.out.one
      obtain ⟨r0, r1, r2, r3⟩ := NR1.out.two
      have la := NA1.out.lt
      have lw := NW1.out.lt
      have lr := NR1.out.lt
      have RR := hb_set2 (n := .int .i64 9) (d := .int .i64 0) NR1.out
      have FF := bw_far B1.out (by omega) (far2 _ (w.heap.size + 1 + 1) (.int .i64 9) (.int .i64 0))
      obtain ⟨y0, y1, _, _⟩ := RR.two
      go_wp2_with fail
      refine bodyPost_ret (v := .agg #[.int .i64 9, .int .i64 0]) (by simp [results, Tryz.results16, go_sem, y0, y1]) rfl ⟨by rw [HR.out.1, HR.out.2], FF⟩
  · have tC : (C == 0) = false := by simpa using hC
    have HR : Hid (rC = C ∧ rA = A) := Lib.hid (by
      have := HE.out
      rw [if_neg hC, if_neg hC] at this
      exact this)
    clear HE HAK hC
    generalize qs.length = ql at *
    generalize ms.length = ml at *
    go_enter Tryz.func16, Tryz.ntmps16
    go_wp2_with fail
    refine (K1.out _ B0.out).mono ?_
    rintro e w1 ⟨S, sc, rfl, _, _, _, hb1⟩
    have B1 : Hid (Below w.heap.size w (w1.alloc (.cells #[.int .i64 C, .int .i64 A] 32))) := Lib.hid (below_after (below_after B0.out hb1) (new_below _ _))
    have NR1 := Lib.hid ((NR0.out.below hb1).alloc (.cells #[.int .i64 C, .int .i64 A] 32))
    clear hb1 B0 NA0 NW0 NR0 K1
    obtain ⟨r0, r1, r2, r3⟩ := NR1.out.two
    have lr := NR1.out.lt
    have RR := hb_set2 (n := .int .i64 C) (d := .int .i64 A) NR1.out
    have FF := bw_far B1.out (by omega) (far2 _ (w.heap.size + 1 + 1) (.int .i64 C) (.int .i64 A))
    obtain ⟨y0, y1, _, _⟩ := RR.two
    go_wp2_with fail
    refine bodyPost_ret (v := .agg #[.int .i64 C, .int .i64 A]) (by simp [results, Tryz.results16, go_sem, y0, y1]) rfl ⟨by rw [HR.out.1, HR.out.2], FF⟩
end Go.Proofs.YtaodebpogibimaaGreat
