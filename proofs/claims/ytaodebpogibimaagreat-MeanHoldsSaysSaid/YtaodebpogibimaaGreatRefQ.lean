/-
  The reference's value of a node: a sum.
-/
import Derived.Test.YtaodebpogibimaaGreatRefK
import Derived.Test.YtaodebpogibimaaGreatRefP
import Derived.Test.YtaodebpogibimaaGreatG11
namespace Go.Proofs.YtaodebpogibimaaGreat
open Go.RowKit

theorem vo_far {w0 W W' : World} {sa sn sh sm nk : Value} {op N D : Int} {nm : ByteArray} {g : Nat} (h : VoM w0 sa sn sh sm nk op N D nm W) (hg : w0.heap.size + 1 + 1 + 1 < g) (F : Far g W W') : VoM w0 sa sn sh sm nk op N D nm W' :=
  ⟨hb_far h.a (by omega) F, hb_far h.m (by omega) F, hb_far h.n (by omega) F, hb_far h.r (by omega) F, bw_far h.b (by omega) F⟩
/-- A fraction and a sum in memory. -/
@[reducible] def SfQ (b o g : Nat) (x0 x1 x2 x3 : Value) (W : World) : Prop := W.cell? ⟨b, o, none⟩ = some x0 ∧ W.cell? ⟨b, o + 1, none⟩ = some x1 ∧ W.cell? ⟨g, 0, none⟩ = some x2 ∧ W.cell? ⟨g, 1, none⟩ = some x3
set_option maxRecDepth 100000 in
set_option maxHeartbeats 8000000 in
theorem valueof_11 (sa sn sh sm nk : Value) (N D sort : Int) (nm : ByteArray) (Av : Option Addr) (vc : Nat) (kids : List Vl) (hk : kids.length ≤ 1000) (hvf : ∀ i, i < kids.length → fvalid (vn kids i).num (vn kids i).den = true) (w : World) (hv : VsAt w Av kids) :
    Calls Tryz.prog 18 #[.agg #[sa, sn, sh], .agg #[sm], .agg #[.int .i64 11, nk, .int .i64 N, .int .i64 D, .string nm], .int .i64 sort, .slice Av kids.length vc] w fun e w' => e = .returned (.tuple #[.agg #[.int .i64 (numF 11 N D (numsOf kids)).1.1, .int .i64 (numF 11 N D (numsOf kids)).1.2, .slice none 0 0, .int .i64 0], .bool ((numF 11 N D (numsOf kids)).2 == 0)]) ∧ Below w.heap.size w w' := by
  have HM := Lib.hid (vo_new w sa sn sh sm nk 11 N D nm)
  have HV := Lib.hid hv
  have HY := Lib.hid (fun i (h : i < kids.length) => yesN_step h)
  have HYL := Lib.hid (fun i => yesN_le kids i)
  have HY0 : Hid (yesN kids 0 = 0) := Lib.hid (by simp [yesN])
  clear hv
  generalize yesN kids = Y at *
  generalize hL : kids.length = L at *
  have HL := Lib.hid hL
  clear hL
  rw [show numF 11 N D (numsOf kids) = sumL (0, 1) ((numsOf kids).drop 0) from rfl]
  have HVF := Lib.hid hvf
  have V1 : Hid (fvalid 0 1 = true) := Lib.hid (by decide)
  have HSE : Hid (∀ p, sumL p ((numsOf kids).drop L) = (p, 0)) := Lib.hid (fun p => sumL_end p (by rw [numsOf_len, HL.out]; exact Nat.le_refl _))
  have HSS : Hid (∀ (p : Int × Int) (j : Nat), j < L → sumL p ((numsOf kids).drop j) = if madeC (p.1 * (vn kids j).den + (vn kids j).num * p.2) (p.2 * (vn kids j).den) = 0 then sumL (madeN (p.1 * (vn kids j).den + (vn kids j).num * p.2) (p.2 * (vn kids j).den), madeD (p.1 * (vn kids j).den + (vn kids j).num * p.2) (p.2 * (vn kids j).den)) ((numsOf kids).drop (j + 1)) else ((0, 0), 10)) := Lib.hid (fun p j hj => by
    have := sumL_step p (fs := numsOf kids) (i := j) (by rw [numsOf_len, HL.out]; exact hj)
    rw [cn_nums] at this
    exact this)
  generalize hr : sumL (0, 1) ((numsOf kids).drop 0) = R at *
  have HR := Lib.hid hr
  obtain ⟨⟨Rn, Rd⟩, Rc⟩ := R
  clear hr hvf
  go_enter Tryz.func18, Tryz.ntmps18
  go_wp2_with fail
  go_loopw [16, 17] (fun y k wr => ∃ i : Nat, i ≤ L ∧ k = .int .i64 i ∧ y = .int .i64 (Y i) ∧ Hid (VoM w sa sn sh sm nk 11 N D nm wr)) (fun _ k _ => L - (intOf k).toNat)
  case atStart => exact ⟨0, by omega, rfl, by rw [HY0.out]; rfl, HM⟩
  case round =>
    clear HM
    obtain ⟨i, hi, rfl, rfl, HM⟩ := hrel
    by_cases hlt : i < L
    · have t3 : decide ((i : Int) < L) = true := by simpa using hlt
      have l0 : (i : Int) < L := by omega
      obtain ⟨b, o, rfl, lb, a0, -⟩ := vs_at (i := i) (HV.out.below HM.out.b) (by rw [HL.out]; exact hlt)
      simp only [Nat.add_zero] at a0
      have HS := Lib.hid (HY.out i hlt)
      have hyl := HYL.out i
      by_cases hn : (vn kids i).num = 1
      · have HS2 : Hid (Y (i + 1) = Y i + 1) := Lib.hid (by rw [HS.out, if_pos hn])
        rw [hn] at a0
        clear hn
        go_wp2_with fail
        go_round
        case rel => exact ⟨i + 1, by omega, by go_num, by rw [HS2.out]; go_num, HM⟩
        case measure => simp [intOf]; omega
      · have HS2 : Hid (Y (i + 1) = Y i) := Lib.hid (by rw [HS.out, if_neg hn])
        have tn : ((vn kids i).num == 1) = false := by simpa using hn
        clear hn
        generalize (vn kids i).num = q at *
        go_wp2_with fail
        go_round
        case rel => exact ⟨i + 1, by omega, by go_num, by rw [HS2.out], HM⟩
        case measure => simp [intOf]; omega
    · obtain rfl : i = L := by omega
      have t3 : decide ((i : Int) < i) = false := by simp
      obtain ⟨n0, n1, n2, n3, n4⟩ := HM.out.n.five
      have SB : Hid (HB (wr.alloc (.cells #[.int .i64 0, .int .i64 1] 44)) wr.heap.size 44 #[.int .i64 0, .int .i64 1]) := Lib.hid (HB.new _ _ _)
      have HM1 := Lib.hid (HM.out.below (new_below wr (.cells #[.int .i64 0, .int .i64 1] 44)))
      have lr : w.heap.size + 1 + 1 + 1 < wr.heap.size := HM.out.r.lt
      obtain ⟨wo, hwo⟩ : ∃ wo, wo = wr := ⟨wr, rfl⟩
      subst hwo
      go_wp2_with fail
      go_loopw [19] (fun k wr => ∃ (j : Nat) (p : Int × Int), j ≤ i ∧ k = .int .i64 j ∧ Hid (sumL p ((numsOf kids).drop j) = ((Rn, Rd), Rc)) ∧ Hid (fvalid p.1 p.2 = true) ∧ Hid (HB wr wo.heap.size 44 #[.int .i64 p.1, .int .i64 p.2]) ∧ Hid (VoM w sa sn sh sm nk 11 N D nm wr)) (fun k _ => i - (intOf k).toNat)
      case atStart => exact ⟨0, (0, 1), by omega, rfl, HR, V1, SB, HM1⟩
      case round =>
        clear HR V1 SB HM1 n0 n1 n2 n3 n4
        obtain ⟨j, p, hj, rfl, HS, HP, HQ, HM2⟩ := hrel
        obtain ⟨x0, x1, xf0, xf1⟩ := HQ.out.two
        by_cases hlt : j < i
        · have t5 : decide ((j : Int) < i) = true := by simpa using hlt
          have l0 : (j : Int) < i := by omega
          obtain ⟨b, o, rfl, lb, a0, a1, -⟩ := vs_at (i := j) (HV.out.below HM2.out.b) (by rw [HL.out]; exact hlt)
          simp only [Nat.add_zero, Nat.zero_add] at a0 a1
          have vq := HVF.out j hlt
          have HS2 := Lib.hid ((HSS.out p j hlt).symm.trans HS.out)
          generalize (vn kids j).num = q0 at *
          generalize (vn kids j).den = q1 at *
          have lq : wo.heap.size < wr.heap.size := HQ.out.lt
          have HT := Lib.hid (fun W => addR_any p.1 p.2 q0 q1 W HP.out vq)
          have HD : Hid (p.2 * q1 ≠ 0) := Lib.hid (by
            have a1 := fvalid_bd HP.out
            have a2 := fvalid_bd vq
            exact fun z => by
              rcases Int.mul_eq_zero.1 z with z | z <;> omega)
          have HMS : Hid (∀ c0, madeC (p.1 * q1 + q0 * p.2) (p.2 * q1) = c0 → c0 = 0 ∧ fvalid (madeN (p.1 * q1 + q0 * p.2) (p.2 * q1)) (madeD (p.1 * q1 + q0 * p.2) (p.2 * q1)) = true ∨ c0 ≠ 0) := Lib.hid (fun c0 hc => by
            by_cases z : c0 = 0
            · exact .inl ⟨z, (made_spec HD.out (hc.trans z)).1⟩
            · exact .inr z)
          generalize madeN (p.1 * q1 + q0 * p.2) (p.2 * q1) = mN at *
          generalize madeD (p.1 * q1 + q0 * p.2) (p.2 * q1) = mD at *
          generalize madeC (p.1 * q1 + q0 * p.2) (p.2 * q1) = mC at *
          obtain ⟨pn, pd⟩ := p
          dsimp only at x0 x1 HT HQ
          go_upto_region 44 with fail
          have KG : Hid (∀ W, Below wr.heap.size wr W → SfQ b (o + j * 4) wo.heap.size (.int .i64 q0) (.int .i64 q1) (.int .i64 pn) (.int .i64 pd) W) := Lib.hid (fun W k => ⟨(k.cell (p := ⟨b, o + j * 4, none⟩) lb).trans a0, (k.cell (p := ⟨b, o + j * 4 + 1, none⟩) lb).trans a1, (k.cell (p := ⟨wo.heap.size, 0, none⟩) lq).trans x0, (k.cell (p := ⟨wo.heap.size, 1, none⟩) lq).trans x1⟩)
          clear a0 a1 x0 x1 xf0 xf1 vq
          go_cut [20, 21] (FrQ wr (.int .i64 mN) (.int .i64 mD) (mC == 0))
          case first =>
            go_region_held3 (fun W => SfQ b (o + j * 4) wo.heap.size (.int .i64 q0) (.int .i64 q1) (.int .i64 pn) (.int .i64 pd) W)
              ((first | (refine KG.out _ ?_; go_grown; done) | (with_reducible exact KG.out _ G5.out) | (refine KG.out _ (bw_below (Nat.le_refl _) G5.out (new_below _ _)); done) | (refine KG.out _ (bw_far G5.out (Nat.le_refl _) (far2 _ _ _ _)); done)))
              (first
                | (go_at_call 49; refine (HT.out _).mono ?_; rintro e w5 ⟨rfl, hb5⟩; have G5 : Hid (Below wr.heap.size wr w5) := Lib.hid (below_after (show Below wr.heap.size wr _ by go_grown) hb5); (first | (with_reducible have Q5 := fr_new hb5; obtain ⟨⟨R5, p0, p1, p2, p3⟩, n1', n2'⟩ := Q5) | skip); clear hb5))
            all_goals
              go_wp2_with fail
              go_meet
              case rel =>
                first
                | (with_reducible exact frq1 G5.out)
                | (with_reducible exact frq2 G5.out R5.out (Nat.le_refl _))
          case rest =>
            obtain ⟨g, rfl, rfl, HF, HB9⟩ := hcut
            have HMc := Lib.hid (HM2.out.below HB9.out)
            have HQc := Lib.hid (HQ.out.below HB9.out)
            obtain ⟨f0, f1, -⟩ := HF.out.two
            obtain ⟨x0, x1, xf0, xf1⟩ := HQc.out.two
            clear KG HT
            rcases HMS.out _ rfl with ⟨hz, hvz⟩ | hz
            · subst hz
              have VZ := Lib.hid hvz
              have HQ2 := Lib.hid (hb_set2 (n := .int .i64 mN) (d := .int .i64 mD) HQc.out)
              have HM3 := Lib.hid (vo_far HMc.out lr (far2 wc wo.heap.size (.int .i64 mN) (.int .i64 mD)))
              clear hvz HMS
              go_wp2_with fail
              go_round
              case rel => exact ⟨j + 1, (mN, mD), by omega, by go_num, Lib.hid (by simpa using HS2.out), VZ, HQ2, HM3⟩
              case measure => simp [intOf]; omega
            · have e := HS2.out
              rw [if_neg hz] at e
              injection e with e1 e2
              injection e1 with e1 e3
              subst e1 e2 e3
              have tz : (mC == 0) = false := by simpa using hz
              obtain ⟨r0, r1, r2, r3, y0, y1, y2, y3⟩ := HMc.out.r.four
              have P := vo_res HMc.out (.int .i64 0) (.int .i64 0) (.slice none 0 0) (.int .i64 0)
              obtain ⟨z0, z1, z2, z3, -⟩ := P.1.four
              have FIN := Lib.hid P.2
              clear P HMS hz HS HS2
              go_wp2_with fail
              exact bodyPost_ret (v := .tuple #[.agg #[.int .i64 0, .int .i64 0, .slice none 0 0, .int .i64 0], .bool false]) (by simp [results, Tryz.results18, go_sem, z0, z1, z2, z3]) rfl ⟨rfl, FIN.out⟩
        · obtain rfl : j = i := by omega
          have t5 : decide ((j : Int) < j) = false := by simp
          have e := (HSE.out p).symm.trans HS.out
          injection e with e1 e2
          subst e1 e2
          obtain ⟨r0, r1, r2, r3, y0, y1, y2, y3⟩ := HM2.out.r.four
          have P := vo_res HM2.out (.int .i64 Rn) (.int .i64 Rd) (.slice none 0 0) (.int .i64 0)
          obtain ⟨z0, z1, z2, z3, -⟩ := P.1.four
          have FIN := Lib.hid P.2
          clear P HS HSE HSS
          go_wp2_with fail
          exact bodyPost_ret (v := .tuple #[.agg #[.int .i64 Rn, .int .i64 Rd, .slice none 0 0, .int .i64 0], .bool true]) (by simp [results, Tryz.results18, go_sem, z0, z1, z2, z3]) rfl ⟨rfl, FIN.out⟩
end Go.Proofs.YtaodebpogibimaaGreat
