/-
  The reference's value of a node: putting into an array.
-/
import Derived.Test.YtaodebpogibimaaGreatRefK
import Derived.Test.YtaodebpogibimaaGreatRefG
import Derived.Test.YtaodebpogibimaaGreatG11
namespace Go.Proofs.YtaodebpogibimaaGreat
open Go.RowKit

/-- An array and two numbers in memory. -/
@[reducible] def SfS (b o : Nat) (x0 x1 x2 x3 x4 x5 : Value) (W : World) : Prop := W.cell? ⟨b, o, none⟩ = some x0 ∧ W.cell? ⟨b, o + 1, none⟩ = some x1 ∧ W.cell? ⟨b, o + 2, none⟩ = some x2 ∧ W.cell? ⟨b, o + 3, none⟩ = some x3 ∧ W.cell? ⟨b, o + 4, none⟩ = some x4 ∧ W.cell? ⟨b, o + 8, none⟩ = some x5
set_option maxRecDepth 100000 in
set_option maxHeartbeats 8000000 in
theorem valueof_25 (sa sn sh sm nk : Value) (N D sort : Int) (nm : ByteArray) (Av : Option Addr) (vc : Nat) (kids : List Vl) (hk : kids.length ≤ 1000) (h2 : 3 ≤ kids.length) (hcl : (vn kids 0).cells.length ≤ 2000) (hso : (vn kids 0).cells.Pairwise (fun a b => a.1 < b.1)) (w : World) (hv : VsAt w Av kids) :
    Calls Tryz.prog 18 #[.agg #[sa, sn, sh], .agg #[sm], .agg #[.int .i64 25, nk, .int .i64 N, .int .i64 D, .string nm], .int .i64 sort, .slice Av kids.length vc] w (RvK (fun w' A c => w'.ownsRow w.heap.size 96 2 (.slice A (putF (vn kids 0) (vn kids 1).num (vn kids 2).num).cells.length c) (putF (vn kids 0) (vn kids 1).num (vn kids 2).num).cells.length (csV (putF (vn kids 0) (vn kids 1).num (vn kids 2).num).cells)) (putF (vn kids 0) (vn kids 1).num (vn kids 2).num) w) := by
  have HM := Lib.hid (vo_new w sa sn sh sm nk 25 N D nm)
  have HV := Lib.hid hv
  have HY := Lib.hid (fun i (h : i < kids.length) => yesN_step h)
  have HYL := Lib.hid (fun i => yesN_le kids i)
  have HY0 : Hid (yesN kids 0 = 0) := Lib.hid (by simp [yesN])
  clear hv
  generalize yesN kids = Y at *
  generalize hL : kids.length = L at *
  have HL := Lib.hid hL
  clear hL
  generalize hx : putF (vn kids 0) (vn kids 1).num (vn kids 2).num = q at *
  have HX := Lib.hid hx
  have HSO := Lib.hid hso
  clear hx hso
  unfold RvK
  go_enter Tryz.func18, Tryz.ntmps18
  go_wp2_with fail
  go_loopw [16, 17] (fun y k wr => ∃ i : Nat, i ≤ L ∧ k = .int .i64 i ∧ y = .int .i64 (Y i) ∧ Hid (VoM w sa sn sh sm nk 25 N D nm wr)) (fun _ k _ => L - (intOf k).toNat)
  case atStart => exact ⟨0, by omega, rfl, by rw [HY0.out]; rfl, HM⟩
  case round =>
    clear HM
    obtain ⟨i, hi, rfl, rfl, HM⟩ := hrel
    by_cases hlt : i < L
    · have t3 : decide ((i : Int) < L) = true := by simpa using hlt
      have l0 : (i : Int) < L := by omega
      obtain ⟨b, o, rfl, lb, a0, -⟩ := vs_at (i := i) (HV.out.below HM.out.b) (by rw [HL.out]; exact hlt)
      simp only [Nat.add_zero] at a0
      have HS := Lib.hid (HY.out i hlt)
      have hyl := HYL.out i
      by_cases hn : (vn kids i).num = 1
      · have HS2 : Hid (Y (i + 1) = Y i + 1) := Lib.hid (by rw [HS.out, if_pos hn])
        rw [hn] at a0
        clear hn
        go_wp2_with fail
        go_round
        case rel => exact ⟨i + 1, by omega, by go_num, by rw [HS2.out]; go_num, HM⟩
        case measure => simp [intOf]; omega
      · have HS2 : Hid (Y (i + 1) = Y i) := Lib.hid (by rw [HS.out, if_neg hn])
        have tn : ((vn kids i).num == 1) = false := by simpa using hn
        clear hn
        generalize (vn kids i).num = q at *
        go_wp2_with fail
        go_round
        case rel => exact ⟨i + 1, by omega, by go_num, by rw [HS2.out], HM⟩
        case measure => simp [intOf]; omega
    · obtain rfl : i = L := by omega
      have t3 : decide ((i : Int) < i) = false := by simp
      obtain ⟨n0, n1, n2, n3, n4⟩ := HM.out.n.five
      obtain ⟨b0, o0, hA0, lbw, HIN⟩ := vs_blk HV.out (by rw [HL.out]; omega)
      have lb0 : b0 < wr.heap.size := Nat.lt_of_lt_of_le lbw HM.out.b.size
      subst hA0
      obtain ⟨d00, d01, d03, A0, c0, d02, lc0, mc0, HC0⟩ := (HIN 0 (by rw [HL.out]; omega)).below HM.out.b lbw
      obtain ⟨d10, d11, -⟩ := (HIN 1 (by rw [HL.out]; omega)).below HM.out.b lbw
      obtain ⟨d20, d21, -⟩ := (HIN 2 (by rw [HL.out]; omega)).below HM.out.b lbw
      clear HIN
      simp only [Nat.add_zero, Nat.zero_mul, Nat.one_mul, Nat.zero_add] at d00 d01 d02 d03 d10 d11 d20 d21
      have XC : Hid (∀ W, Below wr.heap.size wr W → Calls Tryz.prog 54 #[.agg #[.int .i64 (vn kids 0).num, .int .i64 (vn kids 0).den, .slice A0 (vn kids 0).cells.length c0, .int .i64 (vn kids 0).rest], .int .i64 (vn kids 1).num, .int .i64 (vn kids 2).num] W (ValQ q W)) := Lib.hid (fun W k => by rw [← HX.out]; exact putcell_any (vn kids 0) A0 c0 (vn kids 1).num (vn kids 2).num (by omega) HSO.out W (HC0.below k))
      clear HC0 HSO HX
      unfold ValQ at XC
      generalize (vn kids 0).rest = x03 at *
      generalize (vn kids 0).cells.length = n00 at *
      generalize (vn kids 0).num = x00 at *
      generalize (vn kids 0).den = x01 at *
      generalize (vn kids 1).num = x10 at *
      generalize (vn kids 1).den = x11 at *
      generalize (vn kids 2).num = x20 at *
      generalize (vn kids 2).den = x21 at *
      go_upto_region 62 with fail
      have ln : w.heap.size + 1 + 1 < wr.heap.size := HM.out.n.lt
      have KG : Hid (∀ W, Below wr.heap.size wr W → SfS b0 o0 (.int .i64 x00) (.int .i64 x01) (.slice A0 n00 c0) (.int .i64 x03) (.int .i64 x10) (.int .i64 x20) W) := Lib.hid (fun W k => ⟨(k.cell (p := ⟨b0, o0, none⟩) lb0).trans d00, (k.cell (p := ⟨b0, o0 + 1, none⟩) lb0).trans d01, (k.cell (p := ⟨b0, o0 + 2, none⟩) lb0).trans d02, (k.cell (p := ⟨b0, o0 + 3, none⟩) lb0).trans d03, (k.cell (p := ⟨b0, o0 + 4, none⟩) lb0).trans d10, (k.cell (p := ⟨b0, o0 + 8, none⟩) lb0).trans d20⟩)
      have DR2 := Lib.hid ((Below.refl wr.heap.size wr).drew)
      have KF : Hid (∀ W, Below wr.heap.size wr W → SfS b0 o0 (.int .i64 x00) (.int .i64 x01) (.slice A0 n00 c0) (.int .i64 x03) (.int .i64 x10) (.int .i64 x20) W ∧ ∀ u0 u1 u2 u3, SfS b0 o0 (.int .i64 x00) (.int .i64 x01) (.slice A0 n00 c0) (.int .i64 x03) (.int .i64 x10) (.int .i64 x20) ((((W.setCell ⟨w.heap.size + 1 + 1 + 1, 0, none⟩ u0).setCell ⟨w.heap.size + 1 + 1 + 1, 1, none⟩ u1).setCell ⟨w.heap.size + 1 + 1 + 1, 2, none⟩ u2).setCell ⟨w.heap.size + 1 + 1 + 1, 3, none⟩ u3)) := Lib.hid (fun W k => ⟨KG.out W k, fun u0 u1 u2 u3 => by
        have FB := (far4 W (w.heap.size + 1 + 1 + 1) u0 u1 u2 u3).block b0 (by omega)
        obtain ⟨k0, k1, k2, k3, k4, k5⟩ := KG.out W k
        exact ⟨(World.cell?_of_block FB).trans k0, (World.cell?_of_block FB).trans k1, (World.cell?_of_block FB).trans k2, (World.cell?_of_block FB).trans k3, (World.cell?_of_block FB).trans k4, (World.cell?_of_block FB).trans k5⟩⟩)
      have l2 : 3 ≤ i := h2
      have l3 : 0 < i := by omega
      have l4 : 1 < i := by omega
      have l5 : (0 : Int) < i := by omega
      have l6 : (1 : Int) < i := by omega
      have l7 : 2 < i := by omega
      have l8 : (2 : Int) < i := by omega
      clear d00 d01 d02 d03 d10 d11 d20 d21 n0 n1 n2 n3 n4
      go_region_held3 (fun W => SfS b0 o0 (.int .i64 x00) (.int .i64 x01) (.slice A0 n00 c0) (.int .i64 x03) (.int .i64 x10) (.int .i64 x20) W)
        ((first | (with_reducible exact KG.out _ DR2.out) | (with_reducible exact K0.out.1) | (with_reducible exact K0.out.2 _ _ _ _)))
        (first
          | (go_at_call 54; go_must (refine (XC.out _ DR2.out).mono ?_); rintro e w7 ⟨A5, c5, rfl, ho5, hb0⟩; have F0 := Lib.hid (below_after DR2.out hb0); have K0 := Lib.hid (KF.out _ F0.out); have M8 := Lib.hid (HM.out.below F0.out); obtain ⟨r0, r1, r2, r3, y0, y1, y2, y3⟩ := M8.out.r.four))
      all_goals
        have P := vo_res M8.out (.int .i64 q.num) (.int .i64 q.den) (.slice A5 q.cells.length c5) (.int .i64 q.rest)
        obtain ⟨z0, z1, z2, z3, -⟩ := P.1.four
        have FIN := Lib.hid P.2
        have OW := Lib.hid (own_far ho5.out (own_ne ho5.out M8.out.r (by decide)) (far4 _ (w.heap.size + 1 + 1 + 1) (.int .i64 q.num) (.int .i64 q.den) (.slice A5 q.cells.length c5) (.int .i64 q.rest)))
        clear P KG KF DR2 K0 XC
        go_wp2_with fail
        exact bodyPost_ret (v := .tuple #[.agg #[.int .i64 q.num, .int .i64 q.den, .slice A5 q.cells.length c5, .int .i64 q.rest], .bool true]) (by simp [results, Tryz.results18, go_sem, z0, z1, z2, z3]) rfl ⟨A5, c5, rfl, (own_cap2 OW.out).1, (own_cap2 OW.out).2, own_base OW.out HM.out.b.size, FIN.out⟩
end Go.Proofs.YtaodebpogibimaaGreat
