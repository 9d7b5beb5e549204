/-
  The reference's value of a node: the order of two fractions.
-/
import Derived.Test.YtaodebpogibimaaGreatRefK
import Derived.Test.YtaodebpogibimaaGreatG09
namespace Go.Proofs.YtaodebpogibimaaGreat
open Go.RowKit

/-- What valueOf yields: a value, its cells in memory. -/
def RvQ (q : Vl) (w : World) (e : Ending) (w' : World) : Prop := ∃ A c, e = .returned (.tuple #[.agg #[.int .i64 q.num, .int .i64 q.den, .slice A q.cells.length c, .int .i64 q.rest], .bool true]) ∧ q.cells.length ≤ c ∧ c ≤ maxLen ∧ CsAt w' A q.cells ∧ Below w.heap.size w w'
theorem vs_blk {w : World} {A : Option Addr} {kids : List Vl} (h : VsAt w A kids) (h0 : 0 < kids.length) : ∃ b o, A = some ⟨b, o, none⟩ ∧ b < w.heap.size ∧ ∀ i, i < kids.length → (vn kids i).In w b (o + i * 4) 0 := by
  obtain ⟨b, o, e, l, q⟩ := h h0
  exact ⟨b, o, e, l, fun i hi => q i _ (getD_of (l := kids) (d := default) hi)⟩
/-- Two fractions in memory. -/
@[reducible] def SfO (b o : Nat) (x0 x1 x2 x3 : Value) (W : World) : Prop := W.cell? ⟨b, o, none⟩ = some x0 ∧ W.cell? ⟨b, o + 1, none⟩ = some x1 ∧ W.cell? ⟨b, o + 4, none⟩ = some x2 ∧ W.cell? ⟨b, o + 5, none⟩ = some x3
set_option maxRecDepth 100000 in
set_option maxHeartbeats 8000000 in
theorem valueof_13 (sa sn sh sm nk : Value) (N D sort : Int) (nm : ByteArray) (Av : Option Addr) (vc : Nat) (kids : List Vl) (hk : kids.length ≤ 1000) (h2 : 2 ≤ kids.length) (hp0 : fvalid (vn kids 0).num (vn kids 0).den = true) (hp1 : fvalid (vn kids 1).num (vn kids 1).den = true) (w : World) (hv : VsAt w Av kids) :
    Calls Tryz.prog 18 #[.agg #[sa, sn, sh], .agg #[sm], .agg #[.int .i64 13, nk, .int .i64 N, .int .i64 D, .string nm], .int .i64 sort, .slice Av kids.length vc] w fun e w' => e = .returned (.tuple #[.agg #[.int .i64 (if (ltF ((vn kids 0).num, (vn kids 0).den) ((vn kids 1).num, (vn kids 1).den)) = true then 1 else 0), .int .i64 1, .slice none 0 0, .int .i64 0], .bool true]) ∧ Below w.heap.size w w' := by
  have HM := Lib.hid (vo_new w sa sn sh sm nk 13 N D nm)
  have HV := Lib.hid hv
  have HY := Lib.hid (fun i (h : i < kids.length) => yesN_step h)
  have HYL := Lib.hid (fun i => yesN_le kids i)
  have HY0 : Hid (yesN kids 0 = 0) := Lib.hid (by simp [yesN])
  clear hv
  generalize yesN kids = Y at *
  generalize hL : kids.length = L at *
  have HL := Lib.hid hL
  clear hL
  have XL : Hid (∀ W, Calls Tryz.prog 51 #[.agg #[.int .i64 (vn kids 0).num, .int .i64 (vn kids 0).den], .agg #[.int .i64 (vn kids 1).num, .int .i64 (vn kids 1).den]] W fun e w' => e = .returned (.bool (ltF ((vn kids 0).num, (vn kids 0).den) ((vn kids 1).num, (vn kids 1).den))) ∧ Below W.heap.size W w') := Lib.hid (fun W => lessR_any _ _ _ _ W hp0 hp1)
  generalize ltF ((vn kids 0).num, (vn kids 0).den) ((vn kids 1).num, (vn kids 1).den) = lt at *
  generalize hx : (if (lt) = true then (1 : Int) else 0) = x at *
  have XB : Hid (∀ W, Calls Tryz.prog 48 #[.bool (lt)] W fun e w' => e = .returned (.agg #[.int .i64 x, .int .i64 1, .slice none 0 0, .int .i64 0]) ∧ Below W.heap.size W w') := Lib.hid (fun W => by rw [← hx]; exact bitvalue_any _ W)
  clear hx hp0 hp1
  go_enter Tryz.func18, Tryz.ntmps18
  go_wp2_with fail
  go_loopw [16, 17] (fun y k wr => ∃ i : Nat, i ≤ L ∧ k = .int .i64 i ∧ y = .int .i64 (Y i) ∧ Hid (VoM w sa sn sh sm nk 13 N D nm wr)) (fun _ k _ => L - (intOf k).toNat)
  case atStart => exact ⟨0, by omega, rfl, by rw [HY0.out]; rfl, HM⟩
  case round =>
    clear HM
    obtain ⟨i, hi, rfl, rfl, HM⟩ := hrel
    by_cases hlt : i < L
    · have t3 : decide ((i : Int) < L) = true := by simpa using hlt
      have l0 : (i : Int) < L := by omega
      obtain ⟨b, o, rfl, lb, a0, -⟩ := vs_at (i := i) (HV.out.below HM.out.b) (by rw [HL.out]; exact hlt)
      simp only [Nat.add_zero] at a0
      have HS := Lib.hid (HY.out i hlt)
      have hyl := HYL.out i
      by_cases hn : (vn kids i).num = 1
      · have HS2 : Hid (Y (i + 1) = Y i + 1) := Lib.hid (by rw [HS.out, if_pos hn])
        rw [hn] at a0
        clear hn
        go_wp2_with fail
        go_round
        case rel => exact ⟨i + 1, by omega, by go_num, by rw [HS2.out]; go_num, HM⟩
        case measure => simp [intOf]; omega
      · have HS2 : Hid (Y (i + 1) = Y i) := Lib.hid (by rw [HS.out, if_neg hn])
        have tn : ((vn kids i).num == 1) = false := by simpa using hn
        clear hn
        generalize (vn kids i).num = q at *
        go_wp2_with fail
        go_round
        case rel => exact ⟨i + 1, by omega, by go_num, by rw [HS2.out], HM⟩
        case measure => simp [intOf]; omega
    · obtain rfl : i = L := by omega
      have t3 : decide ((i : Int) < i) = false := by simp
      obtain ⟨n0, n1, n2, n3, n4⟩ := HM.out.n.five
      obtain ⟨b0, o0, hA0, lbw, HIN⟩ := vs_blk HV.out (by rw [HL.out]; omega)
      have lb0 : b0 < wr.heap.size := Nat.lt_of_lt_of_le lbw HM.out.b.size
      subst hA0
      obtain ⟨d00, d01, -⟩ := (HIN 0 (by rw [HL.out]; omega)).below HM.out.b lbw
      obtain ⟨d10, d11, -⟩ := (HIN 1 (by rw [HL.out]; omega)).below HM.out.b lbw
      clear HIN
      simp only [Nat.add_zero, Nat.zero_mul, Nat.one_mul, Nat.zero_add] at d00 d01 d10 d11
      generalize (vn kids 0).num = x00 at *
      generalize (vn kids 0).den = x01 at *
      generalize (vn kids 1).num = x10 at *
      generalize (vn kids 1).den = x11 at *
      go_upto_region 54 with fail
      have ln : w.heap.size + 1 + 1 < wr.heap.size := HM.out.n.lt
      have KG : Hid (∀ W, Below wr.heap.size wr W → SfO b0 o0 (.int .i64 x00) (.int .i64 x01) (.int .i64 x10) (.int .i64 x11) W) := Lib.hid (fun W k => ⟨(k.cell (p := ⟨b0, o0, none⟩) lb0).trans d00, (k.cell (p := ⟨b0, o0 + 1, none⟩) lb0).trans d01, (k.cell (p := ⟨b0, o0 + 4, none⟩) lb0).trans d10, (k.cell (p := ⟨b0, o0 + 5, none⟩) lb0).trans d11⟩)
      have DR2 := Lib.hid ((Below.refl wr.heap.size wr).drew)
      have KF : Hid (∀ W, Below wr.heap.size wr W → SfO b0 o0 (.int .i64 x00) (.int .i64 x01) (.int .i64 x10) (.int .i64 x11) W ∧ ∀ u0 u1 u2 u3, SfO b0 o0 (.int .i64 x00) (.int .i64 x01) (.int .i64 x10) (.int .i64 x11) ((((W.setCell ⟨w.heap.size + 1 + 1 + 1, 0, none⟩ u0).setCell ⟨w.heap.size + 1 + 1 + 1, 1, none⟩ u1).setCell ⟨w.heap.size + 1 + 1 + 1, 2, none⟩ u2).setCell ⟨w.heap.size + 1 + 1 + 1, 3, none⟩ u3)) := Lib.hid (fun W k => ⟨KG.out W k, fun u0 u1 u2 u3 => by
        have FB := (far4 W (w.heap.size + 1 + 1 + 1) u0 u1 u2 u3).block b0 (by omega)
        obtain ⟨k0, k1, k2, k3⟩ := KG.out W k
        exact ⟨(World.cell?_of_block FB).trans k0, (World.cell?_of_block FB).trans k1, (World.cell?_of_block FB).trans k2, (World.cell?_of_block FB).trans k3⟩⟩)
      have l2 : 2 ≤ i := h2
      have l3 : 0 < i := by omega
      have l4 : 1 < i := by omega
      have l5 : (0 : Int) < i := by omega
      have l6 : (1 : Int) < i := by omega
      clear d00 d01 d10 d11 n0 n1 n2 n3 n4
      go_region_held3 (fun W => SfO b0 o0 (.int .i64 x00) (.int .i64 x01) (.int .i64 x10) (.int .i64 x11) W)
        ((first | (with_reducible exact KG.out _ DR2.out) | (with_reducible exact K0.out.1) | (with_reducible exact K1.out.1) | (with_reducible exact K1.out.2 _ _ _ _)))
        (first
          | (go_at_call 51; go_must (refine (XL.out _).mono ?_); rintro e w7 ⟨rfl, hb0⟩; have F0 := Lib.hid (below_after DR2.out hb0); have K0 := Lib.hid (KF.out _ F0.out))
          | (go_at_call 48; go_must (refine (XB.out _).mono ?_); rintro e w8 ⟨rfl, hb1⟩; have F1 := Lib.hid (below_after F0.out hb1); have K1 := Lib.hid (KF.out _ F1.out); have M8 := Lib.hid (HM.out.below F1.out); obtain ⟨r0, r1, r2, r3, y0, y1, y2, y3⟩ := M8.out.r.four))
      all_goals
        have P := vo_res M8.out (.int .i64 x) (.int .i64 1) (.slice none 0 0) (.int .i64 0)
        obtain ⟨z0, z1, z2, z3, -⟩ := P.1.four
        have FIN := Lib.hid P.2
        clear P KG KF DR2 K0 K1 XB XL
        go_wp2_with fail
        exact bodyPost_ret (v := .tuple #[.agg #[.int .i64 x, .int .i64 1, .slice none 0 0, .int .i64 0], .bool true]) (by simp [results, Tryz.results18, go_sem, z0, z1, z2, z3]) rfl ⟨rfl, FIN.out⟩
end Go.Proofs.YtaodebpogibimaaGreat
