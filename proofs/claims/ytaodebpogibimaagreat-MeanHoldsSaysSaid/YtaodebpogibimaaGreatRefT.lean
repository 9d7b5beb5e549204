/-
  The reference's value of a node: the operations on words.
-/
import Derived.Test.YtaodebpogibimaaGreatRefK
import Derived.Test.YtaodebpogibimaaGreatG00
import Derived.Test.YtaodebpogibimaaGreatRefO
namespace Go.Proofs.YtaodebpogibimaaGreat
open Go.RowKit

/-- A number, an operation and its number in memory. -/
@[reducible] def SfT (b o g : Nat) (x0 x1 x2 : Value) (W : World) : Prop := W.cell? ⟨b, o, none⟩ = some x0 ∧ W.cell? ⟨g, 0, none⟩ = some x1 ∧ W.cell? ⟨g, 2, none⟩ = some x2
set_option maxRecDepth 100000 in
set_option maxHeartbeats 8000000 in
theorem valueof_word (sa sn sh sm nk : Value) (N D sort : Int) (nm : ByteArray) (Av : Option Addr) (vc : Nat) (kids : List Vl) (hk : kids.length ≤ 1000) (op : Int) (ho : op = 16 ∨ op = 17 ∨ op = 18 ∨ op = 19 ∨ op = 20 ∨ op = 21 ∨ op = 23) (h1 : 1 ≤ kids.length) (r : Int) (hw : ∀ W, Calls Tryz.prog 55 #[.int .i64 op, .int .i64 (wBits sort), .int .i64 (vn kids 0).num, .int .i64 (if 1 < kids.length then (vn kids 1).num else 0), .int .i64 N] W fun e w' => e = .returned (.int .i64 r) ∧ Below W.heap.size W w') (w : World) (hv : VsAt w Av kids) :
    Calls Tryz.prog 18 #[.agg #[sa, sn, sh], .agg #[sm], .agg #[.int .i64 op, nk, .int .i64 N, .int .i64 D, .string nm], .int .i64 sort, .slice Av kids.length vc] w fun e w' => e = .returned (.tuple #[.agg #[.int .i64 r, .int .i64 1, .slice none 0 0, .int .i64 0], .bool true]) ∧ Below w.heap.size w w' := by
  have HM := Lib.hid (vo_new w sa sn sh sm nk op N D nm)
  have HV := Lib.hid hv
  have HY := Lib.hid (fun i (h : i < kids.length) => yesN_step h)
  have HYL := Lib.hid (fun i => yesN_le kids i)
  have HY0 : Hid (yesN kids 0 = 0) := Lib.hid (by simp [yesN])
  clear hv
  generalize yesN kids = Y at *
  generalize hL : kids.length = L at *
  have HL := Lib.hid hL
  clear hL
  have HW := Lib.hid hw
  clear hw
  have u9 : (op == 9) = false := by rcases ho with h | h | h | h | h | h | h <;> (rw [h]; rfl)
  have u1 : (op == 1) = false := by rcases ho with h | h | h | h | h | h | h <;> (rw [h]; rfl)
  have u2 : (op == 2) = false := by rcases ho with h | h | h | h | h | h | h <;> (rw [h]; rfl)
  have u3 : (op == 3) = false := by rcases ho with h | h | h | h | h | h | h <;> (rw [h]; rfl)
  have u4 : (op == 4) = false := by rcases ho with h | h | h | h | h | h | h <;> (rw [h]; rfl)
  have u5 : (op == 5) = false := by rcases ho with h | h | h | h | h | h | h <;> (rw [h]; rfl)
  have u6 : (op == 6) = false := by rcases ho with h | h | h | h | h | h | h <;> (rw [h]; rfl)
  have u8 : (op == 8) = false := by rcases ho with h | h | h | h | h | h | h <;> (rw [h]; rfl)
  have u7 : (op == 7) = false := by rcases ho with h | h | h | h | h | h | h <;> (rw [h]; rfl)
  have u10 : (op == 10) = false := by rcases ho with h | h | h | h | h | h | h <;> (rw [h]; rfl)
  have u11 : (op == 11) = false := by rcases ho with h | h | h | h | h | h | h <;> (rw [h]; rfl)
  have u12 : (op == 12) = false := by rcases ho with h | h | h | h | h | h | h <;> (rw [h]; rfl)
  have u13 : (op == 13) = false := by rcases ho with h | h | h | h | h | h | h <;> (rw [h]; rfl)
  have u22 : (op == 22) = false := by rcases ho with h | h | h | h | h | h | h <;> (rw [h]; rfl)
  have u14 : (op == 14) = false := by rcases ho with h | h | h | h | h | h | h <;> (rw [h]; rfl)
  have u15 : (op == 15) = false := by rcases ho with h | h | h | h | h | h | h <;> (rw [h]; rfl)
  have u24 : (op == 24) = false := by rcases ho with h | h | h | h | h | h | h <;> (rw [h]; rfl)
  have u25 : (op == 25) = false := by rcases ho with h | h | h | h | h | h | h <;> (rw [h]; rfl)
  clear ho
  go_enter Tryz.func18, Tryz.ntmps18
  go_wp2_with fail
  go_loopw [16, 17] (fun y k wr => ∃ i : Nat, i ≤ L ∧ k = .int .i64 i ∧ y = .int .i64 (Y i) ∧ Hid (VoM w sa sn sh sm nk op N D nm wr)) (fun _ k _ => L - (intOf k).toNat)
  case atStart => exact ⟨0, by omega, rfl, by rw [HY0.out]; rfl, HM⟩
  case round =>
    clear HM
    obtain ⟨i, hi, rfl, rfl, HM⟩ := hrel
    by_cases hlt : i < L
    · have t3 : decide ((i : Int) < L) = true := by simpa using hlt
      have l0 : (i : Int) < L := by omega
      obtain ⟨b, o, rfl, lb, a0, -⟩ := vs_at (i := i) (HV.out.below HM.out.b) (by rw [HL.out]; exact hlt)
      simp only [Nat.add_zero] at a0
      have HS := Lib.hid (HY.out i hlt)
      have hyl := HYL.out i
      by_cases hn : (vn kids i).num = 1
      · have HS2 : Hid (Y (i + 1) = Y i + 1) := Lib.hid (by rw [HS.out, if_pos hn])
        rw [hn] at a0
        clear hn
        go_wp2_with fail
        go_round
        case rel => exact ⟨i + 1, by omega, by go_num, by rw [HS2.out]; go_num, HM⟩
        case measure => simp [intOf]; omega
      · have HS2 : Hid (Y (i + 1) = Y i) := Lib.hid (by rw [HS.out, if_neg hn])
        have tn : ((vn kids i).num == 1) = false := by simpa using hn
        clear hn
        generalize (vn kids i).num = q at *
        go_wp2_with fail
        go_round
        case rel => exact ⟨i + 1, by omega, by go_num, by rw [HS2.out], HM⟩
        case measure => simp [intOf]; omega
    · obtain rfl : i = L := by omega
      have t3 : decide ((i : Int) < i) = false := by simp
      obtain ⟨n0, n1, n2, n3, n4⟩ := HM.out.n.five
      by_cases h5 : 1 < i
      · skip
        obtain ⟨b0, o0, hA0, lbw, HIN⟩ := vs_blk HV.out (by rw [HL.out]; omega)
        have lb0 : b0 < wr.heap.size := Nat.lt_of_lt_of_le lbw HM.out.b.size
        subst hA0
        have d00 : wr.cell? ⟨b0, o0, none⟩ = some (.int .i64 (vn kids 0).num) := (HM.out.b.cell (p := ⟨b0, o0, none⟩) lbw).trans (HIN 0 (by rw [HL.out]; omega)).1
        have d10 : wr.cell? ⟨b0, o0 + 4, none⟩ = some (.int .i64 (vn kids 1).num) := (HM.out.b.cell (p := ⟨b0, o0 + 4, none⟩) lbw).trans (HIN 1 (by rw [HL.out]; omega)).1
        have t5 : decide ((1 : Int) < i) = true := by simp; omega
        have l4 : 1 < i := by omega
        have l6 : (1 : Int) < i := by omega
        have XO : Hid (∀ W, Calls Tryz.prog 55 #[.int .i64 op, .int .i64 (wBits sort), .int .i64 (vn kids 0).num, .int .i64 (vn kids 1).num, .int .i64 N] W fun e w' => e = .returned (.int .i64 r) ∧ Below W.heap.size W w') := Lib.hid (fun W => by have := HW.out W; rw [if_pos (by omega)] at this; exact this)
        generalize (vn kids 1).num = x10 at *
        have l3 : 0 < i := by omega
        have l5 : (0 : Int) < i := by omega
        have XB : Hid (∀ W, Calls Tryz.prog 56 #[.int .i64 sort] W fun e w' => e = .returned (.int .i64 (wBits sort)) ∧ W = w') := Lib.hid (fun W => wordbits_any sort W)
        have XW : Hid (∀ W, Calls Tryz.prog 52 #[.int .i64 r] W fun e w' => e = .returned (.agg #[.int .i64 r, .int .i64 1, .slice none 0 0, .int .i64 0]) ∧ Below W.heap.size W w') := Lib.hid (fun W => wholevalue_any r W)
        clear HIN HW
        generalize (vn kids 0).num = x00 at *
        generalize wBits sort = wb at *
        go_upto_region 66 with fail
        have ln : w.heap.size + 1 + 1 < wr.heap.size := HM.out.n.lt
        have KG : Hid (∀ W, Below wr.heap.size wr W → SfT b0 o0 (w.heap.size + 1 + 1) (.int .i64 x00) (.int .i64 op) (.int .i64 N) W) := Lib.hid (fun W k => ⟨(k.cell (p := ⟨b0, o0, none⟩) lb0).trans d00, (k.cell (p := ⟨w.heap.size + 1 + 1, 0, none⟩) ln).trans n0, (k.cell (p := ⟨w.heap.size + 1 + 1, 2, none⟩) ln).trans n2⟩)
        have DR2 := Lib.hid ((Below.refl wr.heap.size wr).drew)
        have KF : Hid (∀ W, Below wr.heap.size wr W → SfT b0 o0 (w.heap.size + 1 + 1) (.int .i64 x00) (.int .i64 op) (.int .i64 N) W ∧ ∀ u0 u1 u2 u3, SfT b0 o0 (w.heap.size + 1 + 1) (.int .i64 x00) (.int .i64 op) (.int .i64 N) ((((W.setCell ⟨w.heap.size + 1 + 1 + 1, 0, none⟩ u0).setCell ⟨w.heap.size + 1 + 1 + 1, 1, none⟩ u1).setCell ⟨w.heap.size + 1 + 1 + 1, 2, none⟩ u2).setCell ⟨w.heap.size + 1 + 1 + 1, 3, none⟩ u3)) := Lib.hid (fun W k => ⟨KG.out W k, fun u0 u1 u2 u3 => by
          have FB := (far4 W (w.heap.size + 1 + 1 + 1) u0 u1 u2 u3).block b0 (by omega)
          have FN := (far4 W (w.heap.size + 1 + 1 + 1) u0 u1 u2 u3).block (w.heap.size + 1 + 1) (by omega)
          obtain ⟨k0, k1, k2⟩ := KG.out W k
          exact ⟨(World.cell?_of_block FB).trans k0, (World.cell?_of_block FN).trans k1, (World.cell?_of_block FN).trans k2⟩⟩)
        clear d00 d10 n0 n1 n2 n3 n4
        go_region_held3 (fun W => SfT b0 o0 (w.heap.size + 1 + 1) (.int .i64 x00) (.int .i64 op) (.int .i64 N) W)
          ((first | (with_reducible exact KG.out _ DR2.out) | (with_reducible exact K0.out.1) | (with_reducible exact K1.out.1) | (with_reducible exact K1.out.2 _ _ _ _)))
          (first
            | (go_at_call 56; refine (XB.out _).mono ?_; rintro e w5 ⟨rfl, rfl⟩)
            | (go_at_call 55; go_must (refine (XO.out _).mono ?_); rintro e w7 ⟨rfl, hb0⟩; have F0 := Lib.hid (below_after DR2.out hb0); have K0 := Lib.hid (KF.out _ F0.out))
            | (go_at_call 52; go_must (refine (XW.out _).mono ?_); rintro e w8 ⟨rfl, hb1⟩; have F1 := Lib.hid (below_after F0.out hb1); have K1 := Lib.hid (KF.out _ F1.out); have M8 := Lib.hid (HM.out.below F1.out); obtain ⟨r0, r1, r2, r3, y0, y1, y2, y3⟩ := M8.out.r.four))
        all_goals
          have P := vo_res M8.out (.int .i64 r) (.int .i64 1) (.slice none 0 0) (.int .i64 0)
          obtain ⟨z0, z1, z2, z3, -⟩ := P.1.four
          have FIN := Lib.hid P.2
          clear P KG KF DR2 K0 K1 XO XW
          go_wp2_with fail
          exact bodyPost_ret (v := .tuple #[.agg #[.int .i64 r, .int .i64 1, .slice none 0 0, .int .i64 0], .bool true]) (by simp [results, Tryz.results18, go_sem, z0, z1, z2, z3]) rfl ⟨rfl, FIN.out⟩
      · skip
        obtain ⟨b0, o0, hA0, lbw, HIN⟩ := vs_blk HV.out (by rw [HL.out]; omega)
        have lb0 : b0 < wr.heap.size := Nat.lt_of_lt_of_le lbw HM.out.b.size
        subst hA0
        have d00 : wr.cell? ⟨b0, o0, none⟩ = some (.int .i64 (vn kids 0).num) := (HM.out.b.cell (p := ⟨b0, o0, none⟩) lbw).trans (HIN 0 (by rw [HL.out]; omega)).1
        have t5 : decide ((1 : Int) < i) = false := by simp; omega
        have XO : Hid (∀ W, Calls Tryz.prog 55 #[.int .i64 op, .int .i64 (wBits sort), .int .i64 (vn kids 0).num, .int .i64 0, .int .i64 N] W fun e w' => e = .returned (.int .i64 r) ∧ Below W.heap.size W w') := Lib.hid (fun W => by have := HW.out W; rw [if_neg (by omega)] at this; exact this)
        have l3 : 0 < i := by omega
        have l5 : (0 : Int) < i := by omega
        have XB : Hid (∀ W, Calls Tryz.prog 56 #[.int .i64 sort] W fun e w' => e = .returned (.int .i64 (wBits sort)) ∧ W = w') := Lib.hid (fun W => wordbits_any sort W)
        have XW : Hid (∀ W, Calls Tryz.prog 52 #[.int .i64 r] W fun e w' => e = .returned (.agg #[.int .i64 r, .int .i64 1, .slice none 0 0, .int .i64 0]) ∧ Below W.heap.size W w') := Lib.hid (fun W => wholevalue_any r W)
        clear HIN HW
        generalize (vn kids 0).num = x00 at *
        generalize wBits sort = wb at *
        go_upto_region 66 with fail
        have ln : w.heap.size + 1 + 1 < wr.heap.size := HM.out.n.lt
        have KG : Hid (∀ W, Below wr.heap.size wr W → SfT b0 o0 (w.heap.size + 1 + 1) (.int .i64 x00) (.int .i64 op) (.int .i64 N) W) := Lib.hid (fun W k => ⟨(k.cell (p := ⟨b0, o0, none⟩) lb0).trans d00, (k.cell (p := ⟨w.heap.size + 1 + 1, 0, none⟩) ln).trans n0, (k.cell (p := ⟨w.heap.size + 1 + 1, 2, none⟩) ln).trans n2⟩)
        have DR2 := Lib.hid ((Below.refl wr.heap.size wr).drew)
        have KF : Hid (∀ W, Below wr.heap.size wr W → SfT b0 o0 (w.heap.size + 1 + 1) (.int .i64 x00) (.int .i64 op) (.int .i64 N) W ∧ ∀ u0 u1 u2 u3, SfT b0 o0 (w.heap.size + 1 + 1) (.int .i64 x00) (.int .i64 op) (.int .i64 N) ((((W.setCell ⟨w.heap.size + 1 + 1 + 1, 0, none⟩ u0).setCell ⟨w.heap.size + 1 + 1 + 1, 1, none⟩ u1).setCell ⟨w.heap.size + 1 + 1 + 1, 2, none⟩ u2).setCell ⟨w.heap.size + 1 + 1 + 1, 3, none⟩ u3)) := Lib.hid (fun W k => ⟨KG.out W k, fun u0 u1 u2 u3 => by
          have FB := (far4 W (w.heap.size + 1 + 1 + 1) u0 u1 u2 u3).block b0 (by omega)
          have FN := (far4 W (w.heap.size + 1 + 1 + 1) u0 u1 u2 u3).block (w.heap.size + 1 + 1) (by omega)
          obtain ⟨k0, k1, k2⟩ := KG.out W k
          exact ⟨(World.cell?_of_block FB).trans k0, (World.cell?_of_block FN).trans k1, (World.cell?_of_block FN).trans k2⟩⟩)
        clear d00 n0 n1 n2 n3 n4
        go_region_held3 (fun W => SfT b0 o0 (w.heap.size + 1 + 1) (.int .i64 x00) (.int .i64 op) (.int .i64 N) W)
          ((first | (with_reducible exact KG.out _ DR2.out) | (with_reducible exact K0.out.1) | (with_reducible exact K1.out.1) | (with_reducible exact K1.out.2 _ _ _ _)))
          (first
            | (go_at_call 56; refine (XB.out _).mono ?_; rintro e w5 ⟨rfl, rfl⟩)
            | (go_at_call 55; go_must (refine (XO.out _).mono ?_); rintro e w7 ⟨rfl, hb0⟩; have F0 := Lib.hid (below_after DR2.out hb0); have K0 := Lib.hid (KF.out _ F0.out))
            | (go_at_call 52; go_must (refine (XW.out _).mono ?_); rintro e w8 ⟨rfl, hb1⟩; have F1 := Lib.hid (below_after F0.out hb1); have K1 := Lib.hid (KF.out _ F1.out); have M8 := Lib.hid (HM.out.below F1.out); obtain ⟨r0, r1, r2, r3, y0, y1, y2, y3⟩ := M8.out.r.four))
        all_goals
          have P := vo_res M8.out (.int .i64 r) (.int .i64 1) (.slice none 0 0) (.int .i64 0)
          obtain ⟨z0, z1, z2, z3, -⟩ := P.1.four
          have FIN := Lib.hid P.2
          clear P KG KF DR2 K0 K1 XO XW
          go_wp2_with fail
          exact bodyPost_ret (v := .tuple #[.agg #[.int .i64 r, .int .i64 1, .slice none 0 0, .int .i64 0], .bool true]) (by simp [results, Tryz.results18, go_sem, z0, z1, z2, z3]) rfl ⟨rfl, FIN.out⟩
end Go.Proofs.YtaodebpogibimaaGreat
