/-
  The reference's value of a node: constants of Bools, not, and, or.
-/
import Derived.Test.YtaodebpogibimaaGreatG08
import Derived.Test.YtaodebpogibimaaGreatG00
namespace Go.Proofs.YtaodebpogibimaaGreat
open Go.RowKit

/-- How many of the first kids are true. -/
def yesN (kids : List Vl) (i : Nat) : Nat := ((kids.take i).filter fun q => q.num == 1).length
theorem yesN_step {kids : List Vl} {i : Nat} (h : i < kids.length) : yesN kids (i + 1) = if (vn kids i).num = 1 then yesN kids i + 1 else yesN kids i := by
  unfold yesN
  rw [List.take_add_one, getD_of h (d := default)]
  have e : kids.getD i default = vn kids i := rfl
  rw [e, Option.toList_some, List.filter_append, List.length_append]
  by_cases z : (vn kids i).num = 1
  · rw [if_pos z]; simp [z]
  · rw [if_neg z]; simp [z]
theorem yesN_le (kids : List Vl) (i : Nat) : yesN kids i ≤ kids.length := by
  unfold yesN
  refine Nat.le_trans (List.length_filter_le _ _) ?_
  rw [List.length_take]
  exact Nat.min_le_right _ _
/-- What such a node is worth, by how many kids are true. -/
def vbF (op : Int) (y L : Nat) : Bool := if op = 1 then true else if op = 2 then false else if op = 3 then ((y : Int) == 0) else if op = 4 then ((y : Int) == L) else decide (0 < y)
/-- The four variables. -/
structure VoM (w0 : World) (sa sn sh sm nk : Value) (op N D : Int) (nm : ByteArray) (W : World) : Prop where
  a : HB W w0.heap.size 26 #[sa, sn, sh]
  m : HB W (w0.heap.size + 1) 29 #[sm]
  n : HB W (w0.heap.size + 1 + 1) 56 #[.int .i64 op, nk, .int .i64 N, .int .i64 D, .string nm]
  r : HB W (w0.heap.size + 1 + 1 + 1) 47 #[.int .i64 0, .int .i64 0, .slice none 0 0, .int .i64 0]
  b : Below w0.heap.size w0 W
theorem VoM.below {w0 w w' : World} {sa sn sh sm nk : Value} {op N D : Int} {nm : ByteArray} (h : VoM w0 sa sn sh sm nk op N D nm w) (k : Below w.heap.size w w') : VoM w0 sa sn sh sm nk op N D nm w' := ⟨h.a.below k, h.m.below k, h.n.below k, h.r.below k, below_after h.b k⟩
theorem vo_new (w : World) (sa sn sh sm nk : Value) (op N D : Int) (nm : ByteArray) : VoM w sa sn sh sm nk op N D nm ((((w.alloc (.cells #[sa, sn, sh] 26)).alloc (.cells #[sm] 29)).alloc (.cells #[.int .i64 op, nk, .int .i64 N, .int .i64 D, .string nm] 56)).alloc (.cells #[.int .i64 0, .int .i64 0, .slice none 0 0, .int .i64 0] 47)) :=
  ⟨(((HB.new _ _ _).alloc _).alloc _).alloc _, ((HB.new1 _ _ _ _).alloc _).alloc _, (HB.new2 _ _ _ _ _).alloc _, HB.new3 _ _ _ _ _ _, by go_grown⟩
theorem vo_res {w0 W : World} {sa sn sh sm nk : Value} {op N D : Int} {nm : ByteArray} (h : VoM w0 sa sn sh sm nk op N D nm W) (x0 x1 x2 x3 : Value) :
    HB ((((W.setCell ⟨w0.heap.size + 1 + 1 + 1, 0, none⟩ x0).setCell ⟨w0.heap.size + 1 + 1 + 1, 1, none⟩ x1).setCell ⟨w0.heap.size + 1 + 1 + 1, 2, none⟩ x2).setCell ⟨w0.heap.size + 1 + 1 + 1, 3, none⟩ x3) (w0.heap.size + 1 + 1 + 1) 47 #[x0, x1, x2, x3] ∧
    Below w0.heap.size w0 ((((W.setCell ⟨w0.heap.size + 1 + 1 + 1, 0, none⟩ x0).setCell ⟨w0.heap.size + 1 + 1 + 1, 1, none⟩ x1).setCell ⟨w0.heap.size + 1 + 1 + 1, 2, none⟩ x2).setCell ⟨w0.heap.size + 1 + 1 + 1, 3, none⟩ x3) :=
  ⟨hb_set4 h.r, bw_far h.b (by omega) (far4 W _ x0 x1 x2 x3)⟩
set_option maxRecDepth 100000 in
set_option maxHeartbeats 8000000 in
theorem valueof_1 (sa sn sh sm nk : Value) (N D sort : Int) (nm : ByteArray) (Av : Option Addr) (vc : Nat) (kids : List Vl) (hk : kids.length ≤ 1000) (w : World) (hv : VsAt w Av kids) :
    Calls Tryz.prog 18 #[.agg #[sa, sn, sh], .agg #[sm], .agg #[.int .i64 1, nk, .int .i64 N, .int .i64 D, .string nm], .int .i64 sort, .slice Av kids.length vc] w fun e w' => e = .returned (.tuple #[.agg #[.int .i64 (if vbF 1 (yesN kids kids.length) kids.length = true then 1 else 0), .int .i64 1, .slice none 0 0, .int .i64 0], .bool true]) ∧ Below w.heap.size w w' := by
  have HM := Lib.hid (vo_new w sa sn sh sm nk 1 N D nm)
  have HV := Lib.hid hv
  have HY := Lib.hid (fun i (h : i < kids.length) => yesN_step h)
  have HYL := Lib.hid (fun i => yesN_le kids i)
  have HY0 : Hid (yesN kids 0 = 0) := Lib.hid (by simp [yesN])
  have HVB : Hid (vbF 1 (yesN kids kids.length) kids.length = true) := Lib.hid rfl
  clear hv
  generalize yesN kids = Y at *
  generalize hL : kids.length = L at *
  have HL := Lib.hid hL
  clear hL
  generalize vbF 1 (Y L) L = vb at *
  generalize hx : (if vb = true then (1 : Int) else 0) = x at *
  have XB : Hid (∀ W, Calls Tryz.prog 48 #[.bool (true)] W fun e w' => e = .returned (.agg #[.int .i64 x, .int .i64 1, .slice none 0 0, .int .i64 0]) ∧ Below W.heap.size W w') := Lib.hid (fun W => by rw [← hx, HVB.out]; exact bitvalue_any _ W)
  clear hx HVB
  go_enter Tryz.func18, Tryz.ntmps18
  go_wp2_with fail
  go_loopw [16, 17] (fun y k wr => ∃ i : Nat, i ≤ L ∧ k = .int .i64 i ∧ y = .int .i64 (Y i) ∧ Hid (VoM w sa sn sh sm nk 1 N D nm wr)) (fun _ k _ => L - (intOf k).toNat)
  case atStart => exact ⟨0, by omega, rfl, by rw [HY0.out]; rfl, HM⟩
  case round =>
    clear HM
    obtain ⟨i, hi, rfl, rfl, HM⟩ := hrel
    by_cases hlt : i < L
    · have t3 : decide ((i : Int) < L) = true := by simpa using hlt
      have l0 : (i : Int) < L := by omega
      obtain ⟨b, o, rfl, lb, a0, -⟩ := vs_at (i := i) (HV.out.below HM.out.b) (by rw [HL.out]; exact hlt)
      simp only [Nat.add_zero] at a0
      have HS := Lib.hid (HY.out i hlt)
      have hyl := HYL.out i
      by_cases hn : (vn kids i).num = 1
      · have HS2 : Hid (Y (i + 1) = Y i + 1) := Lib.hid (by rw [HS.out, if_pos hn])
        rw [hn] at a0
        clear hn
        go_wp2_with fail
        go_round
        case rel => exact ⟨i + 1, by omega, by go_num, by rw [HS2.out]; go_num, HM⟩
        case measure => simp [intOf]; omega
      · have HS2 : Hid (Y (i + 1) = Y i) := Lib.hid (by rw [HS.out, if_neg hn])
        have tn : ((vn kids i).num == 1) = false := by simpa using hn
        clear hn
        generalize (vn kids i).num = q at *
        go_wp2_with fail
        go_round
        case rel => exact ⟨i + 1, by omega, by go_num, by rw [HS2.out], HM⟩
        case measure => simp [intOf]; omega
    · obtain rfl : i = L := by omega
      have t3 : decide ((i : Int) < i) = false := by simp
      obtain ⟨n0, n1, n2, n3, n4⟩ := HM.out.n.five
      go_wp2_with fail
      refine (XB.out _).mono ?_
      rintro e w2 ⟨rfl, hb⟩
      have M2 := Lib.hid (HM.out.below hb)
      obtain ⟨r0, r1, r2, r3, y0, y1, y2, y3⟩ := M2.out.r.four
      have P := vo_res M2.out (.int .i64 x) (.int .i64 1) (.slice none 0 0) (.int .i64 0)
      obtain ⟨z0, z1, z2, z3, -⟩ := P.1.four
      have FIN := Lib.hid P.2
      clear P hb n0 n1 n2 n3 n4
      go_wp2_with fail
      exact bodyPost_ret (v := .tuple #[.agg #[.int .i64 x, .int .i64 1, .slice none 0 0, .int .i64 0], .bool true]) (by simp [results, Tryz.results18, go_sem, z0, z1, z2, z3]) rfl ⟨rfl, FIN.out⟩
set_option maxRecDepth 100000 in
set_option maxHeartbeats 8000000 in
theorem valueof_2 (sa sn sh sm nk : Value) (N D sort : Int) (nm : ByteArray) (Av : Option Addr) (vc : Nat) (kids : List Vl) (hk : kids.length ≤ 1000) (w : World) (hv : VsAt w Av kids) :
    Calls Tryz.prog 18 #[.agg #[sa, sn, sh], .agg #[sm], .agg #[.int .i64 2, nk, .int .i64 N, .int .i64 D, .string nm], .int .i64 sort, .slice Av kids.length vc] w fun e w' => e = .returned (.tuple #[.agg #[.int .i64 (if vbF 2 (yesN kids kids.length) kids.length = true then 1 else 0), .int .i64 1, .slice none 0 0, .int .i64 0], .bool true]) ∧ Below w.heap.size w w' := by
  have HM := Lib.hid (vo_new w sa sn sh sm nk 2 N D nm)
  have HV := Lib.hid hv
  have HY := Lib.hid (fun i (h : i < kids.length) => yesN_step h)
  have HYL := Lib.hid (fun i => yesN_le kids i)
  have HY0 : Hid (yesN kids 0 = 0) := Lib.hid (by simp [yesN])
  have HVB : Hid (vbF 2 (yesN kids kids.length) kids.length = false) := Lib.hid rfl
  clear hv
  generalize yesN kids = Y at *
  generalize hL : kids.length = L at *
  have HL := Lib.hid hL
  clear hL
  generalize vbF 2 (Y L) L = vb at *
  generalize hx : (if vb = true then (1 : Int) else 0) = x at *
  have XB : Hid (∀ W, Calls Tryz.prog 48 #[.bool (false)] W fun e w' => e = .returned (.agg #[.int .i64 x, .int .i64 1, .slice none 0 0, .int .i64 0]) ∧ Below W.heap.size W w') := Lib.hid (fun W => by rw [← hx, HVB.out]; exact bitvalue_any _ W)
  clear hx HVB
  go_enter Tryz.func18, Tryz.ntmps18
  go_wp2_with fail
  go_loopw [16, 17] (fun y k wr => ∃ i : Nat, i ≤ L ∧ k = .int .i64 i ∧ y = .int .i64 (Y i) ∧ Hid (VoM w sa sn sh sm nk 2 N D nm wr)) (fun _ k _ => L - (intOf k).toNat)
  case atStart => exact ⟨0, by omega, rfl, by rw [HY0.out]; rfl, HM⟩
  case round =>
    clear HM
    obtain ⟨i, hi, rfl, rfl, HM⟩ := hrel
    by_cases hlt : i < L
    · have t3 : decide ((i : Int) < L) = true := by simpa using hlt
      have l0 : (i : Int) < L := by omega
      obtain ⟨b, o, rfl, lb, a0, -⟩ := vs_at (i := i) (HV.out.below HM.out.b) (by rw [HL.out]; exact hlt)
      simp only [Nat.add_zero] at a0
      have HS := Lib.hid (HY.out i hlt)
      have hyl := HYL.out i
      by_cases hn : (vn kids i).num = 1
      · have HS2 : Hid (Y (i + 1) = Y i + 1) := Lib.hid (by rw [HS.out, if_pos hn])
        rw [hn] at a0
        clear hn
        go_wp2_with fail
        go_round
        case rel => exact ⟨i + 1, by omega, by go_num, by rw [HS2.out]; go_num, HM⟩
        case measure => simp [intOf]; omega
      · have HS2 : Hid (Y (i + 1) = Y i) := Lib.hid (by rw [HS.out, if_neg hn])
        have tn : ((vn kids i).num == 1) = false := by simpa using hn
        clear hn
        generalize (vn kids i).num = q at *
        go_wp2_with fail
        go_round
        case rel => exact ⟨i + 1, by omega, by go_num, by rw [HS2.out], HM⟩
        case measure => simp [intOf]; omega
    · obtain rfl : i = L := by omega
      have t3 : decide ((i : Int) < i) = false := by simp
      obtain ⟨n0, n1, n2, n3, n4⟩ := HM.out.n.five
      go_wp2_with fail
      refine (XB.out _).mono ?_
      rintro e w2 ⟨rfl, hb⟩
      have M2 := Lib.hid (HM.out.below hb)
      obtain ⟨r0, r1, r2, r3, y0, y1, y2, y3⟩ := M2.out.r.four
      have P := vo_res M2.out (.int .i64 x) (.int .i64 1) (.slice none 0 0) (.int .i64 0)
      obtain ⟨z0, z1, z2, z3, -⟩ := P.1.four
      have FIN := Lib.hid P.2
      clear P hb n0 n1 n2 n3 n4
      go_wp2_with fail
      exact bodyPost_ret (v := .tuple #[.agg #[.int .i64 x, .int .i64 1, .slice none 0 0, .int .i64 0], .bool true]) (by simp [results, Tryz.results18, go_sem, z0, z1, z2, z3]) rfl ⟨rfl, FIN.out⟩
set_option maxRecDepth 100000 in
set_option maxHeartbeats 8000000 in
theorem valueof_3 (sa sn sh sm nk : Value) (N D sort : Int) (nm : ByteArray) (Av : Option Addr) (vc : Nat) (kids : List Vl) (hk : kids.length ≤ 1000) (w : World) (hv : VsAt w Av kids) :
    Calls Tryz.prog 18 #[.agg #[sa, sn, sh], .agg #[sm], .agg #[.int .i64 3, nk, .int .i64 N, .int .i64 D, .string nm], .int .i64 sort, .slice Av kids.length vc] w fun e w' => e = .returned (.tuple #[.agg #[.int .i64 (if vbF 3 (yesN kids kids.length) kids.length = true then 1 else 0), .int .i64 1, .slice none 0 0, .int .i64 0], .bool true]) ∧ Below w.heap.size w w' := by
  have HM := Lib.hid (vo_new w sa sn sh sm nk 3 N D nm)
  have HV := Lib.hid hv
  have HY := Lib.hid (fun i (h : i < kids.length) => yesN_step h)
  have HYL := Lib.hid (fun i => yesN_le kids i)
  have HY0 : Hid (yesN kids 0 = 0) := Lib.hid (by simp [yesN])
  have HVB : Hid (vbF 3 (yesN kids kids.length) kids.length = ((yesN kids kids.length : Int) == 0)) := Lib.hid rfl
  clear hv
  generalize yesN kids = Y at *
  generalize hL : kids.length = L at *
  have HL := Lib.hid hL
  clear hL
  generalize vbF 3 (Y L) L = vb at *
  generalize hx : (if vb = true then (1 : Int) else 0) = x at *
  have XB : Hid (∀ W, Calls Tryz.prog 48 #[.bool (((Y L : Int) == 0))] W fun e w' => e = .returned (.agg #[.int .i64 x, .int .i64 1, .slice none 0 0, .int .i64 0]) ∧ Below W.heap.size W w') := Lib.hid (fun W => by rw [← hx, HVB.out]; exact bitvalue_any _ W)
  clear hx HVB
  go_enter Tryz.func18, Tryz.ntmps18
  go_wp2_with fail
  go_loopw [16, 17] (fun y k wr => ∃ i : Nat, i ≤ L ∧ k = .int .i64 i ∧ y = .int .i64 (Y i) ∧ Hid (VoM w sa sn sh sm nk 3 N D nm wr)) (fun _ k _ => L - (intOf k).toNat)
  case atStart => exact ⟨0, by omega, rfl, by rw [HY0.out]; rfl, HM⟩
  case round =>
    clear HM
    obtain ⟨i, hi, rfl, rfl, HM⟩ := hrel
    by_cases hlt : i < L
    · have t3 : decide ((i : Int) < L) = true := by simpa using hlt
      have l0 : (i : Int) < L := by omega
      obtain ⟨b, o, rfl, lb, a0, -⟩ := vs_at (i := i) (HV.out.below HM.out.b) (by rw [HL.out]; exact hlt)
      simp only [Nat.add_zero] at a0
      have HS := Lib.hid (HY.out i hlt)
      have hyl := HYL.out i
      by_cases hn : (vn kids i).num = 1
      · have HS2 : Hid (Y (i + 1) = Y i + 1) := Lib.hid (by rw [HS.out, if_pos hn])
        rw [hn] at a0
        clear hn
        go_wp2_with fail
        go_round
        case rel => exact ⟨i + 1, by omega, by go_num, by rw [HS2.out]; go_num, HM⟩
        case measure => simp [intOf]; omega
      · have HS2 : Hid (Y (i + 1) = Y i) := Lib.hid (by rw [HS.out, if_neg hn])
        have tn : ((vn kids i).num == 1) = false := by simpa using hn
        clear hn
        generalize (vn kids i).num = q at *
        go_wp2_with fail
        go_round
        case rel => exact ⟨i + 1, by omega, by go_num, by rw [HS2.out], HM⟩
        case measure => simp [intOf]; omega
    · obtain rfl : i = L := by omega
      have t3 : decide ((i : Int) < i) = false := by simp
      obtain ⟨n0, n1, n2, n3, n4⟩ := HM.out.n.five
      go_wp2_with fail
      refine (XB.out _).mono ?_
      rintro e w2 ⟨rfl, hb⟩
      have M2 := Lib.hid (HM.out.below hb)
      obtain ⟨r0, r1, r2, r3, y0, y1, y2, y3⟩ := M2.out.r.four
      have P := vo_res M2.out (.int .i64 x) (.int .i64 1) (.slice none 0 0) (.int .i64 0)
      obtain ⟨z0, z1, z2, z3, -⟩ := P.1.four
      have FIN := Lib.hid P.2
      clear P hb n0 n1 n2 n3 n4
      go_wp2_with fail
      exact bodyPost_ret (v := .tuple #[.agg #[.int .i64 x, .int .i64 1, .slice none 0 0, .int .i64 0], .bool true]) (by simp [results, Tryz.results18, go_sem, z0, z1, z2, z3]) rfl ⟨rfl, FIN.out⟩
set_option maxRecDepth 100000 in
set_option maxHeartbeats 8000000 in
theorem valueof_4 (sa sn sh sm nk : Value) (N D sort : Int) (nm : ByteArray) (Av : Option Addr) (vc : Nat) (kids : List Vl) (hk : kids.length ≤ 1000) (w : World) (hv : VsAt w Av kids) :
    Calls Tryz.prog 18 #[.agg #[sa, sn, sh], .agg #[sm], .agg #[.int .i64 4, nk, .int .i64 N, .int .i64 D, .string nm], .int .i64 sort, .slice Av kids.length vc] w fun e w' => e = .returned (.tuple #[.agg #[.int .i64 (if vbF 4 (yesN kids kids.length) kids.length = true then 1 else 0), .int .i64 1, .slice none 0 0, .int .i64 0], .bool true]) ∧ Below w.heap.size w w' := by
  have HM := Lib.hid (vo_new w sa sn sh sm nk 4 N D nm)
  have HV := Lib.hid hv
  have HY := Lib.hid (fun i (h : i < kids.length) => yesN_step h)
  have HYL := Lib.hid (fun i => yesN_le kids i)
  have HY0 : Hid (yesN kids 0 = 0) := Lib.hid (by simp [yesN])
  have HVB : Hid (vbF 4 (yesN kids kids.length) kids.length = ((yesN kids kids.length : Int) == kids.length)) := Lib.hid rfl
  clear hv
  generalize yesN kids = Y at *
  generalize hL : kids.length = L at *
  have HL := Lib.hid hL
  clear hL
  generalize vbF 4 (Y L) L = vb at *
  generalize hx : (if vb = true then (1 : Int) else 0) = x at *
  have XB : Hid (∀ W, Calls Tryz.prog 48 #[.bool (((Y L : Int) == L))] W fun e w' => e = .returned (.agg #[.int .i64 x, .int .i64 1, .slice none 0 0, .int .i64 0]) ∧ Below W.heap.size W w') := Lib.hid (fun W => by rw [← hx, HVB.out]; exact bitvalue_any _ W)
  clear hx HVB
  go_enter Tryz.func18, Tryz.ntmps18
  go_wp2_with fail
  go_loopw [16, 17] (fun y k wr => ∃ i : Nat, i ≤ L ∧ k = .int .i64 i ∧ y = .int .i64 (Y i) ∧ Hid (VoM w sa sn sh sm nk 4 N D nm wr)) (fun _ k _ => L - (intOf k).toNat)
  case atStart => exact ⟨0, by omega, rfl, by rw [HY0.out]; rfl, HM⟩
  case round =>
    clear HM
    obtain ⟨i, hi, rfl, rfl, HM⟩ := hrel
    by_cases hlt : i < L
    · have t3 : decide ((i : Int) < L) = true := by simpa using hlt
      have l0 : (i : Int) < L := by omega
      obtain ⟨b, o, rfl, lb, a0, -⟩ := vs_at (i := i) (HV.out.below HM.out.b) (by rw [HL.out]; exact hlt)
      simp only [Nat.add_zero] at a0
      have HS := Lib.hid (HY.out i hlt)
      have hyl := HYL.out i
      by_cases hn : (vn kids i).num = 1
      · have HS2 : Hid (Y (i + 1) = Y i + 1) := Lib.hid (by rw [HS.out, if_pos hn])
        rw [hn] at a0
        clear hn
        go_wp2_with fail
        go_round
        case rel => exact ⟨i + 1, by omega, by go_num, by rw [HS2.out]; go_num, HM⟩
        case measure => simp [intOf]; omega
      · have HS2 : Hid (Y (i + 1) = Y i) := Lib.hid (by rw [HS.out, if_neg hn])
        have tn : ((vn kids i).num == 1) = false := by simpa using hn
        clear hn
        generalize (vn kids i).num = q at *
        go_wp2_with fail
        go_round
        case rel => exact ⟨i + 1, by omega, by go_num, by rw [HS2.out], HM⟩
        case measure => simp [intOf]; omega
    · obtain rfl : i = L := by omega
      have t3 : decide ((i : Int) < i) = false := by simp
      obtain ⟨n0, n1, n2, n3, n4⟩ := HM.out.n.five
      go_wp2_with fail
      refine (XB.out _).mono ?_
      rintro e w2 ⟨rfl, hb⟩
      have M2 := Lib.hid (HM.out.below hb)
      obtain ⟨r0, r1, r2, r3, y0, y1, y2, y3⟩ := M2.out.r.four
      have P := vo_res M2.out (.int .i64 x) (.int .i64 1) (.slice none 0 0) (.int .i64 0)
      obtain ⟨z0, z1, z2, z3, -⟩ := P.1.four
      have FIN := Lib.hid P.2
      clear P hb n0 n1 n2 n3 n4
      go_wp2_with fail
      exact bodyPost_ret (v := .tuple #[.agg #[.int .i64 x, .int .i64 1, .slice none 0 0, .int .i64 0], .bool true]) (by simp [results, Tryz.results18, go_sem, z0, z1, z2, z3]) rfl ⟨rfl, FIN.out⟩
set_option maxRecDepth 100000 in
set_option maxHeartbeats 8000000 in
theorem valueof_5 (sa sn sh sm nk : Value) (N D sort : Int) (nm : ByteArray) (Av : Option Addr) (vc : Nat) (kids : List Vl) (hk : kids.length ≤ 1000) (w : World) (hv : VsAt w Av kids) :
    Calls Tryz.prog 18 #[.agg #[sa, sn, sh], .agg #[sm], .agg #[.int .i64 5, nk, .int .i64 N, .int .i64 D, .string nm], .int .i64 sort, .slice Av kids.length vc] w fun e w' => e = .returned (.tuple #[.agg #[.int .i64 (if vbF 5 (yesN kids kids.length) kids.length = true then 1 else 0), .int .i64 1, .slice none 0 0, .int .i64 0], .bool true]) ∧ Below w.heap.size w w' := by
  have HM := Lib.hid (vo_new w sa sn sh sm nk 5 N D nm)
  have HV := Lib.hid hv
  have HY := Lib.hid (fun i (h : i < kids.length) => yesN_step h)
  have HYL := Lib.hid (fun i => yesN_le kids i)
  have HY0 : Hid (yesN kids 0 = 0) := Lib.hid (by simp [yesN])
  have HVB : Hid (vbF 5 (yesN kids kids.length) kids.length = decide (0 < yesN kids kids.length)) := Lib.hid rfl
  clear hv
  generalize yesN kids = Y at *
  generalize hL : kids.length = L at *
  have HL := Lib.hid hL
  clear hL
  generalize vbF 5 (Y L) L = vb at *
  generalize hx : (if vb = true then (1 : Int) else 0) = x at *
  have XB : Hid (∀ W, Calls Tryz.prog 48 #[.bool (decide (0 < Y L))] W fun e w' => e = .returned (.agg #[.int .i64 x, .int .i64 1, .slice none 0 0, .int .i64 0]) ∧ Below W.heap.size W w') := Lib.hid (fun W => by rw [← hx, HVB.out]; exact bitvalue_any _ W)
  clear hx HVB
  go_enter Tryz.func18, Tryz.ntmps18
  go_wp2_with fail
  go_loopw [16, 17] (fun y k wr => ∃ i : Nat, i ≤ L ∧ k = .int .i64 i ∧ y = .int .i64 (Y i) ∧ Hid (VoM w sa sn sh sm nk 5 N D nm wr)) (fun _ k _ => L - (intOf k).toNat)
  case atStart => exact ⟨0, by omega, rfl, by rw [HY0.out]; rfl, HM⟩
  case round =>
    clear HM
    obtain ⟨i, hi, rfl, rfl, HM⟩ := hrel
    by_cases hlt : i < L
    · have t3 : decide ((i : Int) < L) = true := by simpa using hlt
      have l0 : (i : Int) < L := by omega
      obtain ⟨b, o, rfl, lb, a0, -⟩ := vs_at (i := i) (HV.out.below HM.out.b) (by rw [HL.out]; exact hlt)
      simp only [Nat.add_zero] at a0
      have HS := Lib.hid (HY.out i hlt)
      have hyl := HYL.out i
      by_cases hn : (vn kids i).num = 1
      · have HS2 : Hid (Y (i + 1) = Y i + 1) := Lib.hid (by rw [HS.out, if_pos hn])
        rw [hn] at a0
        clear hn
        go_wp2_with fail
        go_round
        case rel => exact ⟨i + 1, by omega, by go_num, by rw [HS2.out]; go_num, HM⟩
        case measure => simp [intOf]; omega
      · have HS2 : Hid (Y (i + 1) = Y i) := Lib.hid (by rw [HS.out, if_neg hn])
        have tn : ((vn kids i).num == 1) = false := by simpa using hn
        clear hn
        generalize (vn kids i).num = q at *
        go_wp2_with fail
        go_round
        case rel => exact ⟨i + 1, by omega, by go_num, by rw [HS2.out], HM⟩
        case measure => simp [intOf]; omega
    · obtain rfl : i = L := by omega
      have t3 : decide ((i : Int) < i) = false := by simp
      obtain ⟨n0, n1, n2, n3, n4⟩ := HM.out.n.five
      go_wp2_with fail
      refine (XB.out _).mono ?_
      rintro e w2 ⟨rfl, hb⟩
      have M2 := Lib.hid (HM.out.below hb)
      obtain ⟨r0, r1, r2, r3, y0, y1, y2, y3⟩ := M2.out.r.four
      have P := vo_res M2.out (.int .i64 x) (.int .i64 1) (.slice none 0 0) (.int .i64 0)
      obtain ⟨z0, z1, z2, z3, -⟩ := P.1.four
      have FIN := Lib.hid P.2
      clear P hb n0 n1 n2 n3 n4
      go_wp2_with fail
      exact bodyPost_ret (v := .tuple #[.agg #[.int .i64 x, .int .i64 1, .slice none 0 0, .int .i64 0], .bool true]) (by simp [results, Tryz.results18, go_sem, z0, z1, z2, z3]) rfl ⟨rfl, FIN.out⟩
end Go.Proofs.YtaodebpogibimaaGreat
