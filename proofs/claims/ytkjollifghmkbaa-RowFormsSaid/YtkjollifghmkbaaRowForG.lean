/-
  RowForms' walk: whatever the row, true.
-/
import Derived.Test.YtkjollifghmkbaaRowForF
import Derived.Test.YtkjollifghmkbaaRowForA
namespace Go.Proofs.Ytkjollifghmkbaa
open Go.RowKit

set_option maxRecDepth 100000 in
set_option maxHeartbeats 30000000 in
theorem rowforms_bad (A : Option Addr) (xs : List Int) (L c : Nat) (kind tt x y : Int) (w : World) (h : Is w A xs) (h0 : x ≠ 0)
    (hT : ∀ W, Is W A xs → Calls Try.prog 19 #[.agg #[.slice A L c, .int .i64 kind, .int .i64 tt]] W (GivesRF [] 0 0 x y W)) (hW : ∀ W, Is W A xs → Calls Try.prog 20 #[.agg #[.slice A L c, .int .i64 kind, .int .i64 tt]] W (GivesRF [] 0 0 x y W)) (hN : ∀ W, Is W A xs → Calls Try.prog 21 #[.agg #[.slice A L c, .int .i64 kind, .int .i64 tt]] W (GivesRF [] 0 0 x y W)) (hE : ∀ W, Is W A xs → Calls Try.prog 15 #[.agg #[.slice A L c, .int .i64 kind, .int .i64 tt], .int .i64 12] W (GivesF x y W)) :
    Calls Try.prog 4 #[.agg #[.slice A L c, .int .i64 kind, .int .i64 tt]] w fun e w' => e = .returned (.bool true) ∧ Below w.heap.size w w' := by
  have d : (x != 0) = true := by simpa using h0
  have d1 : (x == x) = true := by simp
  have d2 : (y == y) = true := by simp
  have HX := Lib.hid h
  have HT := Lib.hid hT
  have HW := Lib.hid hW
  have HN := Lib.hid hN
  have HE := Lib.hid hE
  clear h hT hW hN hE h0
  go_enter Try.func4, Try.ntmps4
  go_wp2_with fail
  refine (HT.out _ (HX.out.below (by go_grown))).mono ?_
  rintro e w1 ⟨A1, c1, rfl, hl1, hi1, hb1⟩
  have R_1 := Lib.hid (((HB.new w 24 #[.slice A L c, .int .i64 kind, .int .i64 tt])).below hb1)
  have G_1 : Hid (Below w.heap.size w w1) := below_after (by go_grown) hb1
  have I1_1 := Lib.hid hi1.is
  clear hl1 hi1 hb1
  obtain ⟨R0_1, R1_1, R2_1, _, _, _⟩ := HB.row' R_1.out
  have Rl_1 := R_1.out.lt
  go_wp2_with fail
  refine (HW.out _ (HX.out.below (by have := G_1.out; have z := this.size; go_grown))).mono ?_
  rintro e w2 ⟨A2, c2, rfl, hl2, hi2, hb2⟩
  have R_2 := Lib.hid ((((R_1.out.alloc _).alloc _)).below hb2)
  have T1_2 := Lib.hid ((((HB.new w1 24 #[.slice A1 0 c1, .int .i64 0, .int .i64 0]).alloc _)).below hb2)
  have F1_2 := Lib.hid (((HB.new1 w1 _ 29 #[.int .i64 x, .int .i64 y])).below hb2)
  have G_2 : Hid (Below w.heap.size w w2) := below_after (by have := G_1.out; have z := this.size; go_grown) hb2
  have I1_2 := Lib.hid ((I1_1.out.below (by go_grown)).below hb2)
  have I2_2 := Lib.hid hi2.is
  clear hl2 hi2 hb2 R_1 I1_1
  clear R0_1 R1_1 R2_1 Rl_1
  obtain ⟨R0_2, R1_2, R2_2, _, _, _⟩ := HB.row' R_2.out
  have Rl_2 := R_2.out.lt
  go_wp2_with fail
  refine (HN.out _ (HX.out.below (by have := G_2.out; have z := this.size; go_grown))).mono ?_
  rintro e w3 ⟨A3, c3, rfl, hl3, hi3, hb3⟩
  have R_3 := Lib.hid ((((R_2.out.alloc _).alloc _)).below hb3)
  have T1_3 := Lib.hid ((((T1_2.out.alloc _).alloc _)).below hb3)
  have F1_3 := Lib.hid ((((F1_2.out.alloc _).alloc _)).below hb3)
  have T2_3 := Lib.hid ((((HB.new w2 24 #[.slice A2 0 c2, .int .i64 0, .int .i64 0]).alloc _)).below hb3)
  have F2_3 := Lib.hid (((HB.new1 w2 _ 29 #[.int .i64 x, .int .i64 y])).below hb3)
  have G_3 : Hid (Below w.heap.size w w3) := below_after (by have := G_2.out; have z := this.size; go_grown) hb3
  have I1_3 := Lib.hid ((I1_2.out.below (by go_grown)).below hb3)
  have I2_3 := Lib.hid ((I2_2.out.below (by go_grown)).below hb3)
  have I3_3 := Lib.hid hi3.is
  clear hl3 hi3 hb3 R_2 T1_2 F1_2 I1_2 I2_2
  clear R0_2 R1_2 R2_2 Rl_2
  obtain ⟨R0_3, R1_3, R2_3, _, _, _⟩ := HB.row' R_3.out
  have Rl_3 := R_3.out.lt
  go_wp2_with fail
  refine (HE.out _ (HX.out.below (by have := G_3.out; have z := this.size; go_grown))).mono ?_
  rintro e w4 ⟨rfl, hb4⟩
  have R_4 := Lib.hid ((((R_3.out.alloc _).alloc _)).below hb4)
  have T1_4 := Lib.hid ((((T1_3.out.alloc _).alloc _)).below hb4)
  have F1_4 := Lib.hid ((((F1_3.out.alloc _).alloc _)).below hb4)
  have T2_4 := Lib.hid ((((T2_3.out.alloc _).alloc _)).below hb4)
  have F2_4 := Lib.hid ((((F2_3.out.alloc _).alloc _)).below hb4)
  have T3_4 := Lib.hid ((((HB.new w3 24 #[.slice A3 0 c3, .int .i64 0, .int .i64 0]).alloc _)).below hb4)
  have F3_4 := Lib.hid (((HB.new1 w3 _ 29 #[.int .i64 x, .int .i64 y])).below hb4)
  have G_4 : Hid (Below w.heap.size w w4) := below_after (by have := G_3.out; have z := this.size; go_grown) hb4
  have I1_4 := Lib.hid ((I1_3.out.below (by go_grown)).below hb4)
  have I2_4 := Lib.hid ((I2_3.out.below (by go_grown)).below hb4)
  have I3_4 := Lib.hid ((I3_3.out.below (by go_grown)).below hb4)
  clear hb4 R_3 T1_3 F1_3 T2_3 F2_3 I1_3 I2_3 I3_3
  clear R0_3 R1_3 R2_3 Rl_3
  obtain ⟨T10_4, T11_4, T12_4, _, _, _⟩ := HB.row' T1_4.out
  have T1l_4 := T1_4.out.lt
  obtain ⟨F10_4, F11_4, _, _⟩ := HB.two F1_4.out
  have F1l_4 := F1_4.out.lt
  obtain ⟨T20_4, T21_4, T22_4, _, _, _⟩ := HB.row' T2_4.out
  have T2l_4 := T2_4.out.lt
  obtain ⟨F20_4, F21_4, _, _⟩ := HB.two F2_4.out
  have F2l_4 := F2_4.out.lt
  obtain ⟨T30_4, T31_4, T32_4, _, _, _⟩ := HB.row' T3_4.out
  have T3l_4 := T3_4.out.lt
  obtain ⟨F30_4, F31_4, _, _⟩ := HB.two F3_4.out
  have F3l_4 := F3_4.out.lt
  go_wp2_with fail
  refine (samerow_any A1 none [] [] 0 c1 0 0 0 0 0 0 rfl rfl (by omega) (by omega) _ (fun z => absurd z (by simp)) (fun z => absurd z (by simp))).mono ?_
  rintro e w5 ⟨rfl, hb5⟩
  have R_5 := Lib.hid (((R_4.out.alloc _)).below hb5)
  have T1_5 := Lib.hid (((T1_4.out.alloc _)).below hb5)
  have F1_5 := Lib.hid (((F1_4.out.alloc _)).below hb5)
  have T2_5 := Lib.hid (((T2_4.out.alloc _)).below hb5)
  have F2_5 := Lib.hid (((F2_4.out.alloc _)).below hb5)
  have T3_5 := Lib.hid (((T3_4.out.alloc _)).below hb5)
  have F3_5 := Lib.hid (((F3_4.out.alloc _)).below hb5)
  have E_5 := Lib.hid (((HB.new w4 29 #[.int .i64 x, .int .i64 y])).below hb5)
  have G_5 : Hid (Below w.heap.size w w5) := below_after (by have := G_4.out; have z := this.size; go_grown) hb5
  have I1_5 := Lib.hid ((I1_4.out.below (by go_grown)).below hb5)
  have I2_5 := Lib.hid ((I2_4.out.below (by go_grown)).below hb5)
  have I3_5 := Lib.hid ((I3_4.out.below (by go_grown)).below hb5)
  clear hb5 R_4 T1_4 F1_4 T2_4 F2_4 T3_4 F3_4 I1_4 I2_4 I3_4
  clear T10_4 T11_4 T12_4 T1l_4 F10_4 F11_4 F1l_4 T20_4 T21_4 T22_4 T2l_4 F20_4 F21_4 F2l_4 T30_4 T31_4 T32_4 T3l_4 F30_4 F31_4 F3l_4
  obtain ⟨T10_5, T11_5, T12_5, _, _, _⟩ := HB.row' T1_5.out
  have T1l_5 := T1_5.out.lt
  obtain ⟨F10_5, F11_5, _, _⟩ := HB.two F1_5.out
  have F1l_5 := F1_5.out.lt
  obtain ⟨T20_5, T21_5, T22_5, _, _, _⟩ := HB.row' T2_5.out
  have T2l_5 := T2_5.out.lt
  obtain ⟨F20_5, F21_5, _, _⟩ := HB.two F2_5.out
  have F2l_5 := F2_5.out.lt
  obtain ⟨T30_5, T31_5, T32_5, _, _, _⟩ := HB.row' T3_5.out
  have T3l_5 := T3_5.out.lt
  obtain ⟨F30_5, F31_5, _, _⟩ := HB.two F3_5.out
  have F3l_5 := F3_5.out.lt
  go_wp2_with fail
  refine (samerow_any A2 none [] [] 0 c2 0 0 0 0 0 0 rfl rfl (by omega) (by omega) _ (fun z => absurd z (by simp)) (fun z => absurd z (by simp))).mono ?_
  rintro e w6 ⟨rfl, hb6⟩
  have R_6 := Lib.hid (R_5.out.below hb6)
  have T1_6 := Lib.hid (T1_5.out.below hb6)
  have F1_6 := Lib.hid (F1_5.out.below hb6)
  have T2_6 := Lib.hid (T2_5.out.below hb6)
  have F2_6 := Lib.hid (F2_5.out.below hb6)
  have T3_6 := Lib.hid (T3_5.out.below hb6)
  have F3_6 := Lib.hid (F3_5.out.below hb6)
  have E_6 := Lib.hid (E_5.out.below hb6)
  have G_6 : Hid (Below w.heap.size w w6) := below_after (by have := G_5.out; have z := this.size; go_grown) hb6
  have I1_6 := Lib.hid ((I1_5.out.below (by go_grown)).below hb6)
  have I2_6 := Lib.hid ((I2_5.out.below (by go_grown)).below hb6)
  have I3_6 := Lib.hid ((I3_5.out.below (by go_grown)).below hb6)
  clear hb6 R_5 T1_5 F1_5 T2_5 F2_5 T3_5 F3_5 E_5 I1_5 I2_5 I3_5
  clear T10_5 T11_5 T12_5 T1l_5 F10_5 F11_5 F1l_5 T20_5 T21_5 T22_5 T2l_5 F20_5 F21_5 F2l_5 T30_5 T31_5 T32_5 T3l_5 F30_5 F31_5 F3l_5
  obtain ⟨T10_6, T11_6, T12_6, _, _, _⟩ := HB.row' T1_6.out
  have T1l_6 := T1_6.out.lt
  obtain ⟨F10_6, F11_6, _, _⟩ := HB.two F1_6.out
  have F1l_6 := F1_6.out.lt
  obtain ⟨T20_6, T21_6, T22_6, _, _, _⟩ := HB.row' T2_6.out
  have T2l_6 := T2_6.out.lt
  obtain ⟨F20_6, F21_6, _, _⟩ := HB.two F2_6.out
  have F2l_6 := F2_6.out.lt
  obtain ⟨T30_6, T31_6, T32_6, _, _, _⟩ := HB.row' T3_6.out
  have T3l_6 := T3_6.out.lt
  obtain ⟨F30_6, F31_6, _, _⟩ := HB.two F3_6.out
  have F3l_6 := F3_6.out.lt
  go_wp2_with fail
  refine (samerow_any A3 none [] [] 0 c3 0 0 0 0 0 0 rfl rfl (by omega) (by omega) _ (fun z => absurd z (by simp)) (fun z => absurd z (by simp))).mono ?_
  rintro e w7 ⟨rfl, hb7⟩
  have R_7 := Lib.hid (R_6.out.below hb7)
  have T1_7 := Lib.hid (T1_6.out.below hb7)
  have F1_7 := Lib.hid (F1_6.out.below hb7)
  have T2_7 := Lib.hid (T2_6.out.below hb7)
  have F2_7 := Lib.hid (F2_6.out.below hb7)
  have T3_7 := Lib.hid (T3_6.out.below hb7)
  have F3_7 := Lib.hid (F3_6.out.below hb7)
  have E_7 := Lib.hid (E_6.out.below hb7)
  have G_7 : Hid (Below w.heap.size w w7) := below_after (by have := G_6.out; have z := this.size; go_grown) hb7
  have I1_7 := Lib.hid ((I1_6.out.below (by go_grown)).below hb7)
  have I2_7 := Lib.hid ((I2_6.out.below (by go_grown)).below hb7)
  have I3_7 := Lib.hid ((I3_6.out.below (by go_grown)).below hb7)
  clear hb7 R_6 T1_6 F1_6 T2_6 F2_6 T3_6 F3_6 E_6 I1_6 I2_6 I3_6
  clear T10_6 T11_6 T12_6 T1l_6 F10_6 F11_6 F1l_6 T20_6 T21_6 T22_6 T2l_6 F20_6 F21_6 F2l_6 T30_6 T31_6 T32_6 T3l_6 F30_6 F31_6 F3l_6
  obtain ⟨T10_7, T11_7, T12_7, _, _, _⟩ := HB.row' T1_7.out
  have T1l_7 := T1_7.out.lt
  obtain ⟨F10_7, F11_7, _, _⟩ := HB.two F1_7.out
  have F1l_7 := F1_7.out.lt
  obtain ⟨T20_7, T21_7, T22_7, _, _, _⟩ := HB.row' T2_7.out
  have T2l_7 := T2_7.out.lt
  obtain ⟨F20_7, F21_7, _, _⟩ := HB.two F2_7.out
  have F2l_7 := F2_7.out.lt
  obtain ⟨T30_7, T31_7, T32_7, _, _, _⟩ := HB.row' T3_7.out
  have T3l_7 := T3_7.out.lt
  obtain ⟨F30_7, F31_7, _, _⟩ := HB.two F3_7.out
  have F3l_7 := F3_7.out.lt
  go_wp2_with fail
  go_ret
  exact ⟨rfl, G_7.out⟩
end Go.Proofs.Ytkjollifghmkbaa
