/-
  RowForms' walk: whatever the row, true.
-/
import Derived.Test.YtkjollifghmkbaaRowForG
import Derived.Test.YtkjollifghmkbaaRowForA
namespace Go.Proofs.Ytkjollifghmkbaa
open Go.RowKit

theorem cells_eight {w : World} {gR gT1 gF1 gT2 gF2 gTA gFA : Nat} {rv0 rv1 rv2 t1v0 t1v1 t1v2 f1v0 f1v1 t2v0 t2v1 t2v2 f2v0 f2v1 tav0 tav1 tav2 fav0 fav1 : Value} (hR : HB w gR 24 #[rv0, rv1, rv2]) (hT1 : HB w gT1 24 #[t1v0, t1v1, t1v2]) (hF1 : HB w gF1 29 #[f1v0, f1v1]) (hT2 : HB w gT2 24 #[t2v0, t2v1, t2v2]) (hF2 : HB w gF2 29 #[f2v0, f2v1]) (hTA : HB w gTA 24 #[tav0, tav1, tav2]) (hFA : HB w gFA 29 #[fav0, fav1]) :
    w.cell? ⟨gR, 0, none⟩ = some rv0 ∧ w.cell? ⟨gR, 1, none⟩ = some rv1 ∧ w.cell? ⟨gR, 2, none⟩ = some rv2 ∧ w.cell? ⟨gT1, 0, none⟩ = some t1v0 ∧ w.cell? ⟨gT1, 1, none⟩ = some t1v1 ∧ w.cell? ⟨gT1, 2, none⟩ = some t1v2 ∧ w.cell? ⟨gF1, 0, none⟩ = some f1v0 ∧ w.cell? ⟨gF1, 1, none⟩ = some f1v1 ∧ w.cell? ⟨gT2, 0, none⟩ = some t2v0 ∧ w.cell? ⟨gT2, 1, none⟩ = some t2v1 ∧ w.cell? ⟨gT2, 2, none⟩ = some t2v2 ∧ w.cell? ⟨gF2, 0, none⟩ = some f2v0 ∧ w.cell? ⟨gF2, 1, none⟩ = some f2v1 ∧ w.cell? ⟨gTA, 0, none⟩ = some tav0 ∧ w.cell? ⟨gTA, 1, none⟩ = some tav1 ∧ w.cell? ⟨gTA, 2, none⟩ = some tav2 ∧ w.cell? ⟨gFA, 0, none⟩ = some fav0 ∧ w.cell? ⟨gFA, 1, none⟩ = some fav1 := ⟨hR.cell 0, hR.cell 1, hR.cell 2, hT1.cell 0, hT1.cell 1, hT1.cell 2, hF1.cell 0, hF1.cell 1, hT2.cell 0, hT2.cell 1, hT2.cell 2, hF2.cell 0, hF2.cell 1, hTA.cell 0, hTA.cell 1, hTA.cell 2, hFA.cell 0, hFA.cell 1⟩
set_option maxRecDepth 100000 in
set_option maxHeartbeats 30000000 in
theorem rowforms_three (A : Option Addr) (xs ys1 ys2 : List Int) (L c : Nat) (kind tt t1 k2 t2 u2 : Int) (w : World) (h : Is w A xs) (hL : L = xs.length) (hk : kind = 3) (l1 : ys1.length ≤ 12) (l2 : ys2.length ≤ 12)
    (hT : ∀ W, Is W A xs → Calls Try.prog 19 #[.agg #[.slice A L c, .int .i64 kind, .int .i64 tt]] W (GivesRF ys1 kind t1 0 0 W)) (hW : ∀ W, Is W A xs → Calls Try.prog 20 #[.agg #[.slice A L c, .int .i64 kind, .int .i64 tt]] W (GivesRF ys2 k2 t2 u2 0 W)) (hN : ∀ W, Is W A xs → Calls Try.prog 21 #[.agg #[.slice A L c, .int .i64 kind, .int .i64 tt]] W (GivesRF [] 0 0 4 0 W))
    (hE : ∀ W, Is W A xs → Calls Try.prog 15 #[.agg #[.slice A L c, .int .i64 kind, .int .i64 tt], .int .i64 12] W (GivesF 0 0 W))
    (hRT : ∀ W, Is W A xs → Calls Try.prog 24 #[.agg #[.slice A L c, .int .i64 kind, .int .i64 tt]] W (GivesL ys1 kind t1 W)) (hRW : ∀ W, Is W A xs → Calls Try.prog 23 #[.agg #[.slice A L c, .int .i64 kind, .int .i64 tt]] W (GivesRF ys2 k2 t2 u2 0 W)) :
    Calls Try.prog 4 #[.agg #[.slice A L c, .int .i64 kind, .int .i64 tt]] w fun e w' => e = .returned (.bool true) ∧ Below w.heap.size w w' := by
  have q2 : (u2 != u2) = false := by simp
  have HX := Lib.hid h
  have HT := Lib.hid hT
  have HW := Lib.hid hW
  have HN := Lib.hid hN
  have HE := Lib.hid hE
  have HRT := Lib.hid hRT
  have HRW := Lib.hid hRW
  have HL := Lib.hid hL
  clear h hT hW hN hE hRT hRW hL
  have e3 : (kind == 3) = true := by simpa using hk
  clear hk
  go_enter Try.func4, Try.ntmps4
  go_wp2_with fail
  refine (HT.out _ (HX.out.below (by go_grown))).mono ?_
  rintro e w1 ⟨A1, c1, rfl, hl1, hi1, hb1⟩
  have R_1 := Lib.hid (((HB.new w 24 #[.slice A L c, .int .i64 kind, .int .i64 tt])).below hb1)
  have G_1 : Hid (Below w.heap.size w w1) := below_after (by go_grown) hb1
  have I1_1 := Lib.hid hi1.is
  clear hl1 hi1 hb1
  obtain ⟨R0_1, R1_1, R2_1, _, _, _⟩ := HB.row' R_1.out
  have Rl_1 := R_1.out.lt
  go_wp2_with fail
  refine (HW.out _ (HX.out.below (by have := G_1.out; have z := this.size; go_grown))).mono ?_
  rintro e w2 ⟨A2, c2, rfl, hl2, hi2, hb2⟩
  have R_2 := Lib.hid ((((R_1.out.alloc _).alloc _)).below hb2)
  have T1_2 := Lib.hid ((((HB.new w1 24 #[.slice A1 ys1.length c1, .int .i64 kind, .int .i64 t1]).alloc _)).below hb2)
  have F1_2 := Lib.hid (((HB.new1 w1 _ 29 #[.int .i64 0, .int .i64 0])).below hb2)
  have G_2 : Hid (Below w.heap.size w w2) := below_after (by have := G_1.out; have z := this.size; go_grown) hb2
  have I1_2 := Lib.hid ((I1_1.out.below (by go_grown)).below hb2)
  have I2_2 := Lib.hid hi2.is
  clear hl2 hi2 hb2 R_1 I1_1
  clear R0_1 R1_1 R2_1 Rl_1
  obtain ⟨R0_2, R1_2, R2_2, _, _, _⟩ := HB.row' R_2.out
  have Rl_2 := R_2.out.lt
  go_wp2_with fail
  refine (HN.out _ (HX.out.below (by have := G_2.out; have z := this.size; go_grown))).mono ?_
  rintro e w3 ⟨A3, c3, rfl, hl3, hi3, hb3⟩
  have R_3 := Lib.hid ((((R_2.out.alloc _).alloc _)).below hb3)
  have T1_3 := Lib.hid ((((T1_2.out.alloc _).alloc _)).below hb3)
  have F1_3 := Lib.hid ((((F1_2.out.alloc _).alloc _)).below hb3)
  have T2_3 := Lib.hid ((((HB.new w2 24 #[.slice A2 ys2.length c2, .int .i64 k2, .int .i64 t2]).alloc _)).below hb3)
  have F2_3 := Lib.hid (((HB.new1 w2 _ 29 #[.int .i64 u2, .int .i64 0])).below hb3)
  have G_3 : Hid (Below w.heap.size w w3) := below_after (by have := G_2.out; have z := this.size; go_grown) hb3
  have I1_3 := Lib.hid ((I1_2.out.below (by go_grown)).below hb3)
  have I2_3 := Lib.hid ((I2_2.out.below (by go_grown)).below hb3)
  have I3_3 := Lib.hid hi3.is
  clear hl3 hi3 hb3 R_2 T1_2 F1_2 I1_2 I2_2
  clear R0_2 R1_2 R2_2 Rl_2
  obtain ⟨R0_3, R1_3, R2_3, _, _, _⟩ := HB.row' R_3.out
  have Rl_3 := R_3.out.lt
  go_wp2_with fail
  refine (HE.out _ (HX.out.below (by have := G_3.out; have z := this.size; go_grown))).mono ?_
  rintro e w4 ⟨rfl, hb4⟩
  have R_4 := Lib.hid ((((R_3.out.alloc _).alloc _)).below hb4)
  have T1_4 := Lib.hid ((((T1_3.out.alloc _).alloc _)).below hb4)
  have F1_4 := Lib.hid ((((F1_3.out.alloc _).alloc _)).below hb4)
  have T2_4 := Lib.hid ((((T2_3.out.alloc _).alloc _)).below hb4)
  have F2_4 := Lib.hid ((((F2_3.out.alloc _).alloc _)).below hb4)
  have T3_4 := Lib.hid ((((HB.new w3 24 #[.slice A3 0 c3, .int .i64 0, .int .i64 0]).alloc _)).below hb4)
  have F3_4 := Lib.hid (((HB.new1 w3 _ 29 #[.int .i64 4, .int .i64 0])).below hb4)
  have G_4 : Hid (Below w.heap.size w w4) := below_after (by have := G_3.out; have z := this.size; go_grown) hb4
  have I1_4 := Lib.hid ((I1_3.out.below (by go_grown)).below hb4)
  have I2_4 := Lib.hid ((I2_3.out.below (by go_grown)).below hb4)
  have I3_4 := Lib.hid ((I3_3.out.below (by go_grown)).below hb4)
  clear hb4 R_3 T1_3 F1_3 T2_3 F2_3 I1_3 I2_3 I3_3
  clear R0_3 R1_3 R2_3 Rl_3
  obtain ⟨R0_4, R1_4, R2_4, _, _, _⟩ := HB.row' R_4.out
  have Rl_4 := R_4.out.lt
  obtain ⟨T10_4, T11_4, T12_4, _, _, _⟩ := HB.row' T1_4.out
  have T1l_4 := T1_4.out.lt
  obtain ⟨F10_4, F11_4, _, _⟩ := HB.two F1_4.out
  have F1l_4 := F1_4.out.lt
  obtain ⟨T20_4, T21_4, T22_4, _, _, _⟩ := HB.row' T2_4.out
  have T2l_4 := T2_4.out.lt
  obtain ⟨F20_4, F21_4, _, _⟩ := HB.two F2_4.out
  have F2l_4 := F2_4.out.lt
  obtain ⟨T30_4, T31_4, T32_4, _, _, _⟩ := HB.row' T3_4.out
  have T3l_4 := T3_4.out.lt
  obtain ⟨F30_4, F31_4, _, _⟩ := HB.two F3_4.out
  have F3l_4 := F3_4.out.lt
  go_wp2_with fail
  refine (HRW.out _ (HX.out.below (by have := G_4.out; have z := this.size; go_grown))).mono ?_
  rintro e w5 ⟨A5, c5, rfl, hl5, hi5, hb5⟩
  have R_5 := Lib.hid (((R_4.out.alloc _)).below hb5)
  have T1_5 := Lib.hid (((T1_4.out.alloc _)).below hb5)
  have F1_5 := Lib.hid (((F1_4.out.alloc _)).below hb5)
  have T2_5 := Lib.hid (((T2_4.out.alloc _)).below hb5)
  have F2_5 := Lib.hid (((F2_4.out.alloc _)).below hb5)
  have T3_5 := Lib.hid (((T3_4.out.alloc _)).below hb5)
  have F3_5 := Lib.hid (((F3_4.out.alloc _)).below hb5)
  have E_5 := Lib.hid (((HB.new w4 29 #[.int .i64 0, .int .i64 0])).below hb5)
  have G_5 : Hid (Below w.heap.size w w5) := below_after (by have := G_4.out; have z := this.size; go_grown) hb5
  have I1_5 := Lib.hid ((I1_4.out.below (by go_grown)).below hb5)
  have I2_5 := Lib.hid ((I2_4.out.below (by go_grown)).below hb5)
  have I3_5 := Lib.hid ((I3_4.out.below (by go_grown)).below hb5)
  have I5_5 := Lib.hid hi5.is
  clear hl5 hi5 hb5 R_4 T1_4 F1_4 T2_4 F2_4 T3_4 F3_4 I1_4 I2_4 I3_4
  clear R0_4 R1_4 R2_4 Rl_4 T10_4 T11_4 T12_4 T1l_4 F10_4 F11_4 F1l_4 T20_4 T21_4 T22_4 T2l_4 F20_4 F21_4 F2l_4 T30_4 T31_4 T32_4 T3l_4 F30_4 F31_4 F3l_4
  go_wp2_with fail
  generalize hw6 : (w5.alloc (.cells #[.slice A5 ys2.length c5, .int .i64 k2, .int .i64 t2] 24)).alloc (.cells #[.int .i64 u2, .int .i64 0] 29) = w6
  have hb6 : Below ((w5.alloc (.cells #[.slice A5 ys2.length c5, .int .i64 k2, .int .i64 t2] 24)).alloc (.cells #[.int .i64 u2, .int .i64 0] 29)).heap.size ((w5.alloc (.cells #[.slice A5 ys2.length c5, .int .i64 k2, .int .i64 t2] 24)).alloc (.cells #[.int .i64 u2, .int .i64 0] 29)) w6 := hw6 ▸ Below.refl _ _
  have R_6 := Lib.hid ((((R_5.out.alloc _).alloc _)).below hb6)
  have T1_6 := Lib.hid ((((T1_5.out.alloc _).alloc _)).below hb6)
  have F1_6 := Lib.hid ((((F1_5.out.alloc _).alloc _)).below hb6)
  have T2_6 := Lib.hid ((((T2_5.out.alloc _).alloc _)).below hb6)
  have F2_6 := Lib.hid ((((F2_5.out.alloc _).alloc _)).below hb6)
  have T3_6 := Lib.hid ((((T3_5.out.alloc _).alloc _)).below hb6)
  have F3_6 := Lib.hid ((((F3_5.out.alloc _).alloc _)).below hb6)
  have E_6 := Lib.hid ((((E_5.out.alloc _).alloc _)).below hb6)
  have TA_6 := Lib.hid ((((HB.new w5 24 #[.slice A5 ys2.length c5, .int .i64 k2, .int .i64 t2]).alloc _)).below hb6)
  have FA_6 := Lib.hid (((HB.new1 w5 _ 29 #[.int .i64 u2, .int .i64 0])).below hb6)
  have G_6 : Hid (Below w.heap.size w w6) := below_after (by have := G_5.out; have z := this.size; go_grown) hb6
  have I1_6 := Lib.hid ((I1_5.out.below (by go_grown)).below hb6)
  have I2_6 := Lib.hid ((I2_5.out.below (by go_grown)).below hb6)
  have I3_6 := Lib.hid ((I3_5.out.below (by go_grown)).below hb6)
  have I5_6 := Lib.hid ((I5_5.out.below (by go_grown)).below hb6)
  clear hb6 hw6 R_5 T1_5 F1_5 T2_5 F2_5 T3_5 F3_5 E_5 I1_5 I2_5 I3_5 I5_5
  go_region_held3 (fun w' => w'.cell? ⟨w.heap.size, 0, none⟩ = some (.slice A L c) ∧ w'.cell? ⟨w.heap.size, 1, none⟩ = some (.int .i64 kind) ∧ w'.cell? ⟨w.heap.size, 2, none⟩ = some (.int .i64 tt) ∧ w'.cell? ⟨w1.heap.size, 0, none⟩ = some (.slice A1 ys1.length c1) ∧ w'.cell? ⟨w1.heap.size, 1, none⟩ = some (.int .i64 kind) ∧ w'.cell? ⟨w1.heap.size, 2, none⟩ = some (.int .i64 t1) ∧ w'.cell? ⟨w1.heap.size + 1, 0, none⟩ = some (.int .i64 0) ∧ w'.cell? ⟨w1.heap.size + 1, 1, none⟩ = some (.int .i64 0) ∧ w'.cell? ⟨w2.heap.size, 0, none⟩ = some (.slice A2 ys2.length c2) ∧ w'.cell? ⟨w2.heap.size, 1, none⟩ = some (.int .i64 k2) ∧ w'.cell? ⟨w2.heap.size, 2, none⟩ = some (.int .i64 t2) ∧ w'.cell? ⟨w2.heap.size + 1, 0, none⟩ = some (.int .i64 u2) ∧ w'.cell? ⟨w2.heap.size + 1, 1, none⟩ = some (.int .i64 0) ∧ w'.cell? ⟨w5.heap.size, 0, none⟩ = some (.slice A5 ys2.length c5) ∧ w'.cell? ⟨w5.heap.size, 1, none⟩ = some (.int .i64 k2) ∧ w'.cell? ⟨w5.heap.size, 2, none⟩ = some (.int .i64 t2) ∧ w'.cell? ⟨w5.heap.size + 1, 0, none⟩ = some (.int .i64 u2) ∧ w'.cell? ⟨w5.heap.size + 1, 1, none⟩ = some (.int .i64 0))
    ((first | (with_reducible exact cells_eight R_9.out T1_9.out F1_9.out T2_9.out F2_9.out TA_9.out FA_9.out) | (with_reducible exact cells_eight R_8.out T1_8.out F1_8.out T2_8.out F2_8.out TA_8.out FA_8.out) | (with_reducible exact cells_eight R_7.out T1_7.out F1_7.out T2_7.out F2_7.out TA_7.out FA_7.out) | (with_reducible exact cells_eight (HB.drew R_6.out) (HB.drew T1_6.out) (HB.drew F1_6.out) (HB.drew T2_6.out) (HB.drew F2_6.out) (HB.drew TA_6.out) (HB.drew FA_6.out))))
    (first
      | (go_at_call 24; refine (HRT.out _ (Is.drew (HX.out.below G_6.out))).mono ?_; rintro e w7 ⟨A7, c7, rfl, hl7, hi7, hb7⟩; have R_7 := Lib.hid ((HB.drew R_6.out).below hb7); have T1_7 := Lib.hid ((HB.drew T1_6.out).below hb7); have F1_7 := Lib.hid ((HB.drew F1_6.out).below hb7); have T2_7 := Lib.hid ((HB.drew T2_6.out).below hb7); have F2_7 := Lib.hid ((HB.drew F2_6.out).below hb7); have T3_7 := Lib.hid ((HB.drew T3_6.out).below hb7); have F3_7 := Lib.hid ((HB.drew F3_6.out).below hb7); have E_7 := Lib.hid ((HB.drew E_6.out).below hb7); have TA_7 := Lib.hid ((HB.drew TA_6.out).below hb7); have FA_7 := Lib.hid ((HB.drew FA_6.out).below hb7); have I1_7 := Lib.hid ((Is.drew I1_6.out).below hb7); have I2_7 := Lib.hid ((Is.drew I2_6.out).below hb7); have I3_7 := Lib.hid ((Is.drew I3_6.out).below hb7); have I5_7 := Lib.hid ((Is.drew I5_6.out).below hb7); have G_7 := Lib.hid (bw_below (Nat.le_refl _) G_6.out.drew hb7); have I7_7 := Lib.hid hi7.is; clear hi7 hb7 hl7)
      | (go_at_call 22; (with_reducible refine (samerow_any A1 A7 ys1 ys1 ys1.length c1 ys1.length c7 kind t1 kind t1 rfl rfl (by omega) (by omega) _ I1_7.out I7_7.out).mono ?_); rintro e w8 ⟨rfl, hb8⟩; have R_8 := Lib.hid (R_7.out.below hb8); have T1_8 := Lib.hid (T1_7.out.below hb8); have F1_8 := Lib.hid (F1_7.out.below hb8); have T2_8 := Lib.hid (T2_7.out.below hb8); have F2_8 := Lib.hid (F2_7.out.below hb8); have T3_8 := Lib.hid (T3_7.out.below hb8); have F3_8 := Lib.hid (F3_7.out.below hb8); have E_8 := Lib.hid (E_7.out.below hb8); have TA_8 := Lib.hid (TA_7.out.below hb8); have FA_8 := Lib.hid (FA_7.out.below hb8); have I1_8 := Lib.hid (I1_7.out.below hb8); have I2_8 := Lib.hid (I2_7.out.below hb8); have I3_8 := Lib.hid (I3_7.out.below hb8); have I5_8 := Lib.hid (I5_7.out.below hb8); have I7_8 := Lib.hid (I7_7.out.below hb8); have G_8 := Lib.hid (bw_below (Nat.le_refl _) G_7.out hb8); clear hb8)
      | (go_at_call 22; (with_reducible refine (samerow_any A2 A5 ys2 ys2 ys2.length c2 ys2.length c5 k2 t2 k2 t2 rfl rfl (by omega) (by omega) _ I2_8.out I5_8.out).mono ?_); rintro e w9 ⟨rfl, hb9⟩; have R_9 := Lib.hid (R_8.out.below hb9); have T1_9 := Lib.hid (T1_8.out.below hb9); have F1_9 := Lib.hid (F1_8.out.below hb9); have T2_9 := Lib.hid (T2_8.out.below hb9); have F2_9 := Lib.hid (F2_8.out.below hb9); have T3_9 := Lib.hid (T3_8.out.below hb9); have F3_9 := Lib.hid (F3_8.out.below hb9); have E_9 := Lib.hid (E_8.out.below hb9); have TA_9 := Lib.hid (TA_8.out.below hb9); have FA_9 := Lib.hid (FA_8.out.below hb9); have I1_9 := Lib.hid (I1_8.out.below hb9); have I2_9 := Lib.hid (I2_8.out.below hb9); have I3_9 := Lib.hid (I3_8.out.below hb9); have I5_9 := Lib.hid (I5_8.out.below hb9); have I7_9 := Lib.hid (I7_8.out.below hb9); have G_9 := Lib.hid (bw_below (Nat.le_refl _) G_8.out hb9); clear hb9))
  all_goals
    clear R_6 T1_6 F1_6 T2_6 F2_6 T3_6 F3_6 E_6 TA_6 FA_6 R_7 T1_7 F1_7 T2_7 F2_7 T3_7 F3_7 E_7 TA_7 FA_7 R_8 T1_8 F1_8 T2_8 F2_8 T3_8 F3_8 E_8 TA_8 FA_8 I1_6 I2_6 I3_6 I5_6 I1_7 I2_7 I3_7 I5_7 I1_8 I2_8 I3_8 I5_8 I7_7 I7_8 I7_9 G_6 G_7 G_8
    obtain ⟨R0_9, R1_9, R2_9, _, _, _⟩ := HB.row' R_9.out
    have Rl_9 := R_9.out.lt
    obtain ⟨T30_9, T31_9, T32_9, _, _, _⟩ := HB.row' T3_9.out
    have T3l_9 := T3_9.out.lt
    obtain ⟨F30_9, F31_9, _, _⟩ := HB.two F3_9.out
    have F3l_9 := F3_9.out.lt
    go_wp2_with fail
    go_region_held3 (fun w' => w'.cell? ⟨w3.heap.size + 1, 0, none⟩ = some (.int .i64 4) ∧ w'.cell? ⟨w3.heap.size + 1, 1, none⟩ = some (.int .i64 0) ∧ w'.cell? ⟨w3.heap.size, 0, none⟩ = some (.slice A3 0 c3) ∧ w'.cell? ⟨w3.heap.size, 1, none⟩ = some (.int .i64 0) ∧ w'.cell? ⟨w3.heap.size, 2, none⟩ = some (.int .i64 0))
      (first | exact ⟨F3_11.out.cell 0, F3_11.out.cell 1, T3_11.out.cell 0, T3_11.out.cell 1, T3_11.out.cell 2⟩ | exact ⟨F3_10.out.cell 0, F3_10.out.cell 1, T3_10.out.cell 0, T3_10.out.cell 1, T3_10.out.cell 2⟩ | exact ⟨(HB.drew F3_9.out).cell 0, (HB.drew F3_9.out).cell 1, (HB.drew T3_9.out).cell 0, (HB.drew T3_9.out).cell 1, (HB.drew T3_9.out).cell 2⟩)
      (first
        | (go_at_call 25; refine (fault_any 4 0 _).mono ?_; rintro e w10 ⟨rfl, hb10⟩; have F3_10 := Lib.hid ((HB.drew F3_9.out).below hb10); have T3_10 := Lib.hid ((HB.drew T3_9.out).below hb10); have G_10 := Lib.hid (bw_below (Nat.le_refl _) G_9.out.drew hb10); clear hb10)
        | (go_at_call 22; refine (samerow_any A3 none [] [] 0 c3 0 0 0 0 0 0 rfl rfl (by omega) (by omega) _ (fun z => absurd z (by simp)) (fun z => absurd z (by simp))).mono ?_; rintro e w11 ⟨rfl, hb11⟩; have F3_11 := Lib.hid (F3_10.out.below hb11); have T3_11 := Lib.hid (T3_10.out.below hb11); have G_11 := Lib.hid (bw_below (Nat.le_refl _) G_10.out hb11); clear hb11))
    all_goals
      go_wp2
      go_ret
      exact ⟨rfl, G_11.out⟩
set_option maxRecDepth 100000 in
set_option maxHeartbeats 30000000 in
theorem rowforms_two (A : Option Addr) (xs ys1 ys2 : List Int) (L c : Nat) (kind tt t1 k2 t2 u2 : Int) (w : World) (h : Is w A xs) (hL : L = xs.length) (hk : kind = 1 ∨ kind = 2) (i1 : -1000000 ≤ tt) (i2 : tt ≤ 1000000) (hc : L ≤ c) (h12 : L ≤ 12) (hin : ∀ i, i < L → inB (nth xs i) = true) (l1 : ys1.length ≤ 12) (l2 : ys2.length ≤ 12)
    (hT : ∀ W, Is W A xs → Calls Try.prog 19 #[.agg #[.slice A L c, .int .i64 kind, .int .i64 tt]] W (GivesRF ys1 kind t1 0 0 W)) (hW : ∀ W, Is W A xs → Calls Try.prog 20 #[.agg #[.slice A L c, .int .i64 kind, .int .i64 tt]] W (GivesRF ys2 k2 t2 u2 0 W)) (hN : ∀ W, Is W A xs → Calls Try.prog 21 #[.agg #[.slice A L c, .int .i64 kind, .int .i64 tt]] W (fun e w' => ∃ A3 c3, e = .returned (.tuple #[.agg #[.slice A3 L c3, .int .i64 (3 - kind), .int .i64 (-tt)], .agg #[.int .i64 0, .int .i64 0]]) ∧ L ≤ c3 ∧ Isb W.heap.size w' A3 (negL xs) ∧ Below W.heap.size W w'))
    (hE : ∀ W, Is W A xs → Calls Try.prog 15 #[.agg #[.slice A L c, .int .i64 kind, .int .i64 tt], .int .i64 12] W (GivesF 0 0 W))
    (hRT : ∀ W, Is W A xs → Calls Try.prog 24 #[.agg #[.slice A L c, .int .i64 kind, .int .i64 tt]] W (GivesL ys1 kind t1 W)) (hRW : ∀ W, Is W A xs → Calls Try.prog 23 #[.agg #[.slice A L c, .int .i64 kind, .int .i64 tt]] W (GivesRF ys2 k2 t2 u2 0 W)) :
    Calls Try.prog 4 #[.agg #[.slice A L c, .int .i64 kind, .int .i64 tt]] w fun e w' => e = .returned (.bool true) ∧ Below w.heap.size w w' := by
  have q2 : (u2 != u2) = false := by simp
  have HX := Lib.hid h
  have HT := Lib.hid hT
  have HW := Lib.hid hW
  have HN := Lib.hid hN
  have HE := Lib.hid hE
  have HRT := Lib.hid hRT
  have HRW := Lib.hid hRW
  have HL := Lib.hid hL
  clear h hT hW hN hE hRT hRW hL
  have e3 : (kind == 3) = false := by simp; omega
  have w1 : IntKind.i64.wrap (3 - kind) = 3 - kind := IntWalk.i64_in _ (by omega)
  have w2 : IntKind.i64.wrap (-tt) = -tt := IntWalk.i64_in _ (by omega)
  have e4 : (3 - kind != 3 - kind) = false := by simp
  have e5 : (-tt != -tt) = false := by simp
  have e6 : ((L : Int) != L) = false := by simp
  have HI := Lib.hid hin
  clear hk hin
  go_enter Try.func4, Try.ntmps4
  go_wp2_with fail
  refine (HT.out _ (HX.out.below (by go_grown))).mono ?_
  rintro e w1 ⟨A1, c1, rfl, hl1, hi1, hb1⟩
  have R_1 := Lib.hid (((HB.new w 24 #[.slice A L c, .int .i64 kind, .int .i64 tt])).below hb1)
  have G_1 : Hid (Below w.heap.size w w1) := below_after (by go_grown) hb1
  have I1_1 := Lib.hid hi1.is
  clear hl1 hi1 hb1
  obtain ⟨R0_1, R1_1, R2_1, _, _, _⟩ := HB.row' R_1.out
  have Rl_1 := R_1.out.lt
  go_wp2_with fail
  refine (HW.out _ (HX.out.below (by have := G_1.out; have z := this.size; go_grown))).mono ?_
  rintro e w2 ⟨A2, c2, rfl, hl2, hi2, hb2⟩
  have R_2 := Lib.hid ((((R_1.out.alloc _).alloc _)).below hb2)
  have T1_2 := Lib.hid ((((HB.new w1 24 #[.slice A1 ys1.length c1, .int .i64 kind, .int .i64 t1]).alloc _)).below hb2)
  have F1_2 := Lib.hid (((HB.new1 w1 _ 29 #[.int .i64 0, .int .i64 0])).below hb2)
  have G_2 : Hid (Below w.heap.size w w2) := below_after (by have := G_1.out; have z := this.size; go_grown) hb2
  have I1_2 := Lib.hid ((I1_1.out.below (by go_grown)).below hb2)
  have I2_2 := Lib.hid hi2.is
  clear hl2 hi2 hb2 R_1 I1_1
  clear R0_1 R1_1 R2_1 Rl_1
  obtain ⟨R0_2, R1_2, R2_2, _, _, _⟩ := HB.row' R_2.out
  have Rl_2 := R_2.out.lt
  go_wp2_with fail
  refine (HN.out _ (HX.out.below (by have := G_2.out; have z := this.size; go_grown))).mono ?_
  rintro e w3 ⟨A3, c3, rfl, hl3, hi3, hb3⟩
  have R_3 := Lib.hid ((((R_2.out.alloc _).alloc _)).below hb3)
  have T1_3 := Lib.hid ((((T1_2.out.alloc _).alloc _)).below hb3)
  have F1_3 := Lib.hid ((((F1_2.out.alloc _).alloc _)).below hb3)
  have T2_3 := Lib.hid ((((HB.new w2 24 #[.slice A2 ys2.length c2, .int .i64 k2, .int .i64 t2]).alloc _)).below hb3)
  have F2_3 := Lib.hid (((HB.new1 w2 _ 29 #[.int .i64 u2, .int .i64 0])).below hb3)
  have G_3 : Hid (Below w.heap.size w w3) := below_after (by have := G_2.out; have z := this.size; go_grown) hb3
  have I1_3 := Lib.hid ((I1_2.out.below (by go_grown)).below hb3)
  have I2_3 := Lib.hid ((I2_2.out.below (by go_grown)).below hb3)
  have I3_3 := Lib.hid hi3.is
  clear hl3 hi3 hb3 R_2 T1_2 F1_2 I1_2 I2_2
  clear R0_2 R1_2 R2_2 Rl_2
  obtain ⟨R0_3, R1_3, R2_3, _, _, _⟩ := HB.row' R_3.out
  have Rl_3 := R_3.out.lt
  go_wp2_with fail
  refine (HE.out _ (HX.out.below (by have := G_3.out; have z := this.size; go_grown))).mono ?_
  rintro e w4 ⟨rfl, hb4⟩
  have R_4 := Lib.hid ((((R_3.out.alloc _).alloc _)).below hb4)
  have T1_4 := Lib.hid ((((T1_3.out.alloc _).alloc _)).below hb4)
  have F1_4 := Lib.hid ((((F1_3.out.alloc _).alloc _)).below hb4)
  have T2_4 := Lib.hid ((((T2_3.out.alloc _).alloc _)).below hb4)
  have F2_4 := Lib.hid ((((F2_3.out.alloc _).alloc _)).below hb4)
  have T3_4 := Lib.hid ((((HB.new w3 24 #[.slice A3 L c3, .int .i64 (3 - kind), .int .i64 (-tt)]).alloc _)).below hb4)
  have F3_4 := Lib.hid (((HB.new1 w3 _ 29 #[.int .i64 0, .int .i64 0])).below hb4)
  have G_4 : Hid (Below w.heap.size w w4) := below_after (by have := G_3.out; have z := this.size; go_grown) hb4
  have I1_4 := Lib.hid ((I1_3.out.below (by go_grown)).below hb4)
  have I2_4 := Lib.hid ((I2_3.out.below (by go_grown)).below hb4)
  have I3_4 := Lib.hid ((I3_3.out.below (by go_grown)).below hb4)
  clear hb4 R_3 T1_3 F1_3 T2_3 F2_3 I1_3 I2_3 I3_3
  clear R0_3 R1_3 R2_3 Rl_3
  obtain ⟨R0_4, R1_4, R2_4, _, _, _⟩ := HB.row' R_4.out
  have Rl_4 := R_4.out.lt
  obtain ⟨T10_4, T11_4, T12_4, _, _, _⟩ := HB.row' T1_4.out
  have T1l_4 := T1_4.out.lt
  obtain ⟨F10_4, F11_4, _, _⟩ := HB.two F1_4.out
  have F1l_4 := F1_4.out.lt
  obtain ⟨T20_4, T21_4, T22_4, _, _, _⟩ := HB.row' T2_4.out
  have T2l_4 := T2_4.out.lt
  obtain ⟨F20_4, F21_4, _, _⟩ := HB.two F2_4.out
  have F2l_4 := F2_4.out.lt
  obtain ⟨T30_4, T31_4, T32_4, _, _, _⟩ := HB.row' T3_4.out
  have T3l_4 := T3_4.out.lt
  obtain ⟨F30_4, F31_4, _, _⟩ := HB.two F3_4.out
  have F3l_4 := F3_4.out.lt
  go_wp2_with fail
  refine (HRW.out _ (HX.out.below (by have := G_4.out; have z := this.size; go_grown))).mono ?_
  rintro e w5 ⟨A5, c5, rfl, hl5, hi5, hb5⟩
  have R_5 := Lib.hid (((R_4.out.alloc _)).below hb5)
  have T1_5 := Lib.hid (((T1_4.out.alloc _)).below hb5)
  have F1_5 := Lib.hid (((F1_4.out.alloc _)).below hb5)
  have T2_5 := Lib.hid (((T2_4.out.alloc _)).below hb5)
  have F2_5 := Lib.hid (((F2_4.out.alloc _)).below hb5)
  have T3_5 := Lib.hid (((T3_4.out.alloc _)).below hb5)
  have F3_5 := Lib.hid (((F3_4.out.alloc _)).below hb5)
  have E_5 := Lib.hid (((HB.new w4 29 #[.int .i64 0, .int .i64 0])).below hb5)
  have G_5 : Hid (Below w.heap.size w w5) := below_after (by have := G_4.out; have z := this.size; go_grown) hb5
  have I1_5 := Lib.hid ((I1_4.out.below (by go_grown)).below hb5)
  have I2_5 := Lib.hid ((I2_4.out.below (by go_grown)).below hb5)
  have I3_5 := Lib.hid ((I3_4.out.below (by go_grown)).below hb5)
  have I5_5 := Lib.hid hi5.is
  clear hl5 hi5 hb5 R_4 T1_4 F1_4 T2_4 F2_4 T3_4 F3_4 I1_4 I2_4 I3_4
  clear R0_4 R1_4 R2_4 Rl_4 T10_4 T11_4 T12_4 T1l_4 F10_4 F11_4 F1l_4 T20_4 T21_4 T22_4 T2l_4 F20_4 F21_4 F2l_4 T30_4 T31_4 T32_4 T3l_4 F30_4 F31_4 F3l_4
  go_wp2_with fail
  generalize hw6 : (w5.alloc (.cells #[.slice A5 ys2.length c5, .int .i64 k2, .int .i64 t2] 24)).alloc (.cells #[.int .i64 u2, .int .i64 0] 29) = w6
  have hb6 : Below ((w5.alloc (.cells #[.slice A5 ys2.length c5, .int .i64 k2, .int .i64 t2] 24)).alloc (.cells #[.int .i64 u2, .int .i64 0] 29)).heap.size ((w5.alloc (.cells #[.slice A5 ys2.length c5, .int .i64 k2, .int .i64 t2] 24)).alloc (.cells #[.int .i64 u2, .int .i64 0] 29)) w6 := hw6 ▸ Below.refl _ _
  have R_6 := Lib.hid ((((R_5.out.alloc _).alloc _)).below hb6)
  have T1_6 := Lib.hid ((((T1_5.out.alloc _).alloc _)).below hb6)
  have F1_6 := Lib.hid ((((F1_5.out.alloc _).alloc _)).below hb6)
  have T2_6 := Lib.hid ((((T2_5.out.alloc _).alloc _)).below hb6)
  have F2_6 := Lib.hid ((((F2_5.out.alloc _).alloc _)).below hb6)
  have T3_6 := Lib.hid ((((T3_5.out.alloc _).alloc _)).below hb6)
  have F3_6 := Lib.hid ((((F3_5.out.alloc _).alloc _)).below hb6)
  have E_6 := Lib.hid ((((E_5.out.alloc _).alloc _)).below hb6)
  have TA_6 := Lib.hid ((((HB.new w5 24 #[.slice A5 ys2.length c5, .int .i64 k2, .int .i64 t2]).alloc _)).below hb6)
  have FA_6 := Lib.hid (((HB.new1 w5 _ 29 #[.int .i64 u2, .int .i64 0])).below hb6)
  have G_6 : Hid (Below w.heap.size w w6) := below_after (by have := G_5.out; have z := this.size; go_grown) hb6
  have I1_6 := Lib.hid ((I1_5.out.below (by go_grown)).below hb6)
  have I2_6 := Lib.hid ((I2_5.out.below (by go_grown)).below hb6)
  have I3_6 := Lib.hid ((I3_5.out.below (by go_grown)).below hb6)
  have I5_6 := Lib.hid ((I5_5.out.below (by go_grown)).below hb6)
  clear hb6 hw6 R_5 T1_5 F1_5 T2_5 F2_5 T3_5 F3_5 E_5 I1_5 I2_5 I3_5 I5_5
  go_region_held3 (fun w' => w'.cell? ⟨w.heap.size, 0, none⟩ = some (.slice A L c) ∧ w'.cell? ⟨w.heap.size, 1, none⟩ = some (.int .i64 kind) ∧ w'.cell? ⟨w.heap.size, 2, none⟩ = some (.int .i64 tt) ∧ w'.cell? ⟨w1.heap.size, 0, none⟩ = some (.slice A1 ys1.length c1) ∧ w'.cell? ⟨w1.heap.size, 1, none⟩ = some (.int .i64 kind) ∧ w'.cell? ⟨w1.heap.size, 2, none⟩ = some (.int .i64 t1) ∧ w'.cell? ⟨w1.heap.size + 1, 0, none⟩ = some (.int .i64 0) ∧ w'.cell? ⟨w1.heap.size + 1, 1, none⟩ = some (.int .i64 0) ∧ w'.cell? ⟨w2.heap.size, 0, none⟩ = some (.slice A2 ys2.length c2) ∧ w'.cell? ⟨w2.heap.size, 1, none⟩ = some (.int .i64 k2) ∧ w'.cell? ⟨w2.heap.size, 2, none⟩ = some (.int .i64 t2) ∧ w'.cell? ⟨w2.heap.size + 1, 0, none⟩ = some (.int .i64 u2) ∧ w'.cell? ⟨w2.heap.size + 1, 1, none⟩ = some (.int .i64 0) ∧ w'.cell? ⟨w5.heap.size, 0, none⟩ = some (.slice A5 ys2.length c5) ∧ w'.cell? ⟨w5.heap.size, 1, none⟩ = some (.int .i64 k2) ∧ w'.cell? ⟨w5.heap.size, 2, none⟩ = some (.int .i64 t2) ∧ w'.cell? ⟨w5.heap.size + 1, 0, none⟩ = some (.int .i64 u2) ∧ w'.cell? ⟨w5.heap.size + 1, 1, none⟩ = some (.int .i64 0))
    ((first | (with_reducible exact cells_eight R_9.out T1_9.out F1_9.out T2_9.out F2_9.out TA_9.out FA_9.out) | (with_reducible exact cells_eight R_8.out T1_8.out F1_8.out T2_8.out F2_8.out TA_8.out FA_8.out) | (with_reducible exact cells_eight R_7.out T1_7.out F1_7.out T2_7.out F2_7.out TA_7.out FA_7.out) | (with_reducible exact cells_eight (HB.drew R_6.out) (HB.drew T1_6.out) (HB.drew F1_6.out) (HB.drew T2_6.out) (HB.drew F2_6.out) (HB.drew TA_6.out) (HB.drew FA_6.out))))
    (first
      | (go_at_call 24; refine (HRT.out _ (Is.drew (HX.out.below G_6.out))).mono ?_; rintro e w7 ⟨A7, c7, rfl, hl7, hi7, hb7⟩; have R_7 := Lib.hid ((HB.drew R_6.out).below hb7); have T1_7 := Lib.hid ((HB.drew T1_6.out).below hb7); have F1_7 := Lib.hid ((HB.drew F1_6.out).below hb7); have T2_7 := Lib.hid ((HB.drew T2_6.out).below hb7); have F2_7 := Lib.hid ((HB.drew F2_6.out).below hb7); have T3_7 := Lib.hid ((HB.drew T3_6.out).below hb7); have F3_7 := Lib.hid ((HB.drew F3_6.out).below hb7); have E_7 := Lib.hid ((HB.drew E_6.out).below hb7); have TA_7 := Lib.hid ((HB.drew TA_6.out).below hb7); have FA_7 := Lib.hid ((HB.drew FA_6.out).below hb7); have I1_7 := Lib.hid ((Is.drew I1_6.out).below hb7); have I2_7 := Lib.hid ((Is.drew I2_6.out).below hb7); have I3_7 := Lib.hid ((Is.drew I3_6.out).below hb7); have I5_7 := Lib.hid ((Is.drew I5_6.out).below hb7); have G_7 := Lib.hid (bw_below (Nat.le_refl _) G_6.out.drew hb7); have I7_7 := Lib.hid hi7.is; clear hi7 hb7 hl7)
      | (go_at_call 22; (with_reducible refine (samerow_any A1 A7 ys1 ys1 ys1.length c1 ys1.length c7 kind t1 kind t1 rfl rfl (by omega) (by omega) _ I1_7.out I7_7.out).mono ?_); rintro e w8 ⟨rfl, hb8⟩; have R_8 := Lib.hid (R_7.out.below hb8); have T1_8 := Lib.hid (T1_7.out.below hb8); have F1_8 := Lib.hid (F1_7.out.below hb8); have T2_8 := Lib.hid (T2_7.out.below hb8); have F2_8 := Lib.hid (F2_7.out.below hb8); have T3_8 := Lib.hid (T3_7.out.below hb8); have F3_8 := Lib.hid (F3_7.out.below hb8); have E_8 := Lib.hid (E_7.out.below hb8); have TA_8 := Lib.hid (TA_7.out.below hb8); have FA_8 := Lib.hid (FA_7.out.below hb8); have I1_8 := Lib.hid (I1_7.out.below hb8); have I2_8 := Lib.hid (I2_7.out.below hb8); have I3_8 := Lib.hid (I3_7.out.below hb8); have I5_8 := Lib.hid (I5_7.out.below hb8); have I7_8 := Lib.hid (I7_7.out.below hb8); have G_8 := Lib.hid (bw_below (Nat.le_refl _) G_7.out hb8); clear hb8)
      | (go_at_call 22; (with_reducible refine (samerow_any A2 A5 ys2 ys2 ys2.length c2 ys2.length c5 k2 t2 k2 t2 rfl rfl (by omega) (by omega) _ I2_8.out I5_8.out).mono ?_); rintro e w9 ⟨rfl, hb9⟩; have R_9 := Lib.hid (R_8.out.below hb9); have T1_9 := Lib.hid (T1_8.out.below hb9); have F1_9 := Lib.hid (F1_8.out.below hb9); have T2_9 := Lib.hid (T2_8.out.below hb9); have F2_9 := Lib.hid (F2_8.out.below hb9); have T3_9 := Lib.hid (T3_8.out.below hb9); have F3_9 := Lib.hid (F3_8.out.below hb9); have E_9 := Lib.hid (E_8.out.below hb9); have TA_9 := Lib.hid (TA_8.out.below hb9); have FA_9 := Lib.hid (FA_8.out.below hb9); have I1_9 := Lib.hid (I1_8.out.below hb9); have I2_9 := Lib.hid (I2_8.out.below hb9); have I3_9 := Lib.hid (I3_8.out.below hb9); have I5_9 := Lib.hid (I5_8.out.below hb9); have I7_9 := Lib.hid (I7_8.out.below hb9); have G_9 := Lib.hid (bw_below (Nat.le_refl _) G_8.out hb9); clear hb9))
  all_goals
    clear R_6 T1_6 F1_6 T2_6 F2_6 T3_6 F3_6 E_6 TA_6 FA_6 R_7 T1_7 F1_7 T2_7 F2_7 T3_7 F3_7 E_7 TA_7 FA_7 R_8 T1_8 F1_8 T2_8 F2_8 T3_8 F3_8 E_8 TA_8 FA_8 I1_6 I2_6 I3_6 I5_6 I1_7 I2_7 I3_7 I5_7 I1_8 I2_8 I3_8 I5_8 I7_7 I7_8 I7_9 G_6 G_7 G_8
    obtain ⟨R0_9, R1_9, R2_9, _, _, _⟩ := HB.row' R_9.out
    have Rl_9 := R_9.out.lt
    obtain ⟨T30_9, T31_9, T32_9, _, _, _⟩ := HB.row' T3_9.out
    have T3l_9 := T3_9.out.lt
    obtain ⟨F30_9, F31_9, _, _⟩ := HB.two F3_9.out
    have F3l_9 := F3_9.out.lt
    go_wp2
    go_loopw [12] (fun k wr => ∃ i n : Nat, i ≤ L ∧ k = .int .i64 i ∧ wr = w9.drewN n) (fun k _ => L - (intOf k).toNat)
    case atStart => exact ⟨0, 0, by omega, rfl, rfl⟩
    case round =>
      obtain ⟨i, n, hi, rfl, rfl⟩ := hrel
      by_cases hlt : i < L
      · obtain ⟨b, o, rfl, hb, hc'⟩ := (HX.out.below G_9.out) (by rw [← HL.out]; omega)
        obtain ⟨b', o', rfl, hb', hc''⟩ := I3_9.out (by rw [negL_len, ← HL.out]; omega)
        have cx := hc' i (by rw [← HL.out]; exact hlt)
        have cy := hc'' i (by rw [negL_len, ← HL.out]; exact hlt)
        rw [nth_negL] at cy
        obtain ⟨j1, j2⟩ := inB_iff.1 (HI.out i hlt)
        have tw : IntKind.i64.wrap (-nth xs i) = -nth xs i := IntWalk.i64_in _ (by omega)
        have t1 : (0 : Int) ≤ i := by omega
        have t2 : (i : Int) < L := by omega
        have t3 : decide (i < L) = true := by simpa using hlt
        have dd : (-nth xs i != -nth xs i) = false := by simp
        clear hc' hc''
        go_wp2
        go_quiet (fail)
        go_wp2
        go_roundw
        case rel => exact ⟨i + 1, _, by omega, by go_num, rfl⟩
        case measure => simp [intOf]; omega
      · obtain rfl : i = L := by omega
        have t3 : decide (i < i) = false := by simp
        clear hlt
        go_wp2
        go_ret
        exact ⟨rfl, below_drewN G_9.out n⟩
end Go.Proofs.Ytkjollifghmkbaa
