/-
  Words: the reference: what an operation makes, bit by bit.
-/
import Derived.Test.YtibpgcdaommjeaaDoorWorR
import Derived.Test.YtibpgcdaommjeaaDoorQuT
namespace Go.Proofs.YtibpgcdaommjeaaDoor
open Go.RowKit

theorem rdo_15 (z n : Int) (A : Option Addr) (l c : Nat) (w : World) : Calls Tryd.prog 10 #[.int .i64 15, .int .i64 z, .slice A l c, .int .i64 n] w fun e w' => e = .returned (.int .i64 n) ∧ Below w.heap.size w w' := by
  go_enter Tryd.func10, Tryd.ntmps10
  go_wp2_with fail
  go_ret
  exact ⟨rfl, Below.refl _ _⟩
set_option maxRecDepth 100000 in
set_option maxHeartbeats 8000000 in
theorem rdo_16 (a k : Nat) (k1 : 1 ≤ k) (k8 : k ≤ 8) (ha : a ≤ 1000) (n : Int) (b o c : Nat) (w : World) (lb : b < w.heap.size) (c0 : w.cell? ⟨b, o, none⟩ = some (.int .i64 (a : Int))) : Calls Tryd.prog 10 #[.int .i64 16, .int .i64 (k : Int), .slice (some ⟨b, o, none⟩) 1 c, .int .i64 n] w fun e w' => e = .returned (.int .i64 (vl (fun j => !a.testBit j) k)) ∧ Below w.heap.size w w' := by
  rw [show (fun j => !a.testBit j) = fun j => !(fun j => a.testBit j) j from rfl]
  have HA := Lib.hid (fun W => rbits_any a k k8 ha W)
  have hmk := fun w => make_bools k (by omega) w
  have HK := Lib.hid hmk
  clear hmk ha
  generalize hT : (fun j => a.testBit j) = T at *
  clear hT
  go_enter Tryd.func10, Tryd.ntmps10
  go_wp2_with fail
  refine (HA.out _).mono ?_
  rintro e w1 ⟨A1, l1, rfl, hc1, hs, hb⟩
  have G1 := Lib.hid hb
  have S1 := Lib.hid hs.out
  clear hb hs
  have B3 := Lib.hid (HB.new w1 4 (BA (fun _ => false) k))
  have G3 := Lib.hid (new_below w1 (.cells (BA (fun _ => false) k) 4))
  have hmk := HK.out
  go_wp2_with fail
  clear hmk
  go_loopw [12] (fun t wr => ∃ (i : Nat) (B : Nat → Bool), i ≤ k ∧ t = .int .i64 i ∧ Hid (∀ j, j < i → B j = (!T j)) ∧ Hid (HB wr w1.heap.size 4 (BA B k)) ∧ Hid (Below w1.heap.size w1 wr)) (fun t _ => k - (intOf t).toNat)
  case atStart => exact ⟨0, fun _ => false, by omega, rfl, Lib.hid (fun j hj => absurd hj (by omega)), B3, G3⟩
  case round =>
    obtain ⟨i, B, hi, rfl, HJ, B4, G4⟩ := hrel
    clear B3 G3
    by_cases hlt : i < k
    · have t3 : decide ((i : Int) < (k : Int)) = true := by simpa using hlt
      obtain ⟨x0, x1⟩ := ba_cell B4.out hlt
      obtain ⟨g, o', rfl, lg, xc⟩ := (S1.out.below G4.out).at_ hlt
      have B5 := Lib.hid (ba_set B4.out i (!T i))
      have G5 := Lib.hid (G4.out.setCell (p := ⟨w1.heap.size, i, none⟩) (Nat.le_refl _) (.bool (!T i)))
      have HJ5 : Hid (∀ j, j < i + 1 → upv B i (!T i) j = !T j) := Lib.hid (fun j hj => by
        unfold upv
        by_cases z : j = i
        · rw [if_pos z, z]
        · rw [if_neg z]; exact HJ.out j (by omega))
      go_wp2_with fail
      go_round
      case rel => exact ⟨i + 1, _, by omega, by go_num, HJ5, B5, G5⟩
      case measure => simp [intOf]; omega
    · obtain rfl : i = k := by omega
      have t3 : decide ((i : Int) < (i : Int)) = false := by simp
      have S5 := Lib.hid ((ba_bs B4.out).congr HJ.out)
      have G5 := Lib.hid (bw_below (Nat.le_refl _) G1.out G4.out)
      go_wp2_with fail
      refine (rof_any _ i _ _ k8 _ S5.out).mono ?_
      rintro e wz ⟨rfl, rfl⟩
      go_wp2_with fail
      go_ret
      exact ⟨rfl, G5.out⟩
set_option maxRecDepth 100000 in
set_option maxHeartbeats 8000000 in
theorem rdo_17 (a k : Nat) (y : Nat) (k1 : 1 ≤ k) (k8 : k ≤ 8) (ha : a ≤ 1000) (hy : y ≤ 1000) (n : Int) (b o c : Nat) (w : World) (lb : b < w.heap.size) (c0 : w.cell? ⟨b, o, none⟩ = some (.int .i64 (a : Int))) (c1 : w.cell? ⟨b, o + 1, none⟩ = some (.int .i64 (y : Int))) : Calls Tryd.prog 10 #[.int .i64 17, .int .i64 (k : Int), .slice (some ⟨b, o, none⟩) 2 c, .int .i64 n] w fun e w' => e = .returned (.int .i64 (vl (fun j => a.testBit j && y.testBit j) k)) ∧ Below w.heap.size w w' := by
  rw [show (fun j => a.testBit j && y.testBit j) = fun j => (fun j => a.testBit j) j && (fun j => y.testBit j) j from rfl]
  have HA := Lib.hid (fun W => rbits_any a k k8 ha W)
  have HY := Lib.hid (fun W => rbits_any y k k8 hy W)
  have hmk := fun w => make_bools k (by omega) w
  have HK := Lib.hid hmk
  clear hmk ha hy
  generalize hT : (fun j => a.testBit j) = T at *
  clear hT
  generalize hU : (fun j => y.testBit j) = U at *
  clear hU
  go_enter Tryd.func10, Tryd.ntmps10
  go_wp2_with fail
  refine (HA.out _).mono ?_
  rintro e w1 ⟨A1, l1, rfl, hc1, hs, hb⟩
  have G1 := Lib.hid hb
  have S1 := Lib.hid hs.out
  obtain ⟨y1, yl⟩ : w1.cell? ⟨b, o + 1, none⟩ = some (.int .i64 (y : Int)) ∧ b < w1.heap.size := ⟨(hb.cell (p := ⟨b, o + 1, none⟩) lb).trans c1, Nat.lt_of_lt_of_le lb hb.size⟩
  clear hb hs
  go_wp2_with fail
  refine (HY.out _).mono ?_
  rintro e w2 ⟨A2, l2, rfl, hc2, hs, hb⟩
  have G2 := Lib.hid (bw_below (Nat.le_refl _) G1.out hb)
  have S2 := Lib.hid (S1.out.below hb)
  have U2 := Lib.hid hs.out
  clear hb hs S1 G1 y1 yl
  have B3 := Lib.hid (HB.new w2 4 (BA (fun _ => false) k))
  have G3 := Lib.hid (new_below w2 (.cells (BA (fun _ => false) k) 4))
  have hmk := HK.out
  go_wp2_with fail
  clear hmk
  go_loopw [13] (fun t wr => ∃ (i : Nat) (B : Nat → Bool), i ≤ k ∧ t = .int .i64 i ∧ Hid (∀ j, j < i → B j = (T j && U j)) ∧ Hid (HB wr w2.heap.size 4 (BA B k)) ∧ Hid (Below w2.heap.size w2 wr)) (fun t _ => k - (intOf t).toNat)
  case atStart => exact ⟨0, fun _ => false, by omega, rfl, Lib.hid (fun j hj => absurd hj (by omega)), B3, G3⟩
  case round =>
    obtain ⟨i, B, hi, rfl, HJ, B4, G4⟩ := hrel
    clear B3 G3
    by_cases hlt : i < k
    · have t3 : decide ((i : Int) < (k : Int)) = true := by simpa using hlt
      obtain ⟨x0, x1⟩ := ba_cell B4.out hlt
      obtain ⟨g, o', rfl, lg, xc⟩ := (S2.out.below G4.out).at_ hlt
      obtain ⟨g', o'', rfl, lg', yc⟩ := (U2.out.below G4.out).at_ hlt
      have B5 := Lib.hid (ba_set B4.out i (T i && U i))
      have G5 := Lib.hid (G4.out.setCell (p := ⟨w2.heap.size, i, none⟩) (Nat.le_refl _) (.bool (T i && U i)))
      have HJ5 : Hid (∀ j, j < i + 1 → upv B i (T i && U i) j = (T j && U j)) := Lib.hid (fun j hj => by
        unfold upv
        by_cases z : j = i
        · rw [if_pos z, z]
        · rw [if_neg z]; exact HJ.out j (by omega))
      cases ht : T i <;> cases hu : U i
      all_goals
        rw [ht] at xc B5 G5 HJ5
        rw [hu] at yc B5 G5 HJ5
        clear ht hu
        go_wp2_with fail
        refine wp_quiet_tail 48 (by kernel_rfl) (by kernel_rfl) ?_
        simp only [List.take_succ_cons, List.take_zero, List.drop_succ_cons, List.drop_zero]
        repeat (go_big_quiet_step (fail))
        refine wpQuiet_nil ?_
        go_wp2_with fail
        go_round
        case rel => exact ⟨i + 1, _, by omega, by go_num, HJ5, Lib.hid B5.out.drew, Lib.hid (bw_dn G5.out 1)⟩
        case measure => simp [intOf]; omega
    · obtain rfl : i = k := by omega
      have t3 : decide ((i : Int) < (i : Int)) = false := by simp
      have S5 := Lib.hid ((ba_bs B4.out).congr HJ.out)
      have G5 := Lib.hid (bw_below (Nat.le_refl _) G2.out G4.out)
      go_wp2_with fail
      refine (rof_any _ i _ _ k8 _ S5.out).mono ?_
      rintro e wz ⟨rfl, rfl⟩
      go_wp2_with fail
      go_ret
      exact ⟨rfl, G5.out⟩
set_option maxRecDepth 100000 in
set_option maxHeartbeats 8000000 in
theorem rdo_18 (a k : Nat) (y : Nat) (k1 : 1 ≤ k) (k8 : k ≤ 8) (ha : a ≤ 1000) (hy : y ≤ 1000) (n : Int) (b o c : Nat) (w : World) (lb : b < w.heap.size) (c0 : w.cell? ⟨b, o, none⟩ = some (.int .i64 (a : Int))) (c1 : w.cell? ⟨b, o + 1, none⟩ = some (.int .i64 (y : Int))) : Calls Tryd.prog 10 #[.int .i64 18, .int .i64 (k : Int), .slice (some ⟨b, o, none⟩) 2 c, .int .i64 n] w fun e w' => e = .returned (.int .i64 (vl (fun j => a.testBit j || y.testBit j) k)) ∧ Below w.heap.size w w' := by
  rw [show (fun j => a.testBit j || y.testBit j) = fun j => (fun j => a.testBit j) j || (fun j => y.testBit j) j from rfl]
  have HA := Lib.hid (fun W => rbits_any a k k8 ha W)
  have HY := Lib.hid (fun W => rbits_any y k k8 hy W)
  have hmk := fun w => make_bools k (by omega) w
  have HK := Lib.hid hmk
  clear hmk ha hy
  generalize hT : (fun j => a.testBit j) = T at *
  clear hT
  generalize hU : (fun j => y.testBit j) = U at *
  clear hU
  go_enter Tryd.func10, Tryd.ntmps10
  go_wp2_with fail
  refine (HA.out _).mono ?_
  rintro e w1 ⟨A1, l1, rfl, hc1, hs, hb⟩
  have G1 := Lib.hid hb
  have S1 := Lib.hid hs.out
  obtain ⟨y1, yl⟩ : w1.cell? ⟨b, o + 1, none⟩ = some (.int .i64 (y : Int)) ∧ b < w1.heap.size := ⟨(hb.cell (p := ⟨b, o + 1, none⟩) lb).trans c1, Nat.lt_of_lt_of_le lb hb.size⟩
  clear hb hs
  go_wp2_with fail
  refine (HY.out _).mono ?_
  rintro e w2 ⟨A2, l2, rfl, hc2, hs, hb⟩
  have G2 := Lib.hid (bw_below (Nat.le_refl _) G1.out hb)
  have S2 := Lib.hid (S1.out.below hb)
  have U2 := Lib.hid hs.out
  clear hb hs S1 G1 y1 yl
  have B3 := Lib.hid (HB.new w2 4 (BA (fun _ => false) k))
  have G3 := Lib.hid (new_below w2 (.cells (BA (fun _ => false) k) 4))
  have hmk := HK.out
  go_wp2_with fail
  clear hmk
  go_loopw [13] (fun t wr => ∃ (i : Nat) (B : Nat → Bool), i ≤ k ∧ t = .int .i64 i ∧ Hid (∀ j, j < i → B j = (T j || U j)) ∧ Hid (HB wr w2.heap.size 4 (BA B k)) ∧ Hid (Below w2.heap.size w2 wr)) (fun t _ => k - (intOf t).toNat)
  case atStart => exact ⟨0, fun _ => false, by omega, rfl, Lib.hid (fun j hj => absurd hj (by omega)), B3, G3⟩
  case round =>
    obtain ⟨i, B, hi, rfl, HJ, B4, G4⟩ := hrel
    clear B3 G3
    by_cases hlt : i < k
    · have t3 : decide ((i : Int) < (k : Int)) = true := by simpa using hlt
      obtain ⟨x0, x1⟩ := ba_cell B4.out hlt
      obtain ⟨g, o', rfl, lg, xc⟩ := (S2.out.below G4.out).at_ hlt
      obtain ⟨g', o'', rfl, lg', yc⟩ := (U2.out.below G4.out).at_ hlt
      have B5 := Lib.hid (ba_set B4.out i (T i || U i))
      have G5 := Lib.hid (G4.out.setCell (p := ⟨w2.heap.size, i, none⟩) (Nat.le_refl _) (.bool (T i || U i)))
      have HJ5 : Hid (∀ j, j < i + 1 → upv B i (T i || U i) j = (T j || U j)) := Lib.hid (fun j hj => by
        unfold upv
        by_cases z : j = i
        · rw [if_pos z, z]
        · rw [if_neg z]; exact HJ.out j (by omega))
      cases ht : T i <;> cases hu : U i
      all_goals
        rw [ht] at xc B5 G5 HJ5
        rw [hu] at yc B5 G5 HJ5
        clear ht hu
        go_wp2_with fail
        refine wp_quiet_tail 48 (by kernel_rfl) (by kernel_rfl) ?_
        simp only [List.take_succ_cons, List.take_zero, List.drop_succ_cons, List.drop_zero]
        repeat (go_big_quiet_step (fail))
        refine wpQuiet_nil ?_
        go_wp2_with fail
        go_round
        case rel => exact ⟨i + 1, _, by omega, by go_num, HJ5, Lib.hid B5.out.drew, Lib.hid (bw_dn G5.out 1)⟩
        case measure => simp [intOf]; omega
    · obtain rfl : i = k := by omega
      have t3 : decide ((i : Int) < (i : Int)) = false := by simp
      have S5 := Lib.hid ((ba_bs B4.out).congr HJ.out)
      have G5 := Lib.hid (bw_below (Nat.le_refl _) G2.out G4.out)
      go_wp2_with fail
      refine (rof_any _ i _ _ k8 _ S5.out).mono ?_
      rintro e wz ⟨rfl, rfl⟩
      go_wp2_with fail
      go_ret
      exact ⟨rfl, G5.out⟩
set_option maxRecDepth 100000 in
set_option maxHeartbeats 8000000 in
theorem rdo_19 (a k : Nat) (y : Nat) (k1 : 1 ≤ k) (k8 : k ≤ 8) (ha : a ≤ 1000) (hy : y ≤ 1000) (n : Int) (b o c : Nat) (w : World) (lb : b < w.heap.size) (c0 : w.cell? ⟨b, o, none⟩ = some (.int .i64 (a : Int))) (c1 : w.cell? ⟨b, o + 1, none⟩ = some (.int .i64 (y : Int))) : Calls Tryd.prog 10 #[.int .i64 19, .int .i64 (k : Int), .slice (some ⟨b, o, none⟩) 2 c, .int .i64 n] w fun e w' => e = .returned (.int .i64 (vl (fun j => a.testBit j != y.testBit j) k)) ∧ Below w.heap.size w w' := by
  rw [show (fun j => a.testBit j != y.testBit j) = fun j => (fun j => a.testBit j) j != (fun j => y.testBit j) j from rfl]
  have HA := Lib.hid (fun W => rbits_any a k k8 ha W)
  have HY := Lib.hid (fun W => rbits_any y k k8 hy W)
  have hmk := fun w => make_bools k (by omega) w
  have HK := Lib.hid hmk
  clear hmk ha hy
  generalize hT : (fun j => a.testBit j) = T at *
  clear hT
  generalize hU : (fun j => y.testBit j) = U at *
  clear hU
  go_enter Tryd.func10, Tryd.ntmps10
  go_wp2_with fail
  refine (HA.out _).mono ?_
  rintro e w1 ⟨A1, l1, rfl, hc1, hs, hb⟩
  have G1 := Lib.hid hb
  have S1 := Lib.hid hs.out
  obtain ⟨y1, yl⟩ : w1.cell? ⟨b, o + 1, none⟩ = some (.int .i64 (y : Int)) ∧ b < w1.heap.size := ⟨(hb.cell (p := ⟨b, o + 1, none⟩) lb).trans c1, Nat.lt_of_lt_of_le lb hb.size⟩
  clear hb hs
  go_wp2_with fail
  refine (HY.out _).mono ?_
  rintro e w2 ⟨A2, l2, rfl, hc2, hs, hb⟩
  have G2 := Lib.hid (bw_below (Nat.le_refl _) G1.out hb)
  have S2 := Lib.hid (S1.out.below hb)
  have U2 := Lib.hid hs.out
  clear hb hs S1 G1 y1 yl
  have B3 := Lib.hid (HB.new w2 4 (BA (fun _ => false) k))
  have G3 := Lib.hid (new_below w2 (.cells (BA (fun _ => false) k) 4))
  have hmk := HK.out
  go_wp2_with fail
  clear hmk
  go_loopw [13] (fun t wr => ∃ (i : Nat) (B : Nat → Bool), i ≤ k ∧ t = .int .i64 i ∧ Hid (∀ j, j < i → B j = (T j != U j)) ∧ Hid (HB wr w2.heap.size 4 (BA B k)) ∧ Hid (Below w2.heap.size w2 wr)) (fun t _ => k - (intOf t).toNat)
  case atStart => exact ⟨0, fun _ => false, by omega, rfl, Lib.hid (fun j hj => absurd hj (by omega)), B3, G3⟩
  case round =>
    obtain ⟨i, B, hi, rfl, HJ, B4, G4⟩ := hrel
    clear B3 G3
    by_cases hlt : i < k
    · have t3 : decide ((i : Int) < (k : Int)) = true := by simpa using hlt
      obtain ⟨x0, x1⟩ := ba_cell B4.out hlt
      obtain ⟨g, o', rfl, lg, xc⟩ := (S2.out.below G4.out).at_ hlt
      obtain ⟨g', o'', rfl, lg', yc⟩ := (U2.out.below G4.out).at_ hlt
      have B5 := Lib.hid (ba_set B4.out i (T i != U i))
      have G5 := Lib.hid (G4.out.setCell (p := ⟨w2.heap.size, i, none⟩) (Nat.le_refl _) (.bool (T i != U i)))
      have HJ5 : Hid (∀ j, j < i + 1 → upv B i (T i != U i) j = (T j != U j)) := Lib.hid (fun j hj => by
        unfold upv
        by_cases z : j = i
        · rw [if_pos z, z]
        · rw [if_neg z]; exact HJ.out j (by omega))
      cases ht : T i <;> cases hu : U i
      all_goals
        rw [ht] at xc B5 G5 HJ5
        rw [hu] at yc B5 G5 HJ5
        clear ht hu
        go_wp2_with fail
        refine wp_quiet_tail 48 (by kernel_rfl) (by kernel_rfl) ?_
        simp only [List.take_succ_cons, List.take_zero, List.drop_succ_cons, List.drop_zero]
        repeat (go_big_quiet_step (fail))
        refine wpQuiet_nil ?_
        go_wp2_with fail
        go_round
        case rel => exact ⟨i + 1, _, by omega, by go_num, HJ5, Lib.hid B5.out.drew, Lib.hid (bw_dn G5.out 1)⟩
        case measure => simp [intOf]; omega
    · obtain rfl : i = k := by omega
      have t3 : decide ((i : Int) < (i : Int)) = false := by simp
      have S5 := Lib.hid ((ba_bs B4.out).congr HJ.out)
      have G5 := Lib.hid (bw_below (Nat.le_refl _) G2.out G4.out)
      go_wp2_with fail
      refine (rof_any _ i _ _ k8 _ S5.out).mono ?_
      rintro e wz ⟨rfl, rfl⟩
      go_wp2_with fail
      go_ret
      exact ⟨rfl, G5.out⟩
set_option maxRecDepth 100000 in
set_option maxHeartbeats 8000000 in
theorem rdo_20 (a k : Nat) (y : Nat) (k1 : 1 ≤ k) (k8 : k ≤ 8) (ha : a ≤ 1000) (hy : y ≤ 1000) (n : Int) (b o c : Nat) (w : World) (lb : b < w.heap.size) (c0 : w.cell? ⟨b, o, none⟩ = some (.int .i64 (a : Int))) (c1 : w.cell? ⟨b, o + 1, none⟩ = some (.int .i64 (y : Int))) : Calls Tryd.prog 10 #[.int .i64 20, .int .i64 (k : Int), .slice (some ⟨b, o, none⟩) 2 c, .int .i64 n] w fun e w' => e = .returned (.int .i64 (vl (sm (fun j => a.testBit j) (fun j => y.testBit j)) k)) ∧ Below w.heap.size w w' := by
  have HA := Lib.hid (fun W => rbits_any a k k8 ha W)
  have HY := Lib.hid (fun W => rbits_any y k k8 hy W)
  have hmk := fun w => make_bools k (by omega) w
  have HK := Lib.hid hmk
  clear hmk ha hy
  generalize hT : (fun j => a.testBit j) = T at *
  clear hT
  generalize hU : (fun j => y.testBit j) = U at *
  clear hU
  go_enter Tryd.func10, Tryd.ntmps10
  go_wp2_with fail
  refine (HA.out _).mono ?_
  rintro e w1 ⟨A1, l1, rfl, hc1, hs, hb⟩
  have G1 := Lib.hid hb
  have S1 := Lib.hid hs.out
  obtain ⟨y1, yl⟩ : w1.cell? ⟨b, o + 1, none⟩ = some (.int .i64 (y : Int)) ∧ b < w1.heap.size := ⟨(hb.cell (p := ⟨b, o + 1, none⟩) lb).trans c1, Nat.lt_of_lt_of_le lb hb.size⟩
  clear hb hs
  go_wp2_with fail
  refine (HY.out _).mono ?_
  rintro e w2 ⟨A2, l2, rfl, hc2, hs, hb⟩
  have G2 := Lib.hid (bw_below (Nat.le_refl _) G1.out hb)
  have S2 := Lib.hid (S1.out.below hb)
  have U2 := Lib.hid hs.out
  clear hb hs S1 G1 y1 yl
  have B3 := Lib.hid (HB.new w2 4 (BA (fun _ => false) k))
  have G3 := Lib.hid (new_below w2 (.cells (BA (fun _ => false) k) 4))
  have hmk := HK.out
  go_wp2_with fail
  clear hmk
  refine (radd_any A1 A2 k l1 l2 T U k8 _ (S2.out.below G3.out) (U2.out.below G3.out)).mono ?_
  rintro e w4 ⟨C4, d4, rfl, _, hs, hb⟩
  have S4 := Lib.hid hs.out
  have G4 := Lib.hid (bw_below (Nat.le_refl _) G2.out (bw_below (Nat.le_refl _) G3.out hb))
  clear hb hs
  go_wp2_with fail
  refine (rof_any _ k _ _ k8 _ S4.out).mono ?_
  rintro e wz ⟨rfl, rfl⟩
  go_wp2_with fail
  go_ret
  exact ⟨rfl, G4.out⟩
set_option maxRecDepth 100000 in
set_option maxHeartbeats 8000000 in
theorem rdo_23 (a k : Nat) (k1 : 1 ≤ k) (k8 : k ≤ 8) (ha : a ≤ 1000) (m : Nat) (hm : m ≤ 8) (b o c : Nat) (w : World) (lb : b < w.heap.size) (c0 : w.cell? ⟨b, o, none⟩ = some (.int .i64 (a : Int))) : Calls Tryd.prog 10 #[.int .i64 23, .int .i64 (k : Int), .slice (some ⟨b, o, none⟩) 1 c, .int .i64 (m : Int)] w fun e w' => e = .returned (.int .i64 (vl (lfs (fun j => a.testBit j) m) k)) ∧ Below w.heap.size w w' := by
  have HA := Lib.hid (fun W => rbits_any a k k8 ha W)
  have hmk := fun w => make_bools k (by omega) w
  have HK := Lib.hid hmk
  clear hmk ha
  generalize hT : (fun j => a.testBit j) = T at *
  clear hT
  go_enter Tryd.func10, Tryd.ntmps10
  go_wp2_with fail
  refine (HA.out _).mono ?_
  rintro e w1 ⟨A1, l1, rfl, hc1, hs, hb⟩
  have G1 := Lib.hid hb
  have S1 := Lib.hid hs.out
  clear hb hs
  have B3 := Lib.hid (HB.new w1 4 (BA (fun _ => false) k))
  have G3 := Lib.hid (new_below w1 (.cells (BA (fun _ => false) k) 4))
  have hmk := HK.out
  go_wp2_with fail
  clear hmk
  go_loopw [11, 15] (fun s t wr => ∃ (i : Nat) (C : Option Addr) (d : Nat), i ≤ m ∧ t = .int .i64 i ∧ s = .slice C k d ∧ k ≤ d ∧ Hid (Bs wr C (lfs T i) k) ∧ Hid (Below w.heap.size w wr)) (fun _ t _ => m - (intOf t).toNat)
  case atStart => exact ⟨0, A1, l1, by omega, rfl, rfl, hc1, Lib.hid (S1.out.below G3.out), Lib.hid (bw_below (Nat.le_refl _) G1.out G3.out)⟩
  case round =>
    obtain ⟨i, C, d, hi, rfl, rfl, hd, S4, G4⟩ := hrel
    clear B3 G3 S1 G1
    by_cases hlt : i < m
    · have t3 : decide ((i : Int) < (m : Int)) = true := by simpa using hlt
      go_wp2_with fail
      refine (rleft_n C k d (lfs T i) k1 k8 hd _ S4.out).mono ?_
      rintro e w4 ⟨C', d', rfl, hd', hs, hb⟩
      have S5 := Lib.hid (show Bs w4 C' (lfs T (i + 1)) k from hs.out)
      have G5 := Lib.hid (bw_below (Nat.le_refl _) G4.out hb)
      clear hs hb S4 G4
      go_wp2_with fail
      go_round
      case rel => exact ⟨i + 1, C', d', by omega, by go_num, rfl, hd', S5, G5⟩
      case measure => simp [intOf]; omega
    · obtain rfl : i = m := by omega
      have t3 : decide ((i : Int) < (i : Int)) = false := by simp
      go_wp2_with fail
      refine (rof_any _ k _ _ k8 _ S4.out).mono ?_
      rintro e wz ⟨rfl, rfl⟩
      go_wp2_with fail
      go_ret
      exact ⟨rfl, G4.out⟩
set_option maxRecDepth 100000 in
set_option maxHeartbeats 8000000 in
theorem rdo_21 (a k : Nat) (y : Nat) (k1 : 1 ≤ k) (k8 : k ≤ 8) (ha : a ≤ 1000) (hy : y ≤ 1000) (n : Int) (b o c : Nat) (w : World) (lb : b < w.heap.size) (c0 : w.cell? ⟨b, o, none⟩ = some (.int .i64 (a : Int))) (c1 : w.cell? ⟨b, o + 1, none⟩ = some (.int .i64 (y : Int))) : Calls Tryd.prog 10 #[.int .i64 21, .int .i64 (k : Int), .slice (some ⟨b, o, none⟩) 2 c, .int .i64 n] w fun e w' => e = .returned (.int .i64 (vl (tm (fun j => a.testBit j) (fun j => y.testBit j) k) k)) ∧ Below w.heap.size w w' := by
  have HA := Lib.hid (fun W => rbits_any a k k8 ha W)
  have HY := Lib.hid (fun W => rbits_any y k k8 hy W)
  have hmk := fun w => make_bools k (by omega) w
  have HK := Lib.hid hmk
  clear hmk ha hy
  generalize hT : (fun j => a.testBit j) = T at *
  clear hT
  generalize hU : (fun j => y.testBit j) = U at *
  clear hU
  go_enter Tryd.func10, Tryd.ntmps10
  go_wp2_with fail
  refine (HA.out _).mono ?_
  rintro e w1 ⟨A1, l1, rfl, hc1, hs, hb⟩
  have G1 := Lib.hid hb
  have S1 := Lib.hid hs.out
  obtain ⟨y1, yl⟩ : w1.cell? ⟨b, o + 1, none⟩ = some (.int .i64 (y : Int)) ∧ b < w1.heap.size := ⟨(hb.cell (p := ⟨b, o + 1, none⟩) lb).trans c1, Nat.lt_of_lt_of_le lb hb.size⟩
  clear hb hs
  go_wp2_with fail
  refine (HY.out _).mono ?_
  rintro e w2 ⟨A2, l2, rfl, hc2, hs, hb⟩
  have G2 := Lib.hid (bw_below (Nat.le_refl _) G1.out hb)
  have S2 := Lib.hid (S1.out.below hb)
  have U2 := Lib.hid hs.out
  clear hb hs S1 G1 y1 yl
  have B3 := Lib.hid (HB.new w2 4 (BA (fun _ => false) k))
  have G3 := Lib.hid (new_below w2 (.cells (BA (fun _ => false) k) 4))
  have hmk := HK.out
  go_wp2_with fail
  clear hmk
  go_loopw [10, 11, 14] (fun p s t wr => ∃ (i : Nat) (P : Option Addr) (dp : Nat) (C : Option Addr) (d : Nat), i ≤ k ∧ t = .int .i64 i ∧ p = .slice P k dp ∧ s = .slice C k d ∧ k ≤ dp ∧ Hid (Bs wr P (lfs U i) k) ∧ Hid (Bs wr C (tm T U i) k) ∧ Hid (Bs wr A1 T k) ∧ Hid (Below w.heap.size w wr)) (fun _ _ t _ => k - (intOf t).toNat)
  case atStart => exact ⟨0, A2, l2, _, k, by omega, rfl, rfl, rfl, hc2, Lib.hid (U2.out.below G3.out), Lib.hid (ba_bs B3.out), Lib.hid (S2.out.below G3.out), Lib.hid (bw_below (Nat.le_refl _) G2.out G3.out)⟩
  case round =>
    obtain ⟨i, P, dp, C, d, hi, rfl, rfl, rfl, hdp, P4, C4, S4, G4⟩ := hrel
    clear B3 G3 S2 U2 G2
    by_cases hlt : i < k
    · have t3 : decide ((i : Int) < (k : Int)) = true := by simpa using hlt
      obtain ⟨g, o', rfl, lg, xc⟩ := S4.out.at_ hlt
      cases ht : T i with
      | true =>
        have HTM : Hid (tm T U (i + 1) = sm (tm T U i) (lfs U i)) := Lib.hid (by rw [tm, if_pos ht])
        rw [ht] at xc
        clear ht
        go_wp2_with fail
        refine (radd_any C P k d dp (tm T U i) (lfs U i) k8 _ C4.out P4.out).mono ?_
        rintro e w5 ⟨C', d', rfl, _, hs, hb⟩
        have C5 := Lib.hid (show Bs w5 C' (tm T U (i + 1)) k by rw [HTM.out]; exact hs.out)
        have P5 := Lib.hid (P4.out.below hb)
        have S5 := Lib.hid (S4.out.below hb)
        have G5 := Lib.hid (bw_below (Nat.le_refl _) G4.out hb)
        clear hs hb P4 C4 S4 G4 xc lg
        go_wp2_with fail
        refine (rleft_n P k dp (lfs U i) k1 k8 hdp _ P5.out).mono ?_
        rintro e w6 ⟨P', dp', rfl, hdp', hs, hb⟩
        have P6 := Lib.hid (show Bs w6 P' (lfs U (i + 1)) k from hs.out)
        have C6 := Lib.hid (C5.out.below hb)
        have S6 := Lib.hid (S5.out.below hb)
        have G6 := Lib.hid (bw_below (Nat.le_refl _) G5.out hb)
        clear hs hb P5 C5 S5 G5
        go_wp2_with fail
        go_round
        case rel => exact ⟨i + 1, P', dp', C', d', by omega, by go_num, rfl, rfl, hdp', P6, C6, S6, G6⟩
        case measure => simp [intOf]; omega
      | false =>
        have HTM : Hid (tm T U (i + 1) = tm T U i) := Lib.hid (by rw [tm, if_neg (by rw [ht]; decide)])
        rw [ht] at xc
        clear ht
        go_wp2_with fail
        refine (rleft_n P k dp (lfs U i) k1 k8 hdp _ P4.out).mono ?_
        rintro e w6 ⟨P', dp', rfl, hdp', hs, hb⟩
        have P6 := Lib.hid (show Bs w6 P' (lfs U (i + 1)) k from hs.out)
        have C6 := Lib.hid (show Bs w6 C (tm T U (i + 1)) k by rw [HTM.out]; exact C4.out.below hb)
        have S6 := Lib.hid (S4.out.below hb)
        have G6 := Lib.hid (bw_below (Nat.le_refl _) G4.out hb)
        clear hs hb P4 C4 S4 G4 xc lg
        go_wp2_with fail
        go_round
        case rel => exact ⟨i + 1, P', dp', C, d, by omega, by go_num, rfl, rfl, hdp', P6, C6, S6, G6⟩
        case measure => simp [intOf]; omega
    · obtain rfl : i = k := by omega
      have t3 : decide ((i : Int) < (i : Int)) = false := by simp
      go_wp2_with fail
      refine (rof_any _ i _ _ k8 _ C4.out).mono ?_
      rintro e wz ⟨rfl, rfl⟩
      go_wp2_with fail
      go_ret
      exact ⟨rfl, G4.out⟩
/-- Is the first less? -/
def ltB (T U : Nat → Bool) (k : Nat) : Int := if vl T k < vl U k then 1 else 0
theorem ltB_at {T U : Nat → Bool} {k i : Nat} (hi : i < k) (h : ∀ j, i < j → j < k → T j = U j) (hd : T i ≠ U i) : ltB T U k = if U i then 1 else 0 := by
  have := vl_top hi h hd
  unfold ltB
  cases hu : U i <;> rw [hu] at this <;> simp at this <;> simp [this]
theorem ltB_eq {T U : Nat → Bool} {k : Nat} (h : ∀ j, j < k → T j = U j) : ltB T U k = 0 := by
  unfold ltB
  rw [vl_congr h, if_neg (by omega)]
set_option maxRecDepth 100000 in
set_option maxHeartbeats 8000000 in
theorem rdo_22 (a k : Nat) (y : Nat) (k1 : 1 ≤ k) (k8 : k ≤ 8) (ha : a ≤ 1000) (hy : y ≤ 1000) (n : Int) (b o c : Nat) (w : World) (lb : b < w.heap.size) (c0 : w.cell? ⟨b, o, none⟩ = some (.int .i64 (a : Int))) (c1 : w.cell? ⟨b, o + 1, none⟩ = some (.int .i64 (y : Int))) : Calls Tryd.prog 10 #[.int .i64 22, .int .i64 (k : Int), .slice (some ⟨b, o, none⟩) 2 c, .int .i64 n] w fun e w' => e = .returned (.int .i64 (ltB (fun j => a.testBit j) (fun j => y.testBit j) k)) ∧ Below w.heap.size w w' := by
  have HA := Lib.hid (fun W => rbits_any a k k8 ha W)
  have HY := Lib.hid (fun W => rbits_any y k k8 hy W)
  have hmk := fun w => make_bools k (by omega) w
  have HK := Lib.hid hmk
  clear hmk ha hy
  generalize hT : (fun j => a.testBit j) = T at *
  clear hT
  generalize hU : (fun j => y.testBit j) = U at *
  clear hU
  go_enter Tryd.func10, Tryd.ntmps10
  go_wp2_with fail
  refine (HA.out _).mono ?_
  rintro e w1 ⟨A1, l1, rfl, hc1, hs, hb⟩
  have G1 := Lib.hid hb
  have S1 := Lib.hid hs.out
  obtain ⟨y1, yl⟩ : w1.cell? ⟨b, o + 1, none⟩ = some (.int .i64 (y : Int)) ∧ b < w1.heap.size := ⟨(hb.cell (p := ⟨b, o + 1, none⟩) lb).trans c1, Nat.lt_of_lt_of_le lb hb.size⟩
  clear hb hs
  go_wp2_with fail
  refine (HY.out _).mono ?_
  rintro e w2 ⟨A2, l2, rfl, hc2, hs, hb⟩
  have G2 := Lib.hid (bw_below (Nat.le_refl _) G1.out hb)
  have S2 := Lib.hid (S1.out.below hb)
  have U2 := Lib.hid hs.out
  clear hb hs S1 G1 y1 yl
  have B3 := Lib.hid (HB.new w2 4 (BA (fun _ => false) k))
  have G3 := Lib.hid (new_below w2 (.cells (BA (fun _ => false) k) 4))
  have hmk := HK.out
  go_wp2_with fail
  clear hmk
  go_loopw [16] (fun t wr => ∃ i : Nat, i ≤ k ∧ t = .int .i64 ((i : Int) - 1) ∧ Hid (∀ j, i ≤ j → j < k → T j = U j) ∧ Hid (Bs wr A1 T k) ∧ Hid (Bs wr A2 U k) ∧ Hid (Below w.heap.size w wr)) (fun t _ => (intOf t + 1).toNat)
  case atStart => exact ⟨k, by omega, rfl, Lib.hid (fun j h1 h2 => absurd h1 (by omega)), Lib.hid (S2.out.below G3.out), Lib.hid (U2.out.below G3.out), Lib.hid (bw_below (Nat.le_refl _) G2.out G3.out)⟩
  case round =>
    obtain ⟨i, hi, rfl, HJ, S4, U4, G4⟩ := hrel
    clear B3 G3 S2 U2 G2
    by_cases hlt : 0 < i
    · obtain ⟨p, rfl⟩ : ∃ p, i = p + 1 := ⟨i - 1, by omega⟩
      rw [show (((p + 1 : Nat) : Int) - 1) = (p : Int) by omega]
      have t3 : decide ((0 : Int) ≤ (p : Int)) = true := by simp
      obtain ⟨g, o', rfl, lg, xc⟩ := S4.out.at_ (k := p) (by omega)
      obtain ⟨g', o'', rfl, lg', yc⟩ := U4.out.at_ (k := p) (by omega)
      have q1 : IntKind.i64.wrap ((p : Int) - 1) = (p : Int) - 1 := IntWalk.i64_in _ (by omega)
      have HE : Hid (T p = U p → ∀ j, p ≤ j → j < k → T j = U j) := Lib.hid (fun he j h1 h2 => by
        rcases Nat.eq_or_lt_of_le h1 with y | y
        · rw [← y]; exact he
        · exact HJ.out j y h2)
      have HR : Hid (T p ≠ U p → ltB T U k = if U p then 1 else 0) := Lib.hid (fun hd => ltB_at (by omega) (fun j h1 h2 => HJ.out j h1 h2) hd)
      clear HJ
      cases ht : T p <;> cases hu : U p
      all_goals
        rw [ht] at xc
        rw [hu] at yc
        rw [ht, hu] at HE HR
        clear ht hu
        go_wp2_with fail
        go_quiet (fail)
        go_wp2_with fail
        first
          | (go_round
             case rel => exact ⟨p, by omega, rfl, Lib.hid (HE.out (by first | trivial | rfl)), Lib.hid (S4.out.drewN _), Lib.hid (U4.out.drewN _), Lib.hid (bw_dn G4.out _)⟩
             case measure => (simp [intOf]; try omega))
          | (go_ret
             exact ⟨by rw [HR.out (by decide)]; rfl, bw_dn G4.out _⟩)
    · obtain rfl : i = 0 := by omega
      rw [show (((0 : Nat) : Int) - 1) = (-1 : Int) from rfl]
      have HQ := Lib.hid (ltB_eq (fun j h => HJ.out j (by omega) h))
      go_wp2_with fail
      go_ret
      exact ⟨by rw [HQ.out]; rfl, G4.out⟩
end Go.Proofs.YtibpgcdaommjeaaDoor
