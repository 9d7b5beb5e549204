/-
  RowTimes' walk: whatever the row and the number, true.
-/
import Derived.Test.YtkjollifghmkbaaRowY
import Derived.Test.YtkjollifghmkbaaRowT
namespace Go.Proofs.Ytkjollifghmkbaa
open Go.RowKit

set_option maxRecDepth 100000 in
set_option maxHeartbeats 8000000 in
theorem rowtimes_out (A : Option Addr) (L c : Nat) (kind tt b : Int) (hb : b < 1 ∨ 1000 < b) (w : World) :
    Calls Try.prog 6 #[.agg #[.slice A L c, .int .i64 kind, .int .i64 tt], .int .i64 b] w fun e w' => e = .returned (.bool true) ∧ Below w.heap.size w w' := by
  rcases hb with h | h
  · have d : decide (b < 1) = true := by simpa using h
    clear h
    go_enter Try.func6, Try.ntmps6
    go_wp2_with fail
    refine (fact_any _).mono ?_
    rintro e w1 ⟨rfl, hb1⟩
    have G1 : Hid (Below w.heap.size w w1) := below_after (by go_grown) hb1
    clear hb1
    go_wp2
    go_ret
    exact ⟨rfl, G1.out⟩
  · have d : decide (b < 1) = false := by simp; omega
    have d2 : decide (1000 < b) = true := by simpa using h
    clear h
    go_enter Try.func6, Try.ntmps6
    go_wp2_with fail
    refine (fact_any _).mono ?_
    rintro e w1 ⟨rfl, hb1⟩
    have G1 : Hid (Below w.heap.size w w1) := below_after (by go_grown) hb1
    clear hb1
    go_wp2
    go_ret
    exact ⟨rfl, G1.out⟩
set_option maxRecDepth 100000 in
set_option maxHeartbeats 8000000 in
theorem rowtimes_in (A : Option Addr) (xs ys zs : List Int) (L c : Nat) (kind tt b : Int) (hb1 : 1 ≤ b) (hb2 : b ≤ 1000) (hL : L = xs.length) (hreach : L * 8 ≤ 140737488351232) (w : World) (h : Is w A xs) (k1 t1 k2 t2 C I C2 I2 : Int) (r : Bool)
    (hn : ∀ W, Is W A xs → Calls Try.prog 19 #[.agg #[.slice A L c, .int .i64 kind, .int .i64 tt]] W (GivesRF ys k1 t1 C I W))
    (hn2 : inB tt = true → ∀ W A2 (c2 : Nat), L ≤ c2 → Is W A2 (xs.map (b * ·)) → Calls Try.prog 19 #[.agg #[.slice A2 L c2, .int .i64 kind, .int .i64 (b * tt)]] W (GivesRF zs k2 t2 C2 I2 W))
    (hs : ∀ W A2 A3 (c2 c3 : Nat), Is W A2 ys → Is W A3 zs → Calls Try.prog 22 #[.agg #[.slice A2 ys.length c2, .int .i64 k1, .int .i64 t1], .agg #[.slice A3 zs.length c3, .int .i64 k2, .int .i64 t2]] W fun e w' => e = .returned (.bool r) ∧ Below W.heap.size W w')
    (hout : (C != 0) = true ∨ (C != 0) = false ∧ (C2 != 0) = true ∨ (C != 0) = false ∧ (C2 != 0) = false ∧ r = true) :
    Calls Try.prog 6 #[.agg #[.slice A L c, .int .i64 kind, .int .i64 tt], .int .i64 b] w fun e w' => e = .returned (.bool true) ∧ Below w.heap.size w w' := by
  have HN := Lib.hid hn
  have HN2 := Lib.hid hn2
  have HS := Lib.hid hs
  have HX := Lib.hid h
  have HL := Lib.hid hL
  have HO := Lib.hid hout
  have d : decide (b < 1) = false := by simp; omega
  have d2 : decide (1000 < b) = false := by simp; omega
  clear hn hn2 hs h hout hL
  go_enter Try.func6, Try.ntmps6
  go_wp2_with fail
  refine (fact_any _).mono ?_
  rintro e w1 ⟨rfl, hb3⟩
  have R1 := (HB.new w 24 #[.slice A L c, .int .i64 kind, .int .i64 tt]).below hb3
  have G1 : Hid (Below w.heap.size w w1) := below_after (by go_grown) hb3
  obtain ⟨u0, u1, u2, _⟩ := HB.row' R1
  have l1 := R1.lt
  have HR1 := Lib.hid R1
  clear hb3 R1
  go_wp2_with fail
  go_loopw [7] (fun k wr => ∃ (i : Nat) (A1 : Option Addr) (c1 : Nat), i ≤ L ∧ k = .int .i64 i ∧ Hid (HB wr w1.heap.size 24 #[.slice A1 i c1, .int .i64 kind, .int .i64 0]) ∧ Hid (wr.ownsRow w.heap.size 3 1 (.slice A1 i c1) i (intsV (fun j => b * nth xs j) i)) ∧ Hid (HB wr w.heap.size 24 #[.slice A L c, .int .i64 kind, .int .i64 tt]) ∧ Hid (Below w.heap.size w wr) ∧ Hid (∀ j, j < i → inB (nth xs j) = true)) (fun k _ => L - (intOf k).toNat)
  case atStart => exact ⟨0, none, 0, by omega, rfl, HB.new w1 _ _, own_nil _ _ _, HR1.out.alloc _, G1.out.alloc (by omega) _, fun j hj => absurd hj (by omega)⟩
  case round =>
    obtain ⟨i, A1, c1, hi, rfl, F6, OW, R2, G2, HI⟩ := hrel
    obtain ⟨v0, v1, v2, _⟩ := HB.row' R2.out
    obtain ⟨x0, x1, x2, x3, x4, x5⟩ := HB.row' F6.out
    have l2 := R2.out.lt
    have l6 := F6.out.lt
    clear u0 u1 u2
    by_cases hlt : i < L
    · obtain ⟨bb, o, rfl, hbb, hc⟩ := (HX.out.below G2.out) (by rw [← HL.out]; omega)
      have cx := hc i (by rw [← HL.out]; exact hlt)
      have q1 : (0 : Int) ≤ i := by omega
      have q2 : (i : Int) < L := by omega
      have q3 : decide (i < L) = true := by simpa using hlt
      clear hc
      by_cases hin : inB (nth xs i) = true
      · obtain ⟨i1, i2⟩ := inB_iff.1 hin
        have hmul : -9223372036854775808 ≤ b * nth xs i ∧ b * nth xs i ≤ 9223372036854775807 := by
          have e1 : b * nth xs i ≤ 1000 * 1000000 := Int.le_trans (Int.mul_le_mul_of_nonneg_left i2 (by omega)) (Int.mul_le_mul_of_nonneg_right hb2 (by omega))
          have e2 : b * (- nth xs i) ≤ 1000 * 1000000 := Int.le_trans (Int.mul_le_mul_of_nonneg_left (by omega) (by omega)) (Int.mul_le_mul_of_nonneg_right hb2 (by omega))
          rw [Int.mul_neg] at e2
          omega
        have tw : IntKind.i64.wrap (b * nth xs i) = b * nth xs i := IntWalk.i64_in _ (by omega)
        have HIN := Lib.hid hin
        clear hin hmul
        go_wp2_with fail
        refine (fits_any _ _).mono ?_
        rintro e w3 ⟨rfl, rfl⟩
        rw [HIN.out]
        go_wp2_with fail
        go_region_law (first
          | (refine step_int rfl _ _ rfl w.heap.size (.slice A1 i c1) i (intsV (fun j => b * nth xs j) i) rfl ?_ _ (.int .i64 (b * nth xs i)) rfl ?_ rfl (by omega) ?_ ?_; (first | (exact OW.out.drew.alloc _) | (exact OW.out.alloc _)); (first | (exact HB.new _ _ _)); (have := G2.out.size; simp; omega); intro g4 cap4 w4 hown4 hkp4 hb4; have F4 := Lib.hid (hkp4.hb (by decide) (HB.alloc (HB.drew F6.out) _)); have R4 := Lib.hid (hkp4.hb (by decide) (HB.alloc (HB.drew R2.out) _)); have G4 := Lib.hid (hb4 _ (Below.alloc (Below.drew G2.out) (by have := G2.out.size; simpa using this) _)); obtain ⟨y0, y1, y2, y3, y4, y5⟩ := HB.row' F4.out; have l4 := F4.out.lt))
        all_goals
          have F5 : Hid (HB (w4.setCell ⟨w1.heap.size, 0, none⟩ (.slice (some ⟨g4, 0, none⟩) (i + 1 : Nat) cap4)) w1.heap.size 24 #[.slice (some ⟨g4, 0, none⟩) (i + 1 : Nat) cap4, .int .i64 kind, .int .i64 0]) := by
            have := F4.out.set_ 0 (.slice (some ⟨g4, 0, none⟩) (i + 1 : Nat) cap4)
            show HB _ _ _ _
            simpa using this
          have O5 : Hid ((w4.setCell ⟨w1.heap.size, 0, none⟩ (.slice (some ⟨g4, 0, none⟩) (i + 1 : Nat) cap4)).ownsRow w.heap.size 3 1 (.slice (some ⟨g4, 0, none⟩) (i + 1 : Nat) cap4) (i + 1) (intsV (fun j => b * nth xs j) (i + 1))) := by
            have := own_far hown4.out F4.out (by decide) 0 (.slice (some ⟨g4, 0, none⟩) (i + 1 : Nat) cap4)
            rw [← intsV_succ (fun j => b * nth xs j) i] at this
            exact this
          have R5 := Lib.hid (R4.out.far (p := ⟨w1.heap.size, 0, none⟩) (show w.heap.size ≠ w1.heap.size by omega) (.slice (some ⟨g4, 0, none⟩) (i + 1 : Nat) cap4))
          have G5 : Hid (Below w.heap.size w (w4.setCell ⟨w1.heap.size, 0, none⟩ (.slice (some ⟨g4, 0, none⟩) (i + 1 : Nat) cap4))) := G4.out.setCell (show w.heap.size ≤ w1.heap.size by omega) _
          have HI5 : Hid (∀ j, j < i + 1 → inB (nth xs j) = true) := fun j hj => by
            rcases Nat.lt_or_ge j i with z | z
            · exact HI.out j z
            · obtain rfl : j = i := by omega
              exact HIN.out
          clear F4 R4 G4 hown4 y0 y1 y2 y3 y4 y5 hkp4 hb4
          go_wp2
          exact ⟨⟨i + 1, _, _, by omega, by go_num, F5, O5, R5, G5, HI5⟩, by simp [intOf]; omega⟩
      · have hin' : inB (nth xs i) = false := by simpa using hin
        have HIN := Lib.hid hin'
        clear hin hin'
        go_wp2_with fail
        refine (fits_any _ _).mono ?_
        rintro e w3 ⟨rfl, rfl⟩
        rw [HIN.out]
        go_wp2
        go_ret
        exact ⟨rfl, G2.out⟩
    · obtain rfl : i = L := by omega
      have q3 : decide (i < i) = false := by simp
      by_cases ht : inB tt = true
      · obtain ⟨i1, i2⟩ := inB_iff.1 ht
        have hmul : -9223372036854775808 ≤ b * tt ∧ b * tt ≤ 9223372036854775807 := by
          have e1 : b * tt ≤ 1000 * 1000000 := Int.le_trans (Int.mul_le_mul_of_nonneg_left i2 (by omega)) (Int.mul_le_mul_of_nonneg_right hb2 (by omega))
          have e2 : b * (- tt) ≤ 1000 * 1000000 := Int.le_trans (Int.mul_le_mul_of_nonneg_left (by omega) (by omega)) (Int.mul_le_mul_of_nonneg_right hb2 (by omega))
          rw [Int.mul_neg] at e2
          omega
        have tw : IntKind.i64.wrap (b * tt) = b * tt := IntWalk.i64_in _ (by omega)
        have HT := Lib.hid ht
        have HIx : Hid (Is wr A1 (xs.map (b * ·))) := own_is OW.out (by rw [List.length_map, HL.out]) (fun j hj => by
          unfold nth
          rw [List.getD_eq_getElem?_getD, List.getD_eq_getElem?_getD, List.getElem?_map]
          cases xs[j]? <;> simp)
        have HC1 := Lib.hid (own_cap OW.out)
        have F7 : Hid (HB (wr.setCell ⟨w1.heap.size, 2, none⟩ (.int .i64 (b * tt))) w1.heap.size 24 #[.slice A1 (i : Nat) c1, .int .i64 kind, .int .i64 (b * tt)]) := by
          have := F6.out.set_ 2 (.int .i64 (b * tt))
          show HB _ _ _ _
          simpa using this
        have R7 := Lib.hid (R2.out.far (p := ⟨w1.heap.size, 2, none⟩) (show w.heap.size ≠ w1.heap.size by omega) (.int .i64 (b * tt)))
        have G7 : Hid (Below w.heap.size w (wr.setCell ⟨w1.heap.size, 2, none⟩ (.int .i64 (b * tt)))) := G2.out.setCell (show w.heap.size ≤ w1.heap.size by omega) _
        have I7 : Hid (Is (wr.setCell ⟨w1.heap.size, 2, none⟩ (.int .i64 (b * tt))) A1 (xs.map (b * ·))) := own_is (own_far OW.out F6.out (by decide) 2 (.int .i64 (b * tt))) (by rw [List.length_map, HL.out]) (fun j hj => by
          unfold nth
          rw [List.getD_eq_getElem?_getD, List.getD_eq_getElem?_getD, List.getElem?_map]
          cases xs[j]? <;> simp)
        clear ht hmul hlt OW HIx
        go_wp2_with fail
        refine (fits_any _ _).mono ?_
        rintro e w3 ⟨rfl, rfl⟩
        rw [HT.out]
        obtain ⟨v0', v1', v2', _⟩ := HB.row' R7.out
        go_wp2_with fail
        refine (HN.out _ (HX.out.below G7.out)).mono ?_
        rintro e w5 ⟨A5, c5, rfl, hl5, hi5, hb5⟩
        have I5 := Lib.hid hi5.is
        have F8 := F7.out.below hb5
        have I8 : Hid (Is w5 A1 (xs.map (b * ·))) := I7.out.below hb5
        have G8 : Hid (Below w.heap.size w w5) := bw_below (Nat.le_refl _) G7.out hb5
        have l8 := F8.lt
        obtain ⟨y0, y1, y2, _⟩ := HB.row' F8
        clear hl5 hi5 hb5 F7 R7 G7 I7 v0' v1' v2' v0 v1 v2 x0 x1 x2 x3 x4 x5 F8
        go_wp2_with fail
        refine (HN2.out HT.out _ A1 c1 HC1.out (I8.out.below (by go_grown))).mono ?_
        rintro e w6 ⟨A6, c6, rfl, hl6, hi6, hb6⟩
        have I6 := Lib.hid hi6.is
        have N1 := ((HB.new w5 24 #[.slice A5 ys.length c5, .int .i64 k1, .int .i64 t1]).alloc (.cells #[.int .i64 C, .int .i64 I] 29)).below hb6
        have N2 := (HB.new1 w5 (.cells #[.slice A5 ys.length c5, .int .i64 k1, .int .i64 t1] 24) 29 #[.int .i64 C, .int .i64 I]).below hb6
        have J5 : Hid (Is w6 A5 ys) := (I5.out.below (by go_grown)).below hb6
        have G9 : Hid (Below w.heap.size w w6) := below_after (by have := G8.out; have z := this.size; go_grown) hb6
        have l9 := N1.lt
        have l9' := N2.lt
        obtain ⟨p0, p1, p2, _⟩ := HB.row' N1
        obtain ⟨s0, s1, _⟩ := HB.two N2
        clear hl6 hi6 hb6 N1 N2 y0 y1 y2 I8 I5
        rcases HO.out with d | ⟨d1, d2⟩ | ⟨d1, d2, rfl⟩
        · go_wp2
          go_ret
          exact ⟨rfl, by have := G9.out; have z := this.size; go_grown⟩
        · go_wp2
          go_ret
          exact ⟨rfl, by have := G9.out; have z := this.size; go_grown⟩
        · go_wp2_with fail
          refine (HS.out _ A5 A6 c5 c6 (J5.out.below (by go_grown)) (I6.out.below (by go_grown))).mono ?_
          rintro e w7 ⟨rfl, hb7⟩
          have GA : Hid (Below w.heap.size w w7) := below_after (by have := G9.out; have z := this.size; go_grown) hb7
          clear hb7
          go_wp2
          go_ret
          exact ⟨rfl, GA.out⟩
      · have ht' : inB tt = false := by simpa using ht
        have HT := Lib.hid ht'
        clear ht ht'
        go_wp2_with fail
        refine (fits_any _ _).mono ?_
        rintro e w3 ⟨rfl, rfl⟩
        rw [HT.out]
        go_wp2
        go_ret
        exact ⟨rfl, G2.out⟩
end Go.Proofs.Ytkjollifghmkbaa
