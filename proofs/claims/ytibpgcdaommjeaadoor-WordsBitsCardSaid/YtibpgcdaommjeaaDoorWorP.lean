/-
  Words: the law WordsBits.
-/
import Derived.Test.YtibpgcdaommjeaaDoorWorL
namespace Go.Proofs.YtibpgcdaommjeaaDoor
open Go.RowKit

/-- A fault in memory. -/
@[reducible] def FltE (g : Nat) (c a : Int) (W : World) : Prop := W.cell? ⟨g, 0, none⟩ = some (.int .i64 c) ∧ W.cell? ⟨g, 1, none⟩ = some (.int .i64 a)
theorem flt_keep {W0 : World} {g t : Nat} {c a : Int} (h : HB W0 g t #[.int .i64 c, .int .i64 a]) : ∀ W, Below W0.heap.size W0 W → FltE g c a W := fun W hW => by
  obtain ⟨h0, h1, _, _⟩ := (h.below hW).two
  exact ⟨h0, h1⟩
set_option maxRecDepth 100000 in
set_option maxHeartbeats 8000000 in
theorem bits_W1R1 (x z : Int) (hz : z < 1) (A : Option Addr) (n : Nat) (hn : n = 0) (c : Nat) (b : Nat → Bool) (hl : n ≤ maxLen) (w : World) (ht : TabW w) (_hb : Bs w A b n) :
    Calls Tryd.prog 4 #[.int .i64 x, .int .i64 z, .slice A n c] w fun e w' => e = .returned (.bool true) ∧ Below w.heap.size w w' := by
  have HT := Lib.hid ht
  have _ := hl
  unfold maxLen at hl
  have HN := Lib.hid (show nwB n = true by unfold nwB; simp; omega)
  have HO := Lib.hid (fun W => of_bad A n c HN.out W)
  clear HN
  have HZ := Lib.hid (show nwB z = true by unfold nwB; simp; omega)
  have HBT := Lib.hid (fun W => bits_bad1 x z HZ.out W)
  have d1 : decide (z < 1) = true := by simpa using hz
  clear HZ hz
  have g1 : decide ((n : Int) < 1) = true := by simp; omega
  clear hn
  clear ht
  go_enter Tryd.func4, Tryd.ntmps4
  go_wp2_with fail
  refine (fact_any w HT.out).mono ?_
  rintro e w1 ⟨rfl, hb⟩
  have G1 := Lib.hid hb
  clear hb
  go_wp2_with fail
  refine (HBT.out _).mono ?_
  rintro e w2 ⟨rfl, hb⟩
  have G2 := Lib.hid (bw_below (Nat.le_refl _) G1.out hb)
  have R2 := Lib.hid (HB.new w2 24 #[.int .i64 3, .int .i64 (-1)])
  have H2 := Lib.hid (G2.out.alloc G2.out.size (.cells #[.int .i64 3, .int .i64 (-1)] 24))
  clear hb G1
  go_wp2_with fail
  refine (HO.out _).mono ?_
  rintro e w3 ⟨rfl, hb⟩
  have G3 := Lib.hid (bw_below (Nat.le_refl _) H2.out hb)
  have R3 := Lib.hid ((R2.out.below hb).alloc (.cells #[.int .i64 9, .int .i64 0] 24))
  have U3 := Lib.hid (HB.new w3 24 #[.int .i64 9, .int .i64 0])
  have H3 := Lib.hid (G3.out.alloc G3.out.size (.cells #[.int .i64 9, .int .i64 0] 24))
  clear hb G2 R2 H2 G3 HO HBT
  have K3 := Lib.hid (flt_keep R3.out)
  have RQ := R3
  obtain ⟨y0, y1, y2, y3⟩ := R3.out.two
  have yl := R3.out.lt
  go_upto_region 7 with fail
  go_region_held3 (fun W => FltE w2.heap.size 3 (-1) W)
    ((first | (with_reducible exact K3.out _ (Below.refl _ _)) | (refine K3.out _ ?_; go_grown; done) | (with_reducible exact K3.out _ Q1.out)))
    (first
      | (go_at_call 13; (with_reducible refine (fault_any _ _ _).mono ?_); rintro e wq ⟨rfl, hbq⟩; have Q1 := Lib.hid (below_after (show Below (w3.alloc (.cells #[.int .i64 9, .int .i64 0] 24)).heap.size (w3.alloc (.cells #[.int .i64 9, .int .i64 0] 24)) _ by go_grown) hbq); obtain ⟨qa, qb, qc, qd⟩ := (RQ.out.below Q1.out).two; clear hbq))
  have UQ := Lib.hid (U3.out.below Q1.out)
  have HQ := Lib.hid (below_after H3.out (Q1.out.mono (Nat.le_refl _)))
  obtain ⟨u0, u1, u2, u3⟩ := UQ.out.two
  have ul := UQ.out.lt
  clear K3 RQ R3 U3 H3 Q1 y0 y1 y2 y3 yl qa qb qc qd
  have K4 := Lib.hid (flt_keep UQ.out)
  have RQ := UQ
  go_upto_region 16 with fail
  go_region_held3 (fun W => FltE w3.heap.size 9 0 W)
    ((first | (with_reducible exact K4.out _ (Below.refl _ _)) | (refine K4.out _ ?_; go_grown; done) | (with_reducible exact K4.out _ Q2.out)))
    (first
      | (go_at_call 13; (with_reducible refine (fault_any _ _ _).mono ?_); rintro e wr ⟨rfl, hbq⟩; have Q2 := Lib.hid (below_after (show Below wq.heap.size wq _ by go_grown) hbq); obtain ⟨qa, qb, qc, qd⟩ := (RQ.out.below Q2.out).two; clear hbq))
  have HZ := Lib.hid (below_after HQ.out (Q2.out.mono (Nat.le_refl _)))
  clear K4 UQ HQ
  go_wp2_with fail
  go_ret
  exact ⟨rfl, HZ.out⟩
set_option maxRecDepth 100000 in
set_option maxHeartbeats 8000000 in
theorem bits_W1R2 (x z : Int) (hz : z < 1) (A : Option Addr) (n : Nat) (hn : 8 < n) (c : Nat) (b : Nat → Bool) (hl : n ≤ maxLen) (w : World) (ht : TabW w) (_hb : Bs w A b n) :
    Calls Tryd.prog 4 #[.int .i64 x, .int .i64 z, .slice A n c] w fun e w' => e = .returned (.bool true) ∧ Below w.heap.size w w' := by
  have HT := Lib.hid ht
  have _ := hl
  unfold maxLen at hl
  have HN := Lib.hid (show nwB n = true by unfold nwB; simp; omega)
  have HO := Lib.hid (fun W => of_bad A n c HN.out W)
  clear HN
  have HZ := Lib.hid (show nwB z = true by unfold nwB; simp; omega)
  have HBT := Lib.hid (fun W => bits_bad1 x z HZ.out W)
  have d1 : decide (z < 1) = true := by simpa using hz
  clear HZ hz
  have g1 : decide ((n : Int) < 1) = false := by simp; omega
  have g2 : decide (8 < (n : Int)) = true := by simp; omega
  clear hn
  clear ht
  go_enter Tryd.func4, Tryd.ntmps4
  go_wp2_with fail
  refine (fact_any w HT.out).mono ?_
  rintro e w1 ⟨rfl, hb⟩
  have G1 := Lib.hid hb
  clear hb
  go_wp2_with fail
  refine (HBT.out _).mono ?_
  rintro e w2 ⟨rfl, hb⟩
  have G2 := Lib.hid (bw_below (Nat.le_refl _) G1.out hb)
  have R2 := Lib.hid (HB.new w2 24 #[.int .i64 3, .int .i64 (-1)])
  have H2 := Lib.hid (G2.out.alloc G2.out.size (.cells #[.int .i64 3, .int .i64 (-1)] 24))
  clear hb G1
  go_wp2_with fail
  refine (HO.out _).mono ?_
  rintro e w3 ⟨rfl, hb⟩
  have G3 := Lib.hid (bw_below (Nat.le_refl _) H2.out hb)
  have R3 := Lib.hid ((R2.out.below hb).alloc (.cells #[.int .i64 9, .int .i64 0] 24))
  have U3 := Lib.hid (HB.new w3 24 #[.int .i64 9, .int .i64 0])
  have H3 := Lib.hid (G3.out.alloc G3.out.size (.cells #[.int .i64 9, .int .i64 0] 24))
  clear hb G2 R2 H2 G3 HO HBT
  have K3 := Lib.hid (flt_keep R3.out)
  have RQ := R3
  obtain ⟨y0, y1, y2, y3⟩ := R3.out.two
  have yl := R3.out.lt
  go_upto_region 7 with fail
  go_region_held3 (fun W => FltE w2.heap.size 3 (-1) W)
    ((first | (with_reducible exact K3.out _ (Below.refl _ _)) | (refine K3.out _ ?_; go_grown; done) | (with_reducible exact K3.out _ Q1.out)))
    (first
      | (go_at_call 13; (with_reducible refine (fault_any _ _ _).mono ?_); rintro e wq ⟨rfl, hbq⟩; have Q1 := Lib.hid (below_after (show Below (w3.alloc (.cells #[.int .i64 9, .int .i64 0] 24)).heap.size (w3.alloc (.cells #[.int .i64 9, .int .i64 0] 24)) _ by go_grown) hbq); obtain ⟨qa, qb, qc, qd⟩ := (RQ.out.below Q1.out).two; clear hbq))
  have UQ := Lib.hid (U3.out.below Q1.out)
  have HQ := Lib.hid (below_after H3.out (Q1.out.mono (Nat.le_refl _)))
  obtain ⟨u0, u1, u2, u3⟩ := UQ.out.two
  have ul := UQ.out.lt
  clear K3 RQ R3 U3 H3 Q1 y0 y1 y2 y3 yl qa qb qc qd
  have K4 := Lib.hid (flt_keep UQ.out)
  have RQ := UQ
  go_upto_region 16 with fail
  go_region_held3 (fun W => FltE w3.heap.size 9 0 W)
    ((first | (with_reducible exact K4.out _ (Below.refl _ _)) | (refine K4.out _ ?_; go_grown; done) | (with_reducible exact K4.out _ Q2.out)))
    (first
      | (go_at_call 13; (with_reducible refine (fault_any _ _ _).mono ?_); rintro e wr ⟨rfl, hbq⟩; have Q2 := Lib.hid (below_after (show Below wq.heap.size wq _ by go_grown) hbq); obtain ⟨qa, qb, qc, qd⟩ := (RQ.out.below Q2.out).two; clear hbq))
  have HZ := Lib.hid (below_after HQ.out (Q2.out.mono (Nat.le_refl _)))
  clear K4 UQ HQ
  go_wp2_with fail
  go_ret
  exact ⟨rfl, HZ.out⟩
set_option maxRecDepth 100000 in
set_option maxHeartbeats 8000000 in
theorem bits_W1R3 (x z : Int) (hz : z < 1) (A : Option Addr) (n : Nat) (hn1 : 1 ≤ n) (hn8 : n ≤ 8) (c : Nat) (b : Nat → Bool) (hl : n ≤ maxLen) (w : World) (ht : TabW w) (_hb : Bs w A b n) :
    Calls Tryd.prog 4 #[.int .i64 x, .int .i64 z, .slice A n c] w fun e w' => e = .returned (.bool true) ∧ Below w.heap.size w w' := by
  have HT := Lib.hid ht
  have _ := hl
  unfold maxLen at hl
  have HO := Lib.hid (fun W (hW : Below w.heap.size w W) => of_ok A n c b hn1 hn8 W (_hb.below hW))
  have HBS := Lib.hid _hb
  obtain ⟨Mn, hMn⟩ := wb_of (z := n) (by omega) (by omega)
  obtain ⟨k2, hk2, _, _, hp2⟩ := wb_pow hMn
  obtain rfl : n = k2 := by omega
  have hv := vl_lt b n
  have hp3 : ((2 ^ n : Nat) : Int) = (2 : Int) ^ n := by push_cast; rfl
  have HB2 := Lib.hid (fun W => bits_ok (vl b n) n Mn hMn (by omega) W)
  have HBV := Lib.hid (fun i (hi : i < n) => bit_vl (b := b) (n := n) hi)
  clear _hb hMn hk2 hp2 hp3 hv
  have HZ := Lib.hid (show nwB z = true by unfold nwB; simp; omega)
  have HBT := Lib.hid (fun W => bits_bad1 x z HZ.out W)
  have d1 : decide (z < 1) = true := by simpa using hz
  clear HZ hz
  have g1 : decide ((n : Int) < 1) = false := by simp; omega
  have g2 : decide (8 < (n : Int)) = false := by simp; omega
  clear ht
  go_enter Tryd.func4, Tryd.ntmps4
  go_wp2_with fail
  refine (fact_any w HT.out).mono ?_
  rintro e w1 ⟨rfl, hb⟩
  have G1 := Lib.hid hb
  clear hb
  go_wp2_with fail
  refine (HBT.out _).mono ?_
  rintro e w2 ⟨rfl, hb⟩
  have G2 := Lib.hid (bw_below (Nat.le_refl _) G1.out hb)
  have R2 := Lib.hid (HB.new w2 24 #[.int .i64 3, .int .i64 (-1)])
  have H2 := Lib.hid (G2.out.alloc G2.out.size (.cells #[.int .i64 3, .int .i64 (-1)] 24))
  clear hb G1
  go_wp2_with fail
  refine (HO.out _ H2.out).mono ?_
  rintro e w3 ⟨rfl, hb⟩
  have G3 := Lib.hid (bw_below (Nat.le_refl _) H2.out hb)
  have R3 := Lib.hid ((R2.out.below hb).alloc (.cells #[.int .i64 0, .int .i64 0] 24))
  have U3 := Lib.hid (HB.new w3 24 #[.int .i64 0, .int .i64 0])
  have H3 := Lib.hid (G3.out.alloc G3.out.size (.cells #[.int .i64 0, .int .i64 0] 24))
  clear hb G2 R2 H2 G3 HO HBT
  have K3 := Lib.hid (flt_keep R3.out)
  have RQ := R3
  obtain ⟨y0, y1, y2, y3⟩ := R3.out.two
  have yl := R3.out.lt
  go_upto_region 7 with fail
  go_region_held3 (fun W => FltE w2.heap.size 3 (-1) W)
    ((first | (with_reducible exact K3.out _ (Below.refl _ _)) | (refine K3.out _ ?_; go_grown; done) | (with_reducible exact K3.out _ Q1.out)))
    (first
      | (go_at_call 13; (with_reducible refine (fault_any _ _ _).mono ?_); rintro e wq ⟨rfl, hbq⟩; have Q1 := Lib.hid (below_after (show Below (w3.alloc (.cells #[.int .i64 0, .int .i64 0] 24)).heap.size (w3.alloc (.cells #[.int .i64 0, .int .i64 0] 24)) _ by go_grown) hbq); obtain ⟨qa, qb, qc, qd⟩ := (RQ.out.below Q1.out).two; clear hbq))
  have UQ := Lib.hid (U3.out.below Q1.out)
  have HQ := Lib.hid (below_after H3.out (Q1.out.mono (Nat.le_refl _)))
  obtain ⟨u0, u1, u2, u3⟩ := UQ.out.two
  have ul := UQ.out.lt
  clear K3 RQ R3 U3 H3 Q1 y0 y1 y2 y3 yl qa qb qc qd
  go_wp2_with fail
  refine (HB2.out _).mono ?_
  rintro e w5 ⟨g5, rfl, hs, hb⟩
  have H5' := Lib.hid (bw_below (Nat.le_refl _) HQ.out hb)
  have N5 := Lib.hid (new_below w5 (.cells #[.int .i64 0, .int .i64 0] 24))
  have H5 := Lib.hid (H5'.out.alloc H5'.out.size (.cells #[.int .i64 0, .int .i64 0] 24))
  have U5 := Lib.hid ((UQ.out.below hb).below N5.out)
  have S5 := Lib.hid (hs.out.below N5.out)
  obtain ⟨v0, v1, _, _⟩ := U5.out.two
  have vl' := U5.out.lt
  have B5 := Lib.hid (HBS.out.below H5.out)
  clear hb hs HQ H5' N5 UQ u0 u1 u2 u3 ul
  go_wp2_with fail
  go_loopw [16] (fun t wr => ∃ i : Nat, i ≤ n ∧ t = .int .i64 i ∧ Hid (Bs wr (some ⟨g5, 0, none⟩) (fun j => (vl b n).testBit j) n) ∧ Hid (Bs wr A b n) ∧ Hid (Below w.heap.size w wr)) (fun t _ => n - (intOf t).toNat)
  case atStart => exact ⟨0, by omega, rfl, S5, B5, H5⟩
  case round =>
    obtain ⟨i, hi, rfl, SR, BR, HR⟩ := hrel
    clear S5 B5 H5 U5
    by_cases hlt : i < n
    · have t3 : decide ((i : Int) < (n : Int)) = true := by simpa using hlt
      obtain ⟨ga, oa, rfl, la, ca⟩ := BR.out.at_ hlt
      obtain ⟨gb, ob, heq, lb, cb⟩ := SR.out.at_ hlt
      simp only [Option.some.injEq, Addr.mk.injEq, and_true] at heq
      obtain ⟨rfl, rfl⟩ := heq
      rw [HBV.out i hlt, Nat.zero_add] at cb
      generalize b i = bi at ca cb
      go_wp2_with fail
      go_quiet (fail)
      go_wp2_with fail
      go_round
      case rel => exact ⟨i + 1, by omega, by go_num, Lib.hid (SR.out.drewN _), Lib.hid (BR.out.drewN _), Lib.hid (bw_dn HR.out _)⟩
      case measure => simp [intOf]; omega
    · obtain rfl : i = n := by omega
      have t3 : decide ((i : Int) < (i : Int)) = false := by simp
      go_wp2_with fail
      go_ret
      exact ⟨rfl, HR.out⟩
set_option maxRecDepth 100000 in
set_option maxHeartbeats 8000000 in
theorem bits_W2R1 (x z : Int) (hz1 : ¬ z < 1) (hz : 8 < z) (A : Option Addr) (n : Nat) (hn : n = 0) (c : Nat) (b : Nat → Bool) (hl : n ≤ maxLen) (w : World) (ht : TabW w) (_hb : Bs w A b n) :
    Calls Tryd.prog 4 #[.int .i64 x, .int .i64 z, .slice A n c] w fun e w' => e = .returned (.bool true) ∧ Below w.heap.size w w' := by
  have HT := Lib.hid ht
  have _ := hl
  unfold maxLen at hl
  have HN := Lib.hid (show nwB n = true by unfold nwB; simp; omega)
  have HO := Lib.hid (fun W => of_bad A n c HN.out W)
  clear HN
  have HZ := Lib.hid (show nwB z = true by unfold nwB; simp; omega)
  have HBT := Lib.hid (fun W => bits_bad1 x z HZ.out W)
  have d1 : decide (z < 1) = false := by simpa using hz1
  have d2 : decide (8 < z) = true := by simpa using hz
  clear HZ hz hz1
  have g1 : decide ((n : Int) < 1) = true := by simp; omega
  clear hn
  clear ht
  go_enter Tryd.func4, Tryd.ntmps4
  go_wp2_with fail
  refine (fact_any w HT.out).mono ?_
  rintro e w1 ⟨rfl, hb⟩
  have G1 := Lib.hid hb
  clear hb
  go_wp2_with fail
  refine (HBT.out _).mono ?_
  rintro e w2 ⟨rfl, hb⟩
  have G2 := Lib.hid (bw_below (Nat.le_refl _) G1.out hb)
  have R2 := Lib.hid (HB.new w2 24 #[.int .i64 3, .int .i64 (-1)])
  have H2 := Lib.hid (G2.out.alloc G2.out.size (.cells #[.int .i64 3, .int .i64 (-1)] 24))
  clear hb G1
  go_wp2_with fail
  refine (HO.out _).mono ?_
  rintro e w3 ⟨rfl, hb⟩
  have G3 := Lib.hid (bw_below (Nat.le_refl _) H2.out hb)
  have R3 := Lib.hid ((R2.out.below hb).alloc (.cells #[.int .i64 9, .int .i64 0] 24))
  have U3 := Lib.hid (HB.new w3 24 #[.int .i64 9, .int .i64 0])
  have H3 := Lib.hid (G3.out.alloc G3.out.size (.cells #[.int .i64 9, .int .i64 0] 24))
  clear hb G2 R2 H2 G3 HO HBT
  have K3 := Lib.hid (flt_keep R3.out)
  have RQ := R3
  obtain ⟨y0, y1, y2, y3⟩ := R3.out.two
  have yl := R3.out.lt
  go_upto_region 7 with fail
  go_region_held3 (fun W => FltE w2.heap.size 3 (-1) W)
    ((first | (with_reducible exact K3.out _ (Below.refl _ _)) | (refine K3.out _ ?_; go_grown; done) | (with_reducible exact K3.out _ Q1.out)))
    (first
      | (go_at_call 13; (with_reducible refine (fault_any _ _ _).mono ?_); rintro e wq ⟨rfl, hbq⟩; have Q1 := Lib.hid (below_after (show Below (w3.alloc (.cells #[.int .i64 9, .int .i64 0] 24)).heap.size (w3.alloc (.cells #[.int .i64 9, .int .i64 0] 24)) _ by go_grown) hbq); obtain ⟨qa, qb, qc, qd⟩ := (RQ.out.below Q1.out).two; clear hbq))
  have UQ := Lib.hid (U3.out.below Q1.out)
  have HQ := Lib.hid (below_after H3.out (Q1.out.mono (Nat.le_refl _)))
  obtain ⟨u0, u1, u2, u3⟩ := UQ.out.two
  have ul := UQ.out.lt
  clear K3 RQ R3 U3 H3 Q1 y0 y1 y2 y3 yl qa qb qc qd
  have K4 := Lib.hid (flt_keep UQ.out)
  have RQ := UQ
  go_upto_region 16 with fail
  go_region_held3 (fun W => FltE w3.heap.size 9 0 W)
    ((first | (with_reducible exact K4.out _ (Below.refl _ _)) | (refine K4.out _ ?_; go_grown; done) | (with_reducible exact K4.out _ Q2.out)))
    (first
      | (go_at_call 13; (with_reducible refine (fault_any _ _ _).mono ?_); rintro e wr ⟨rfl, hbq⟩; have Q2 := Lib.hid (below_after (show Below wq.heap.size wq _ by go_grown) hbq); obtain ⟨qa, qb, qc, qd⟩ := (RQ.out.below Q2.out).two; clear hbq))
  have HZ := Lib.hid (below_after HQ.out (Q2.out.mono (Nat.le_refl _)))
  clear K4 UQ HQ
  go_wp2_with fail
  go_ret
  exact ⟨rfl, HZ.out⟩
set_option maxRecDepth 100000 in
set_option maxHeartbeats 8000000 in
theorem bits_W2R2 (x z : Int) (hz1 : ¬ z < 1) (hz : 8 < z) (A : Option Addr) (n : Nat) (hn : 8 < n) (c : Nat) (b : Nat → Bool) (hl : n ≤ maxLen) (w : World) (ht : TabW w) (_hb : Bs w A b n) :
    Calls Tryd.prog 4 #[.int .i64 x, .int .i64 z, .slice A n c] w fun e w' => e = .returned (.bool true) ∧ Below w.heap.size w w' := by
  have HT := Lib.hid ht
  have _ := hl
  unfold maxLen at hl
  have HN := Lib.hid (show nwB n = true by unfold nwB; simp; omega)
  have HO := Lib.hid (fun W => of_bad A n c HN.out W)
  clear HN
  have HZ := Lib.hid (show nwB z = true by unfold nwB; simp; omega)
  have HBT := Lib.hid (fun W => bits_bad1 x z HZ.out W)
  have d1 : decide (z < 1) = false := by simpa using hz1
  have d2 : decide (8 < z) = true := by simpa using hz
  clear HZ hz hz1
  have g1 : decide ((n : Int) < 1) = false := by simp; omega
  have g2 : decide (8 < (n : Int)) = true := by simp; omega
  clear hn
  clear ht
  go_enter Tryd.func4, Tryd.ntmps4
  go_wp2_with fail
  refine (fact_any w HT.out).mono ?_
  rintro e w1 ⟨rfl, hb⟩
  have G1 := Lib.hid hb
  clear hb
  go_wp2_with fail
  refine (HBT.out _).mono ?_
  rintro e w2 ⟨rfl, hb⟩
  have G2 := Lib.hid (bw_below (Nat.le_refl _) G1.out hb)
  have R2 := Lib.hid (HB.new w2 24 #[.int .i64 3, .int .i64 (-1)])
  have H2 := Lib.hid (G2.out.alloc G2.out.size (.cells #[.int .i64 3, .int .i64 (-1)] 24))
  clear hb G1
  go_wp2_with fail
  refine (HO.out _).mono ?_
  rintro e w3 ⟨rfl, hb⟩
  have G3 := Lib.hid (bw_below (Nat.le_refl _) H2.out hb)
  have R3 := Lib.hid ((R2.out.below hb).alloc (.cells #[.int .i64 9, .int .i64 0] 24))
  have U3 := Lib.hid (HB.new w3 24 #[.int .i64 9, .int .i64 0])
  have H3 := Lib.hid (G3.out.alloc G3.out.size (.cells #[.int .i64 9, .int .i64 0] 24))
  clear hb G2 R2 H2 G3 HO HBT
  have K3 := Lib.hid (flt_keep R3.out)
  have RQ := R3
  obtain ⟨y0, y1, y2, y3⟩ := R3.out.two
  have yl := R3.out.lt
  go_upto_region 7 with fail
  go_region_held3 (fun W => FltE w2.heap.size 3 (-1) W)
    ((first | (with_reducible exact K3.out _ (Below.refl _ _)) | (refine K3.out _ ?_; go_grown; done) | (with_reducible exact K3.out _ Q1.out)))
    (first
      | (go_at_call 13; (with_reducible refine (fault_any _ _ _).mono ?_); rintro e wq ⟨rfl, hbq⟩; have Q1 := Lib.hid (below_after (show Below (w3.alloc (.cells #[.int .i64 9, .int .i64 0] 24)).heap.size (w3.alloc (.cells #[.int .i64 9, .int .i64 0] 24)) _ by go_grown) hbq); obtain ⟨qa, qb, qc, qd⟩ := (RQ.out.below Q1.out).two; clear hbq))
  have UQ := Lib.hid (U3.out.below Q1.out)
  have HQ := Lib.hid (below_after H3.out (Q1.out.mono (Nat.le_refl _)))
  obtain ⟨u0, u1, u2, u3⟩ := UQ.out.two
  have ul := UQ.out.lt
  clear K3 RQ R3 U3 H3 Q1 y0 y1 y2 y3 yl qa qb qc qd
  have K4 := Lib.hid (flt_keep UQ.out)
  have RQ := UQ
  go_upto_region 16 with fail
  go_region_held3 (fun W => FltE w3.heap.size 9 0 W)
    ((first | (with_reducible exact K4.out _ (Below.refl _ _)) | (refine K4.out _ ?_; go_grown; done) | (with_reducible exact K4.out _ Q2.out)))
    (first
      | (go_at_call 13; (with_reducible refine (fault_any _ _ _).mono ?_); rintro e wr ⟨rfl, hbq⟩; have Q2 := Lib.hid (below_after (show Below wq.heap.size wq _ by go_grown) hbq); obtain ⟨qa, qb, qc, qd⟩ := (RQ.out.below Q2.out).two; clear hbq))
  have HZ := Lib.hid (below_after HQ.out (Q2.out.mono (Nat.le_refl _)))
  clear K4 UQ HQ
  go_wp2_with fail
  go_ret
  exact ⟨rfl, HZ.out⟩
set_option maxRecDepth 100000 in
set_option maxHeartbeats 8000000 in
theorem bits_W2R3 (x z : Int) (hz1 : ¬ z < 1) (hz : 8 < z) (A : Option Addr) (n : Nat) (hn1 : 1 ≤ n) (hn8 : n ≤ 8) (c : Nat) (b : Nat → Bool) (hl : n ≤ maxLen) (w : World) (ht : TabW w) (_hb : Bs w A b n) :
    Calls Tryd.prog 4 #[.int .i64 x, .int .i64 z, .slice A n c] w fun e w' => e = .returned (.bool true) ∧ Below w.heap.size w w' := by
  have HT := Lib.hid ht
  have _ := hl
  unfold maxLen at hl
  have HO := Lib.hid (fun W (hW : Below w.heap.size w W) => of_ok A n c b hn1 hn8 W (_hb.below hW))
  have HBS := Lib.hid _hb
  obtain ⟨Mn, hMn⟩ := wb_of (z := n) (by omega) (by omega)
  obtain ⟨k2, hk2, _, _, hp2⟩ := wb_pow hMn
  obtain rfl : n = k2 := by omega
  have hv := vl_lt b n
  have hp3 : ((2 ^ n : Nat) : Int) = (2 : Int) ^ n := by push_cast; rfl
  have HB2 := Lib.hid (fun W => bits_ok (vl b n) n Mn hMn (by omega) W)
  have HBV := Lib.hid (fun i (hi : i < n) => bit_vl (b := b) (n := n) hi)
  clear _hb hMn hk2 hp2 hp3 hv
  have HZ := Lib.hid (show nwB z = true by unfold nwB; simp; omega)
  have HBT := Lib.hid (fun W => bits_bad1 x z HZ.out W)
  have d1 : decide (z < 1) = false := by simpa using hz1
  have d2 : decide (8 < z) = true := by simpa using hz
  clear HZ hz hz1
  have g1 : decide ((n : Int) < 1) = false := by simp; omega
  have g2 : decide (8 < (n : Int)) = false := by simp; omega
  clear ht
  go_enter Tryd.func4, Tryd.ntmps4
  go_wp2_with fail
  refine (fact_any w HT.out).mono ?_
  rintro e w1 ⟨rfl, hb⟩
  have G1 := Lib.hid hb
  clear hb
  go_wp2_with fail
  refine (HBT.out _).mono ?_
  rintro e w2 ⟨rfl, hb⟩
  have G2 := Lib.hid (bw_below (Nat.le_refl _) G1.out hb)
  have R2 := Lib.hid (HB.new w2 24 #[.int .i64 3, .int .i64 (-1)])
  have H2 := Lib.hid (G2.out.alloc G2.out.size (.cells #[.int .i64 3, .int .i64 (-1)] 24))
  clear hb G1
  go_wp2_with fail
  refine (HO.out _ H2.out).mono ?_
  rintro e w3 ⟨rfl, hb⟩
  have G3 := Lib.hid (bw_below (Nat.le_refl _) H2.out hb)
  have R3 := Lib.hid ((R2.out.below hb).alloc (.cells #[.int .i64 0, .int .i64 0] 24))
  have U3 := Lib.hid (HB.new w3 24 #[.int .i64 0, .int .i64 0])
  have H3 := Lib.hid (G3.out.alloc G3.out.size (.cells #[.int .i64 0, .int .i64 0] 24))
  clear hb G2 R2 H2 G3 HO HBT
  have K3 := Lib.hid (flt_keep R3.out)
  have RQ := R3
  obtain ⟨y0, y1, y2, y3⟩ := R3.out.two
  have yl := R3.out.lt
  go_upto_region 7 with fail
  go_region_held3 (fun W => FltE w2.heap.size 3 (-1) W)
    ((first | (with_reducible exact K3.out _ (Below.refl _ _)) | (refine K3.out _ ?_; go_grown; done) | (with_reducible exact K3.out _ Q1.out)))
    (first
      | (go_at_call 13; (with_reducible refine (fault_any _ _ _).mono ?_); rintro e wq ⟨rfl, hbq⟩; have Q1 := Lib.hid (below_after (show Below (w3.alloc (.cells #[.int .i64 0, .int .i64 0] 24)).heap.size (w3.alloc (.cells #[.int .i64 0, .int .i64 0] 24)) _ by go_grown) hbq); obtain ⟨qa, qb, qc, qd⟩ := (RQ.out.below Q1.out).two; clear hbq))
  have UQ := Lib.hid (U3.out.below Q1.out)
  have HQ := Lib.hid (below_after H3.out (Q1.out.mono (Nat.le_refl _)))
  obtain ⟨u0, u1, u2, u3⟩ := UQ.out.two
  have ul := UQ.out.lt
  clear K3 RQ R3 U3 H3 Q1 y0 y1 y2 y3 yl qa qb qc qd
  go_wp2_with fail
  refine (HB2.out _).mono ?_
  rintro e w5 ⟨g5, rfl, hs, hb⟩
  have H5' := Lib.hid (bw_below (Nat.le_refl _) HQ.out hb)
  have N5 := Lib.hid (new_below w5 (.cells #[.int .i64 0, .int .i64 0] 24))
  have H5 := Lib.hid (H5'.out.alloc H5'.out.size (.cells #[.int .i64 0, .int .i64 0] 24))
  have U5 := Lib.hid ((UQ.out.below hb).below N5.out)
  have S5 := Lib.hid (hs.out.below N5.out)
  obtain ⟨v0, v1, _, _⟩ := U5.out.two
  have vl' := U5.out.lt
  have B5 := Lib.hid (HBS.out.below H5.out)
  clear hb hs HQ H5' N5 UQ u0 u1 u2 u3 ul
  go_wp2_with fail
  go_loopw [16] (fun t wr => ∃ i : Nat, i ≤ n ∧ t = .int .i64 i ∧ Hid (Bs wr (some ⟨g5, 0, none⟩) (fun j => (vl b n).testBit j) n) ∧ Hid (Bs wr A b n) ∧ Hid (Below w.heap.size w wr)) (fun t _ => n - (intOf t).toNat)
  case atStart => exact ⟨0, by omega, rfl, S5, B5, H5⟩
  case round =>
    obtain ⟨i, hi, rfl, SR, BR, HR⟩ := hrel
    clear S5 B5 H5 U5
    by_cases hlt : i < n
    · have t3 : decide ((i : Int) < (n : Int)) = true := by simpa using hlt
      obtain ⟨ga, oa, rfl, la, ca⟩ := BR.out.at_ hlt
      obtain ⟨gb, ob, heq, lb, cb⟩ := SR.out.at_ hlt
      simp only [Option.some.injEq, Addr.mk.injEq, and_true] at heq
      obtain ⟨rfl, rfl⟩ := heq
      rw [HBV.out i hlt, Nat.zero_add] at cb
      generalize b i = bi at ca cb
      go_wp2_with fail
      go_quiet (fail)
      go_wp2_with fail
      go_round
      case rel => exact ⟨i + 1, by omega, by go_num, Lib.hid (SR.out.drewN _), Lib.hid (BR.out.drewN _), Lib.hid (bw_dn HR.out _)⟩
      case measure => simp [intOf]; omega
    · obtain rfl : i = n := by omega
      have t3 : decide ((i : Int) < (i : Int)) = false := by simp
      go_wp2_with fail
      go_ret
      exact ⟨rfl, HR.out⟩
set_option maxRecDepth 100000 in
set_option maxHeartbeats 8000000 in
theorem bits_W3R1 (x M : Int) (k : Nat) (h : Wb k M) (hx : x < 0) (A : Option Addr) (n : Nat) (hn : n = 0) (c : Nat) (b : Nat → Bool) (hl : n ≤ maxLen) (w : World) (ht : TabW w) (_hb : Bs w A b n) :
    Calls Tryd.prog 4 #[.int .i64 x, .int .i64 (k : Int), .slice A n c] w fun e w' => e = .returned (.bool true) ∧ Below w.heap.size w w' := by
  have HT := Lib.hid ht
  have _ := hl
  unfold maxLen at hl
  have HN := Lib.hid (show nwB n = true by unfold nwB; simp; omega)
  have HO := Lib.hid (fun W => of_bad A n c HN.out W)
  clear HN
  obtain ⟨k', hk', k1, k8, hpM⟩ := wb_pow h
  obtain rfl : k = k' := by omega
  have hpk : ((2 ^ k : Nat) : Int) = (2 : Int) ^ k := by push_cast; rfl
  have d1 : decide ((k : Int) < 1) = false := by simp; omega
  have d2 : decide (8 < (k : Int)) = false := by simp; omega
  have q0 := two_pow_wrap k8
  have q2 : min k 64 = k := by omega
  have HBT := Lib.hid (fun W => bits_bad2 x k M (nwB_of h) h (by unfold noB; simp; omega) W)
  have e1 : decide (x < 0) = true := by simpa using hx
  clear hx
  clear h hk' k1 hpM hpk
  have g1 : decide ((n : Int) < 1) = true := by simp; omega
  clear hn
  clear ht
  go_enter Tryd.func4, Tryd.ntmps4
  go_wp2_with fail
  refine (fact_any w HT.out).mono ?_
  rintro e w1 ⟨rfl, hb⟩
  have G1 := Lib.hid hb
  clear hb
  go_wp2_with fail
  refine (HBT.out _).mono ?_
  rintro e w2 ⟨rfl, hb⟩
  have G2 := Lib.hid (bw_below (Nat.le_refl _) G1.out hb)
  have R2 := Lib.hid (HB.new w2 24 #[.int .i64 3, .int .i64 0])
  have H2 := Lib.hid (G2.out.alloc G2.out.size (.cells #[.int .i64 3, .int .i64 0] 24))
  clear hb G1
  go_wp2_with fail
  refine (HO.out _).mono ?_
  rintro e w3 ⟨rfl, hb⟩
  have G3 := Lib.hid (bw_below (Nat.le_refl _) H2.out hb)
  have R3 := Lib.hid ((R2.out.below hb).alloc (.cells #[.int .i64 9, .int .i64 0] 24))
  have U3 := Lib.hid (HB.new w3 24 #[.int .i64 9, .int .i64 0])
  have H3 := Lib.hid (G3.out.alloc G3.out.size (.cells #[.int .i64 9, .int .i64 0] 24))
  clear hb G2 R2 H2 G3 HO HBT
  have K3 := Lib.hid (flt_keep R3.out)
  have RQ := R3
  obtain ⟨y0, y1, y2, y3⟩ := R3.out.two
  have yl := R3.out.lt
  go_upto_region 10 with fail
  go_region_held3 (fun W => FltE w2.heap.size 3 0 W)
    ((first | (with_reducible exact K3.out _ (Below.refl _ _)) | (refine K3.out _ ?_; go_grown; done) | (with_reducible exact K3.out _ Q1.out)))
    (first
      | (go_at_call 13; (with_reducible refine (fault_any _ _ _).mono ?_); rintro e wq ⟨rfl, hbq⟩; have Q1 := Lib.hid (below_after (show Below (w3.alloc (.cells #[.int .i64 9, .int .i64 0] 24)).heap.size (w3.alloc (.cells #[.int .i64 9, .int .i64 0] 24)) _ by go_grown) hbq); obtain ⟨qa, qb, qc, qd⟩ := (RQ.out.below Q1.out).two; clear hbq))
  have UQ := Lib.hid (U3.out.below Q1.out)
  have HQ := Lib.hid (below_after H3.out (Q1.out.mono (Nat.le_refl _)))
  obtain ⟨u0, u1, u2, u3⟩ := UQ.out.two
  have ul := UQ.out.lt
  clear K3 RQ R3 U3 H3 Q1 y0 y1 y2 y3 yl qa qb qc qd
  have K4 := Lib.hid (flt_keep UQ.out)
  have RQ := UQ
  go_upto_region 16 with fail
  go_region_held3 (fun W => FltE w3.heap.size 9 0 W)
    ((first | (with_reducible exact K4.out _ (Below.refl _ _)) | (refine K4.out _ ?_; go_grown; done) | (with_reducible exact K4.out _ Q2.out)))
    (first
      | (go_at_call 13; (with_reducible refine (fault_any _ _ _).mono ?_); rintro e wr ⟨rfl, hbq⟩; have Q2 := Lib.hid (below_after (show Below wq.heap.size wq _ by go_grown) hbq); obtain ⟨qa, qb, qc, qd⟩ := (RQ.out.below Q2.out).two; clear hbq))
  have HZ := Lib.hid (below_after HQ.out (Q2.out.mono (Nat.le_refl _)))
  clear K4 UQ HQ
  go_wp2_with fail
  go_ret
  exact ⟨rfl, HZ.out⟩
set_option maxRecDepth 100000 in
set_option maxHeartbeats 8000000 in
theorem bits_W3R2 (x M : Int) (k : Nat) (h : Wb k M) (hx : x < 0) (A : Option Addr) (n : Nat) (hn : 8 < n) (c : Nat) (b : Nat → Bool) (hl : n ≤ maxLen) (w : World) (ht : TabW w) (_hb : Bs w A b n) :
    Calls Tryd.prog 4 #[.int .i64 x, .int .i64 (k : Int), .slice A n c] w fun e w' => e = .returned (.bool true) ∧ Below w.heap.size w w' := by
  have HT := Lib.hid ht
  have _ := hl
  unfold maxLen at hl
  have HN := Lib.hid (show nwB n = true by unfold nwB; simp; omega)
  have HO := Lib.hid (fun W => of_bad A n c HN.out W)
  clear HN
  obtain ⟨k', hk', k1, k8, hpM⟩ := wb_pow h
  obtain rfl : k = k' := by omega
  have hpk : ((2 ^ k : Nat) : Int) = (2 : Int) ^ k := by push_cast; rfl
  have d1 : decide ((k : Int) < 1) = false := by simp; omega
  have d2 : decide (8 < (k : Int)) = false := by simp; omega
  have q0 := two_pow_wrap k8
  have q2 : min k 64 = k := by omega
  have HBT := Lib.hid (fun W => bits_bad2 x k M (nwB_of h) h (by unfold noB; simp; omega) W)
  have e1 : decide (x < 0) = true := by simpa using hx
  clear hx
  clear h hk' k1 hpM hpk
  have g1 : decide ((n : Int) < 1) = false := by simp; omega
  have g2 : decide (8 < (n : Int)) = true := by simp; omega
  clear hn
  clear ht
  go_enter Tryd.func4, Tryd.ntmps4
  go_wp2_with fail
  refine (fact_any w HT.out).mono ?_
  rintro e w1 ⟨rfl, hb⟩
  have G1 := Lib.hid hb
  clear hb
  go_wp2_with fail
  refine (HBT.out _).mono ?_
  rintro e w2 ⟨rfl, hb⟩
  have G2 := Lib.hid (bw_below (Nat.le_refl _) G1.out hb)
  have R2 := Lib.hid (HB.new w2 24 #[.int .i64 3, .int .i64 0])
  have H2 := Lib.hid (G2.out.alloc G2.out.size (.cells #[.int .i64 3, .int .i64 0] 24))
  clear hb G1
  go_wp2_with fail
  refine (HO.out _).mono ?_
  rintro e w3 ⟨rfl, hb⟩
  have G3 := Lib.hid (bw_below (Nat.le_refl _) H2.out hb)
  have R3 := Lib.hid ((R2.out.below hb).alloc (.cells #[.int .i64 9, .int .i64 0] 24))
  have U3 := Lib.hid (HB.new w3 24 #[.int .i64 9, .int .i64 0])
  have H3 := Lib.hid (G3.out.alloc G3.out.size (.cells #[.int .i64 9, .int .i64 0] 24))
  clear hb G2 R2 H2 G3 HO HBT
  have K3 := Lib.hid (flt_keep R3.out)
  have RQ := R3
  obtain ⟨y0, y1, y2, y3⟩ := R3.out.two
  have yl := R3.out.lt
  go_upto_region 10 with fail
  go_region_held3 (fun W => FltE w2.heap.size 3 0 W)
    ((first | (with_reducible exact K3.out _ (Below.refl _ _)) | (refine K3.out _ ?_; go_grown; done) | (with_reducible exact K3.out _ Q1.out)))
    (first
      | (go_at_call 13; (with_reducible refine (fault_any _ _ _).mono ?_); rintro e wq ⟨rfl, hbq⟩; have Q1 := Lib.hid (below_after (show Below (w3.alloc (.cells #[.int .i64 9, .int .i64 0] 24)).heap.size (w3.alloc (.cells #[.int .i64 9, .int .i64 0] 24)) _ by go_grown) hbq); obtain ⟨qa, qb, qc, qd⟩ := (RQ.out.below Q1.out).two; clear hbq))
  have UQ := Lib.hid (U3.out.below Q1.out)
  have HQ := Lib.hid (below_after H3.out (Q1.out.mono (Nat.le_refl _)))
  obtain ⟨u0, u1, u2, u3⟩ := UQ.out.two
  have ul := UQ.out.lt
  clear K3 RQ R3 U3 H3 Q1 y0 y1 y2 y3 yl qa qb qc qd
  have K4 := Lib.hid (flt_keep UQ.out)
  have RQ := UQ
  go_upto_region 16 with fail
  go_region_held3 (fun W => FltE w3.heap.size 9 0 W)
    ((first | (with_reducible exact K4.out _ (Below.refl _ _)) | (refine K4.out _ ?_; go_grown; done) | (with_reducible exact K4.out _ Q2.out)))
    (first
      | (go_at_call 13; (with_reducible refine (fault_any _ _ _).mono ?_); rintro e wr ⟨rfl, hbq⟩; have Q2 := Lib.hid (below_after (show Below wq.heap.size wq _ by go_grown) hbq); obtain ⟨qa, qb, qc, qd⟩ := (RQ.out.below Q2.out).two; clear hbq))
  have HZ := Lib.hid (below_after HQ.out (Q2.out.mono (Nat.le_refl _)))
  clear K4 UQ HQ
  go_wp2_with fail
  go_ret
  exact ⟨rfl, HZ.out⟩
set_option maxRecDepth 100000 in
set_option maxHeartbeats 8000000 in
theorem bits_W3R3 (x M : Int) (k : Nat) (h : Wb k M) (hx : x < 0) (A : Option Addr) (n : Nat) (hn1 : 1 ≤ n) (hn8 : n ≤ 8) (c : Nat) (b : Nat → Bool) (hl : n ≤ maxLen) (w : World) (ht : TabW w) (_hb : Bs w A b n) :
    Calls Tryd.prog 4 #[.int .i64 x, .int .i64 (k : Int), .slice A n c] w fun e w' => e = .returned (.bool true) ∧ Below w.heap.size w w' := by
  have HT := Lib.hid ht
  have _ := hl
  unfold maxLen at hl
  have HO := Lib.hid (fun W (hW : Below w.heap.size w W) => of_ok A n c b hn1 hn8 W (_hb.below hW))
  have HBS := Lib.hid _hb
  obtain ⟨Mn, hMn⟩ := wb_of (z := n) (by omega) (by omega)
  obtain ⟨k2, hk2, _, _, hp2⟩ := wb_pow hMn
  obtain rfl : n = k2 := by omega
  have hv := vl_lt b n
  have hp3 : ((2 ^ n : Nat) : Int) = (2 : Int) ^ n := by push_cast; rfl
  have HB2 := Lib.hid (fun W => bits_ok (vl b n) n Mn hMn (by omega) W)
  have HBV := Lib.hid (fun i (hi : i < n) => bit_vl (b := b) (n := n) hi)
  clear _hb hMn hk2 hp2 hp3 hv
  obtain ⟨k', hk', k1, k8, hpM⟩ := wb_pow h
  obtain rfl : k = k' := by omega
  have hpk : ((2 ^ k : Nat) : Int) = (2 : Int) ^ k := by push_cast; rfl
  have d1 : decide ((k : Int) < 1) = false := by simp; omega
  have d2 : decide (8 < (k : Int)) = false := by simp; omega
  have q0 := two_pow_wrap k8
  have q2 : min k 64 = k := by omega
  have HBT := Lib.hid (fun W => bits_bad2 x k M (nwB_of h) h (by unfold noB; simp; omega) W)
  have e1 : decide (x < 0) = true := by simpa using hx
  clear hx
  clear h hk' k1 hpM hpk
  have g1 : decide ((n : Int) < 1) = false := by simp; omega
  have g2 : decide (8 < (n : Int)) = false := by simp; omega
  clear ht
  go_enter Tryd.func4, Tryd.ntmps4
  go_wp2_with fail
  refine (fact_any w HT.out).mono ?_
  rintro e w1 ⟨rfl, hb⟩
  have G1 := Lib.hid hb
  clear hb
  go_wp2_with fail
  refine (HBT.out _).mono ?_
  rintro e w2 ⟨rfl, hb⟩
  have G2 := Lib.hid (bw_below (Nat.le_refl _) G1.out hb)
  have R2 := Lib.hid (HB.new w2 24 #[.int .i64 3, .int .i64 0])
  have H2 := Lib.hid (G2.out.alloc G2.out.size (.cells #[.int .i64 3, .int .i64 0] 24))
  clear hb G1
  go_wp2_with fail
  refine (HO.out _ H2.out).mono ?_
  rintro e w3 ⟨rfl, hb⟩
  have G3 := Lib.hid (bw_below (Nat.le_refl _) H2.out hb)
  have R3 := Lib.hid ((R2.out.below hb).alloc (.cells #[.int .i64 0, .int .i64 0] 24))
  have U3 := Lib.hid (HB.new w3 24 #[.int .i64 0, .int .i64 0])
  have H3 := Lib.hid (G3.out.alloc G3.out.size (.cells #[.int .i64 0, .int .i64 0] 24))
  clear hb G2 R2 H2 G3 HO HBT
  have K3 := Lib.hid (flt_keep R3.out)
  have RQ := R3
  obtain ⟨y0, y1, y2, y3⟩ := R3.out.two
  have yl := R3.out.lt
  go_upto_region 10 with fail
  go_region_held3 (fun W => FltE w2.heap.size 3 0 W)
    ((first | (with_reducible exact K3.out _ (Below.refl _ _)) | (refine K3.out _ ?_; go_grown; done) | (with_reducible exact K3.out _ Q1.out)))
    (first
      | (go_at_call 13; (with_reducible refine (fault_any _ _ _).mono ?_); rintro e wq ⟨rfl, hbq⟩; have Q1 := Lib.hid (below_after (show Below (w3.alloc (.cells #[.int .i64 0, .int .i64 0] 24)).heap.size (w3.alloc (.cells #[.int .i64 0, .int .i64 0] 24)) _ by go_grown) hbq); obtain ⟨qa, qb, qc, qd⟩ := (RQ.out.below Q1.out).two; clear hbq))
  have UQ := Lib.hid (U3.out.below Q1.out)
  have HQ := Lib.hid (below_after H3.out (Q1.out.mono (Nat.le_refl _)))
  obtain ⟨u0, u1, u2, u3⟩ := UQ.out.two
  have ul := UQ.out.lt
  clear K3 RQ R3 U3 H3 Q1 y0 y1 y2 y3 yl qa qb qc qd
  go_wp2_with fail
  refine (HB2.out _).mono ?_
  rintro e w5 ⟨g5, rfl, hs, hb⟩
  have H5' := Lib.hid (bw_below (Nat.le_refl _) HQ.out hb)
  have N5 := Lib.hid (new_below w5 (.cells #[.int .i64 0, .int .i64 0] 24))
  have H5 := Lib.hid (H5'.out.alloc H5'.out.size (.cells #[.int .i64 0, .int .i64 0] 24))
  have U5 := Lib.hid ((UQ.out.below hb).below N5.out)
  have S5 := Lib.hid (hs.out.below N5.out)
  obtain ⟨v0, v1, _, _⟩ := U5.out.two
  have vl' := U5.out.lt
  have B5 := Lib.hid (HBS.out.below H5.out)
  clear hb hs HQ H5' N5 UQ u0 u1 u2 u3 ul
  go_wp2_with fail
  go_loopw [16] (fun t wr => ∃ i : Nat, i ≤ n ∧ t = .int .i64 i ∧ Hid (Bs wr (some ⟨g5, 0, none⟩) (fun j => (vl b n).testBit j) n) ∧ Hid (Bs wr A b n) ∧ Hid (Below w.heap.size w wr)) (fun t _ => n - (intOf t).toNat)
  case atStart => exact ⟨0, by omega, rfl, S5, B5, H5⟩
  case round =>
    obtain ⟨i, hi, rfl, SR, BR, HR⟩ := hrel
    clear S5 B5 H5 U5
    by_cases hlt : i < n
    · have t3 : decide ((i : Int) < (n : Int)) = true := by simpa using hlt
      obtain ⟨ga, oa, rfl, la, ca⟩ := BR.out.at_ hlt
      obtain ⟨gb, ob, heq, lb, cb⟩ := SR.out.at_ hlt
      simp only [Option.some.injEq, Addr.mk.injEq, and_true] at heq
      obtain ⟨rfl, rfl⟩ := heq
      rw [HBV.out i hlt, Nat.zero_add] at cb
      generalize b i = bi at ca cb
      go_wp2_with fail
      go_quiet (fail)
      go_wp2_with fail
      go_round
      case rel => exact ⟨i + 1, by omega, by go_num, Lib.hid (SR.out.drewN _), Lib.hid (BR.out.drewN _), Lib.hid (bw_dn HR.out _)⟩
      case measure => simp [intOf]; omega
    · obtain rfl : i = n := by omega
      have t3 : decide ((i : Int) < (i : Int)) = false := by simp
      go_wp2_with fail
      go_ret
      exact ⟨rfl, HR.out⟩
set_option maxRecDepth 100000 in
set_option maxHeartbeats 8000000 in
theorem bits_W4R1 (x M : Int) (k : Nat) (h : Wb k M) (hx0 : ¬ x < 0) (hx : 2 ^ k ≤ x) (A : Option Addr) (n : Nat) (hn : n = 0) (c : Nat) (b : Nat → Bool) (hl : n ≤ maxLen) (w : World) (ht : TabW w) (_hb : Bs w A b n) :
    Calls Tryd.prog 4 #[.int .i64 x, .int .i64 (k : Int), .slice A n c] w fun e w' => e = .returned (.bool true) ∧ Below w.heap.size w w' := by
  have HT := Lib.hid ht
  have _ := hl
  unfold maxLen at hl
  have HN := Lib.hid (show nwB n = true by unfold nwB; simp; omega)
  have HO := Lib.hid (fun W => of_bad A n c HN.out W)
  clear HN
  obtain ⟨k', hk', k1, k8, hpM⟩ := wb_pow h
  obtain rfl : k = k' := by omega
  have hpk : ((2 ^ k : Nat) : Int) = (2 : Int) ^ k := by push_cast; rfl
  have d1 : decide ((k : Int) < 1) = false := by simp; omega
  have d2 : decide (8 < (k : Int)) = false := by simp; omega
  have q0 := two_pow_wrap k8
  have q2 : min k 64 = k := by omega
  have HBT := Lib.hid (fun W => bits_bad2 x k M (nwB_of h) h (by unfold noB; simp; omega) W)
  have e1 : decide (x < 0) = false := by simpa using hx0
  have e2 : decide ((2 : Int) ^ k ≤ x) = true := by simpa using hx
  clear hx hx0
  clear h hk' k1 hpM hpk
  have g1 : decide ((n : Int) < 1) = true := by simp; omega
  clear hn
  clear ht
  go_enter Tryd.func4, Tryd.ntmps4
  go_wp2_with fail
  refine (fact_any w HT.out).mono ?_
  rintro e w1 ⟨rfl, hb⟩
  have G1 := Lib.hid hb
  clear hb
  go_wp2_with fail
  refine (HBT.out _).mono ?_
  rintro e w2 ⟨rfl, hb⟩
  have G2 := Lib.hid (bw_below (Nat.le_refl _) G1.out hb)
  have R2 := Lib.hid (HB.new w2 24 #[.int .i64 3, .int .i64 0])
  have H2 := Lib.hid (G2.out.alloc G2.out.size (.cells #[.int .i64 3, .int .i64 0] 24))
  clear hb G1
  go_wp2_with fail
  refine (HO.out _).mono ?_
  rintro e w3 ⟨rfl, hb⟩
  have G3 := Lib.hid (bw_below (Nat.le_refl _) H2.out hb)
  have R3 := Lib.hid ((R2.out.below hb).alloc (.cells #[.int .i64 9, .int .i64 0] 24))
  have U3 := Lib.hid (HB.new w3 24 #[.int .i64 9, .int .i64 0])
  have H3 := Lib.hid (G3.out.alloc G3.out.size (.cells #[.int .i64 9, .int .i64 0] 24))
  clear hb G2 R2 H2 G3 HO HBT
  have K3 := Lib.hid (flt_keep R3.out)
  have RQ := R3
  obtain ⟨y0, y1, y2, y3⟩ := R3.out.two
  have yl := R3.out.lt
  go_upto_region 10 with fail
  go_region_held3 (fun W => FltE w2.heap.size 3 0 W)
    ((first | (with_reducible exact K3.out _ (Below.refl _ _)) | (refine K3.out _ ?_; go_grown; done) | (with_reducible exact K3.out _ Q1.out)))
    (first
      | (go_at_call 13; (with_reducible refine (fault_any _ _ _).mono ?_); rintro e wq ⟨rfl, hbq⟩; have Q1 := Lib.hid (below_after (show Below (w3.alloc (.cells #[.int .i64 9, .int .i64 0] 24)).heap.size (w3.alloc (.cells #[.int .i64 9, .int .i64 0] 24)) _ by go_grown) hbq); obtain ⟨qa, qb, qc, qd⟩ := (RQ.out.below Q1.out).two; clear hbq))
  have UQ := Lib.hid (U3.out.below Q1.out)
  have HQ := Lib.hid (below_after H3.out (Q1.out.mono (Nat.le_refl _)))
  obtain ⟨u0, u1, u2, u3⟩ := UQ.out.two
  have ul := UQ.out.lt
  clear K3 RQ R3 U3 H3 Q1 y0 y1 y2 y3 yl qa qb qc qd
  have K4 := Lib.hid (flt_keep UQ.out)
  have RQ := UQ
  go_upto_region 16 with fail
  go_region_held3 (fun W => FltE w3.heap.size 9 0 W)
    ((first | (with_reducible exact K4.out _ (Below.refl _ _)) | (refine K4.out _ ?_; go_grown; done) | (with_reducible exact K4.out _ Q2.out)))
    (first
      | (go_at_call 13; (with_reducible refine (fault_any _ _ _).mono ?_); rintro e wr ⟨rfl, hbq⟩; have Q2 := Lib.hid (below_after (show Below wq.heap.size wq _ by go_grown) hbq); obtain ⟨qa, qb, qc, qd⟩ := (RQ.out.below Q2.out).two; clear hbq))
  have HZ := Lib.hid (below_after HQ.out (Q2.out.mono (Nat.le_refl _)))
  clear K4 UQ HQ
  go_wp2_with fail
  go_ret
  exact ⟨rfl, HZ.out⟩
set_option maxRecDepth 100000 in
set_option maxHeartbeats 8000000 in
theorem bits_W4R2 (x M : Int) (k : Nat) (h : Wb k M) (hx0 : ¬ x < 0) (hx : 2 ^ k ≤ x) (A : Option Addr) (n : Nat) (hn : 8 < n) (c : Nat) (b : Nat → Bool) (hl : n ≤ maxLen) (w : World) (ht : TabW w) (_hb : Bs w A b n) :
    Calls Tryd.prog 4 #[.int .i64 x, .int .i64 (k : Int), .slice A n c] w fun e w' => e = .returned (.bool true) ∧ Below w.heap.size w w' := by
  have HT := Lib.hid ht
  have _ := hl
  unfold maxLen at hl
  have HN := Lib.hid (show nwB n = true by unfold nwB; simp; omega)
  have HO := Lib.hid (fun W => of_bad A n c HN.out W)
  clear HN
  obtain ⟨k', hk', k1, k8, hpM⟩ := wb_pow h
  obtain rfl : k = k' := by omega
  have hpk : ((2 ^ k : Nat) : Int) = (2 : Int) ^ k := by push_cast; rfl
  have d1 : decide ((k : Int) < 1) = false := by simp; omega
  have d2 : decide (8 < (k : Int)) = false := by simp; omega
  have q0 := two_pow_wrap k8
  have q2 : min k 64 = k := by omega
  have HBT := Lib.hid (fun W => bits_bad2 x k M (nwB_of h) h (by unfold noB; simp; omega) W)
  have e1 : decide (x < 0) = false := by simpa using hx0
  have e2 : decide ((2 : Int) ^ k ≤ x) = true := by simpa using hx
  clear hx hx0
  clear h hk' k1 hpM hpk
  have g1 : decide ((n : Int) < 1) = false := by simp; omega
  have g2 : decide (8 < (n : Int)) = true := by simp; omega
  clear hn
  clear ht
  go_enter Tryd.func4, Tryd.ntmps4
  go_wp2_with fail
  refine (fact_any w HT.out).mono ?_
  rintro e w1 ⟨rfl, hb⟩
  have G1 := Lib.hid hb
  clear hb
  go_wp2_with fail
  refine (HBT.out _).mono ?_
  rintro e w2 ⟨rfl, hb⟩
  have G2 := Lib.hid (bw_below (Nat.le_refl _) G1.out hb)
  have R2 := Lib.hid (HB.new w2 24 #[.int .i64 3, .int .i64 0])
  have H2 := Lib.hid (G2.out.alloc G2.out.size (.cells #[.int .i64 3, .int .i64 0] 24))
  clear hb G1
  go_wp2_with fail
  refine (HO.out _).mono ?_
  rintro e w3 ⟨rfl, hb⟩
  have G3 := Lib.hid (bw_below (Nat.le_refl _) H2.out hb)
  have R3 := Lib.hid ((R2.out.below hb).alloc (.cells #[.int .i64 9, .int .i64 0] 24))
  have U3 := Lib.hid (HB.new w3 24 #[.int .i64 9, .int .i64 0])
  have H3 := Lib.hid (G3.out.alloc G3.out.size (.cells #[.int .i64 9, .int .i64 0] 24))
  clear hb G2 R2 H2 G3 HO HBT
  have K3 := Lib.hid (flt_keep R3.out)
  have RQ := R3
  obtain ⟨y0, y1, y2, y3⟩ := R3.out.two
  have yl := R3.out.lt
  go_upto_region 10 with fail
  go_region_held3 (fun W => FltE w2.heap.size 3 0 W)
    ((first | (with_reducible exact K3.out _ (Below.refl _ _)) | (refine K3.out _ ?_; go_grown; done) | (with_reducible exact K3.out _ Q1.out)))
    (first
      | (go_at_call 13; (with_reducible refine (fault_any _ _ _).mono ?_); rintro e wq ⟨rfl, hbq⟩; have Q1 := Lib.hid (below_after (show Below (w3.alloc (.cells #[.int .i64 9, .int .i64 0] 24)).heap.size (w3.alloc (.cells #[.int .i64 9, .int .i64 0] 24)) _ by go_grown) hbq); obtain ⟨qa, qb, qc, qd⟩ := (RQ.out.below Q1.out).two; clear hbq))
  have UQ := Lib.hid (U3.out.below Q1.out)
  have HQ := Lib.hid (below_after H3.out (Q1.out.mono (Nat.le_refl _)))
  obtain ⟨u0, u1, u2, u3⟩ := UQ.out.two
  have ul := UQ.out.lt
  clear K3 RQ R3 U3 H3 Q1 y0 y1 y2 y3 yl qa qb qc qd
  have K4 := Lib.hid (flt_keep UQ.out)
  have RQ := UQ
  go_upto_region 16 with fail
  go_region_held3 (fun W => FltE w3.heap.size 9 0 W)
    ((first | (with_reducible exact K4.out _ (Below.refl _ _)) | (refine K4.out _ ?_; go_grown; done) | (with_reducible exact K4.out _ Q2.out)))
    (first
      | (go_at_call 13; (with_reducible refine (fault_any _ _ _).mono ?_); rintro e wr ⟨rfl, hbq⟩; have Q2 := Lib.hid (below_after (show Below wq.heap.size wq _ by go_grown) hbq); obtain ⟨qa, qb, qc, qd⟩ := (RQ.out.below Q2.out).two; clear hbq))
  have HZ := Lib.hid (below_after HQ.out (Q2.out.mono (Nat.le_refl _)))
  clear K4 UQ HQ
  go_wp2_with fail
  go_ret
  exact ⟨rfl, HZ.out⟩
set_option maxRecDepth 100000 in
set_option maxHeartbeats 8000000 in
theorem bits_W4R3 (x M : Int) (k : Nat) (h : Wb k M) (hx0 : ¬ x < 0) (hx : 2 ^ k ≤ x) (A : Option Addr) (n : Nat) (hn1 : 1 ≤ n) (hn8 : n ≤ 8) (c : Nat) (b : Nat → Bool) (hl : n ≤ maxLen) (w : World) (ht : TabW w) (_hb : Bs w A b n) :
    Calls Tryd.prog 4 #[.int .i64 x, .int .i64 (k : Int), .slice A n c] w fun e w' => e = .returned (.bool true) ∧ Below w.heap.size w w' := by
  have HT := Lib.hid ht
  have _ := hl
  unfold maxLen at hl
  have HO := Lib.hid (fun W (hW : Below w.heap.size w W) => of_ok A n c b hn1 hn8 W (_hb.below hW))
  have HBS := Lib.hid _hb
  obtain ⟨Mn, hMn⟩ := wb_of (z := n) (by omega) (by omega)
  obtain ⟨k2, hk2, _, _, hp2⟩ := wb_pow hMn
  obtain rfl : n = k2 := by omega
  have hv := vl_lt b n
  have hp3 : ((2 ^ n : Nat) : Int) = (2 : Int) ^ n := by push_cast; rfl
  have HB2 := Lib.hid (fun W => bits_ok (vl b n) n Mn hMn (by omega) W)
  have HBV := Lib.hid (fun i (hi : i < n) => bit_vl (b := b) (n := n) hi)
  clear _hb hMn hk2 hp2 hp3 hv
  obtain ⟨k', hk', k1, k8, hpM⟩ := wb_pow h
  obtain rfl : k = k' := by omega
  have hpk : ((2 ^ k : Nat) : Int) = (2 : Int) ^ k := by push_cast; rfl
  have d1 : decide ((k : Int) < 1) = false := by simp; omega
  have d2 : decide (8 < (k : Int)) = false := by simp; omega
  have q0 := two_pow_wrap k8
  have q2 : min k 64 = k := by omega
  have HBT := Lib.hid (fun W => bits_bad2 x k M (nwB_of h) h (by unfold noB; simp; omega) W)
  have e1 : decide (x < 0) = false := by simpa using hx0
  have e2 : decide ((2 : Int) ^ k ≤ x) = true := by simpa using hx
  clear hx hx0
  clear h hk' k1 hpM hpk
  have g1 : decide ((n : Int) < 1) = false := by simp; omega
  have g2 : decide (8 < (n : Int)) = false := by simp; omega
  clear ht
  go_enter Tryd.func4, Tryd.ntmps4
  go_wp2_with fail
  refine (fact_any w HT.out).mono ?_
  rintro e w1 ⟨rfl, hb⟩
  have G1 := Lib.hid hb
  clear hb
  go_wp2_with fail
  refine (HBT.out _).mono ?_
  rintro e w2 ⟨rfl, hb⟩
  have G2 := Lib.hid (bw_below (Nat.le_refl _) G1.out hb)
  have R2 := Lib.hid (HB.new w2 24 #[.int .i64 3, .int .i64 0])
  have H2 := Lib.hid (G2.out.alloc G2.out.size (.cells #[.int .i64 3, .int .i64 0] 24))
  clear hb G1
  go_wp2_with fail
  refine (HO.out _ H2.out).mono ?_
  rintro e w3 ⟨rfl, hb⟩
  have G3 := Lib.hid (bw_below (Nat.le_refl _) H2.out hb)
  have R3 := Lib.hid ((R2.out.below hb).alloc (.cells #[.int .i64 0, .int .i64 0] 24))
  have U3 := Lib.hid (HB.new w3 24 #[.int .i64 0, .int .i64 0])
  have H3 := Lib.hid (G3.out.alloc G3.out.size (.cells #[.int .i64 0, .int .i64 0] 24))
  clear hb G2 R2 H2 G3 HO HBT
  have K3 := Lib.hid (flt_keep R3.out)
  have RQ := R3
  obtain ⟨y0, y1, y2, y3⟩ := R3.out.two
  have yl := R3.out.lt
  go_upto_region 10 with fail
  go_region_held3 (fun W => FltE w2.heap.size 3 0 W)
    ((first | (with_reducible exact K3.out _ (Below.refl _ _)) | (refine K3.out _ ?_; go_grown; done) | (with_reducible exact K3.out _ Q1.out)))
    (first
      | (go_at_call 13; (with_reducible refine (fault_any _ _ _).mono ?_); rintro e wq ⟨rfl, hbq⟩; have Q1 := Lib.hid (below_after (show Below (w3.alloc (.cells #[.int .i64 0, .int .i64 0] 24)).heap.size (w3.alloc (.cells #[.int .i64 0, .int .i64 0] 24)) _ by go_grown) hbq); obtain ⟨qa, qb, qc, qd⟩ := (RQ.out.below Q1.out).two; clear hbq))
  have UQ := Lib.hid (U3.out.below Q1.out)
  have HQ := Lib.hid (below_after H3.out (Q1.out.mono (Nat.le_refl _)))
  obtain ⟨u0, u1, u2, u3⟩ := UQ.out.two
  have ul := UQ.out.lt
  clear K3 RQ R3 U3 H3 Q1 y0 y1 y2 y3 yl qa qb qc qd
  go_wp2_with fail
  refine (HB2.out _).mono ?_
  rintro e w5 ⟨g5, rfl, hs, hb⟩
  have H5' := Lib.hid (bw_below (Nat.le_refl _) HQ.out hb)
  have N5 := Lib.hid (new_below w5 (.cells #[.int .i64 0, .int .i64 0] 24))
  have H5 := Lib.hid (H5'.out.alloc H5'.out.size (.cells #[.int .i64 0, .int .i64 0] 24))
  have U5 := Lib.hid ((UQ.out.below hb).below N5.out)
  have S5 := Lib.hid (hs.out.below N5.out)
  obtain ⟨v0, v1, _, _⟩ := U5.out.two
  have vl' := U5.out.lt
  have B5 := Lib.hid (HBS.out.below H5.out)
  clear hb hs HQ H5' N5 UQ u0 u1 u2 u3 ul
  go_wp2_with fail
  go_loopw [16] (fun t wr => ∃ i : Nat, i ≤ n ∧ t = .int .i64 i ∧ Hid (Bs wr (some ⟨g5, 0, none⟩) (fun j => (vl b n).testBit j) n) ∧ Hid (Bs wr A b n) ∧ Hid (Below w.heap.size w wr)) (fun t _ => n - (intOf t).toNat)
  case atStart => exact ⟨0, by omega, rfl, S5, B5, H5⟩
  case round =>
    obtain ⟨i, hi, rfl, SR, BR, HR⟩ := hrel
    clear S5 B5 H5 U5
    by_cases hlt : i < n
    · have t3 : decide ((i : Int) < (n : Int)) = true := by simpa using hlt
      obtain ⟨ga, oa, rfl, la, ca⟩ := BR.out.at_ hlt
      obtain ⟨gb, ob, heq, lb, cb⟩ := SR.out.at_ hlt
      simp only [Option.some.injEq, Addr.mk.injEq, and_true] at heq
      obtain ⟨rfl, rfl⟩ := heq
      rw [HBV.out i hlt, Nat.zero_add] at cb
      generalize b i = bi at ca cb
      go_wp2_with fail
      go_quiet (fail)
      go_wp2_with fail
      go_round
      case rel => exact ⟨i + 1, by omega, by go_num, Lib.hid (SR.out.drewN _), Lib.hid (BR.out.drewN _), Lib.hid (bw_dn HR.out _)⟩
      case measure => simp [intOf]; omega
    · obtain rfl : i = n := by omega
      have t3 : decide ((i : Int) < (i : Int)) = false := by simp
      go_wp2_with fail
      go_ret
      exact ⟨rfl, HR.out⟩
set_option maxRecDepth 100000 in
set_option maxHeartbeats 8000000 in
theorem bits_W5R1 (M : Int) (a k : Nat) (h : Wb k M) (hx : a < 2 ^ k) (A : Option Addr) (n : Nat) (hn : n = 0) (c : Nat) (b : Nat → Bool) (hl : n ≤ maxLen) (w : World) (ht : TabW w) (_hb : Bs w A b n) :
    Calls Tryd.prog 4 #[.int .i64 (a : Int), .int .i64 (k : Int), .slice A n c] w fun e w' => e = .returned (.bool true) ∧ Below w.heap.size w w' := by
  have HT := Lib.hid ht
  have _ := hl
  unfold maxLen at hl
  have HN := Lib.hid (show nwB n = true by unfold nwB; simp; omega)
  have HO := Lib.hid (fun W => of_bad A n c HN.out W)
  clear HN
  obtain ⟨k', hk', k1, k8, hpM⟩ := wb_pow h
  obtain rfl : k = k' := by omega
  have hpk : ((2 ^ k : Nat) : Int) = (2 : Int) ^ k := by push_cast; rfl
  have d1 : decide ((k : Int) < 1) = false := by simp; omega
  have d2 : decide (8 < (k : Int)) = false := by simp; omega
  have q0 := two_pow_wrap k8
  have q2 : min k 64 = k := by omega
  have HBT := Lib.hid (fun W => bits_ok a k M h (by omega) W)
  have e1 : decide ((a : Int) < 0) = false := by simp
  have e2 : decide ((2 : Int) ^ k ≤ (a : Int)) = false := by rw [← hpk]; simp only [decide_eq_false_iff_not]; omega
  have HOL := Lib.hid (fun W A' (hs : Bs W A' (fun j => a.testBit j) k) => of_ok A' k k _ k1 k8 W hs)
  rw [vl_of hx] at HOL
  clear hx
  clear h hk' k1 hpM hpk
  have g1 : decide ((n : Int) < 1) = true := by simp; omega
  clear hn
  clear ht
  go_enter Tryd.func4, Tryd.ntmps4
  go_wp2_with fail
  refine (fact_any w HT.out).mono ?_
  rintro e w1 ⟨rfl, hb⟩
  have G1 := Lib.hid hb
  clear hb
  go_wp2_with fail
  refine (HBT.out _).mono ?_
  rintro e w2 ⟨gl, rfl, hs, hb⟩
  have S2 := Lib.hid (hs.out.below (new_below w2 (.cells #[.int .i64 0, .int .i64 0] 24)))
  clear hs
  have G2 := Lib.hid (bw_below (Nat.le_refl _) G1.out hb)
  have R2 := Lib.hid (HB.new w2 24 #[.int .i64 0, .int .i64 0])
  have H2 := Lib.hid (G2.out.alloc G2.out.size (.cells #[.int .i64 0, .int .i64 0] 24))
  clear hb G1
  go_wp2_with fail
  refine (HO.out _).mono ?_
  rintro e w3 ⟨rfl, hb⟩
  have G3 := Lib.hid (bw_below (Nat.le_refl _) H2.out hb)
  have R3 := Lib.hid ((R2.out.below hb).alloc (.cells #[.int .i64 9, .int .i64 0] 24))
  have U3 := Lib.hid (HB.new w3 24 #[.int .i64 9, .int .i64 0])
  have H3 := Lib.hid (G3.out.alloc G3.out.size (.cells #[.int .i64 9, .int .i64 0] 24))
  have S3 := Lib.hid ((S2.out.below hb).below (new_below w3 (.cells #[.int .i64 9, .int .i64 0] 24)))
  clear S2
  clear hb G2 R2 H2 G3 HO HBT
  obtain ⟨y0, y1, y2, y3⟩ := R3.out.two
  have yl := R3.out.lt
  go_wp2_with fail
  refine (HOL.out _ _ S3.out).mono ?_
  rintro e wq ⟨rfl, hb⟩
  have HQ' := Lib.hid (bw_below (Nat.le_refl _) H3.out hb)
  have NQ := Lib.hid (new_below wq (.cells #[.int .i64 0, .int .i64 0] 24))
  have HQ := Lib.hid (HQ'.out.alloc HQ'.out.size (.cells #[.int .i64 0, .int .i64 0] 24))
  have UQ := Lib.hid ((U3.out.below hb).below NQ.out)
  have RQ := Lib.hid ((R3.out.below hb).below NQ.out)
  obtain ⟨u0, u1, u2, u3⟩ := UQ.out.two
  have ul := UQ.out.lt
  obtain ⟨q0', q1', _, _⟩ := RQ.out.two
  have ql := RQ.out.lt
  clear hb HQ' NQ R3 U3 H3 y0 y1 y2 y3 yl S3
  have K4 := Lib.hid (flt_keep UQ.out)
  have RQ := UQ
  go_upto_region 16 with fail
  go_region_held3 (fun W => FltE w3.heap.size 9 0 W)
    ((first | (with_reducible exact K4.out _ (Below.refl _ _)) | (refine K4.out _ ?_; go_grown; done) | (with_reducible exact K4.out _ Q2.out)))
    (first
      | (go_at_call 13; (with_reducible refine (fault_any _ _ _).mono ?_); rintro e wr ⟨rfl, hbq⟩; have Q2 := Lib.hid (below_after (show Below (wq.alloc (.cells #[.int .i64 0, .int .i64 0] 24)).heap.size (wq.alloc (.cells #[.int .i64 0, .int .i64 0] 24)) _ by go_grown) hbq); obtain ⟨qa, qb, qc, qd⟩ := (RQ.out.below Q2.out).two; clear hbq))
  have HZ := Lib.hid (below_after HQ.out (Q2.out.mono (Nat.le_refl _)))
  clear K4 UQ HQ
  go_wp2_with fail
  go_ret
  exact ⟨rfl, HZ.out⟩
set_option maxRecDepth 100000 in
set_option maxHeartbeats 8000000 in
theorem bits_W5R2 (M : Int) (a k : Nat) (h : Wb k M) (hx : a < 2 ^ k) (A : Option Addr) (n : Nat) (hn : 8 < n) (c : Nat) (b : Nat → Bool) (hl : n ≤ maxLen) (w : World) (ht : TabW w) (_hb : Bs w A b n) :
    Calls Tryd.prog 4 #[.int .i64 (a : Int), .int .i64 (k : Int), .slice A n c] w fun e w' => e = .returned (.bool true) ∧ Below w.heap.size w w' := by
  have HT := Lib.hid ht
  have _ := hl
  unfold maxLen at hl
  have HN := Lib.hid (show nwB n = true by unfold nwB; simp; omega)
  have HO := Lib.hid (fun W => of_bad A n c HN.out W)
  clear HN
  obtain ⟨k', hk', k1, k8, hpM⟩ := wb_pow h
  obtain rfl : k = k' := by omega
  have hpk : ((2 ^ k : Nat) : Int) = (2 : Int) ^ k := by push_cast; rfl
  have d1 : decide ((k : Int) < 1) = false := by simp; omega
  have d2 : decide (8 < (k : Int)) = false := by simp; omega
  have q0 := two_pow_wrap k8
  have q2 : min k 64 = k := by omega
  have HBT := Lib.hid (fun W => bits_ok a k M h (by omega) W)
  have e1 : decide ((a : Int) < 0) = false := by simp
  have e2 : decide ((2 : Int) ^ k ≤ (a : Int)) = false := by rw [← hpk]; simp only [decide_eq_false_iff_not]; omega
  have HOL := Lib.hid (fun W A' (hs : Bs W A' (fun j => a.testBit j) k) => of_ok A' k k _ k1 k8 W hs)
  rw [vl_of hx] at HOL
  clear hx
  clear h hk' k1 hpM hpk
  have g1 : decide ((n : Int) < 1) = false := by simp; omega
  have g2 : decide (8 < (n : Int)) = true := by simp; omega
  clear hn
  clear ht
  go_enter Tryd.func4, Tryd.ntmps4
  go_wp2_with fail
  refine (fact_any w HT.out).mono ?_
  rintro e w1 ⟨rfl, hb⟩
  have G1 := Lib.hid hb
  clear hb
  go_wp2_with fail
  refine (HBT.out _).mono ?_
  rintro e w2 ⟨gl, rfl, hs, hb⟩
  have S2 := Lib.hid (hs.out.below (new_below w2 (.cells #[.int .i64 0, .int .i64 0] 24)))
  clear hs
  have G2 := Lib.hid (bw_below (Nat.le_refl _) G1.out hb)
  have R2 := Lib.hid (HB.new w2 24 #[.int .i64 0, .int .i64 0])
  have H2 := Lib.hid (G2.out.alloc G2.out.size (.cells #[.int .i64 0, .int .i64 0] 24))
  clear hb G1
  go_wp2_with fail
  refine (HO.out _).mono ?_
  rintro e w3 ⟨rfl, hb⟩
  have G3 := Lib.hid (bw_below (Nat.le_refl _) H2.out hb)
  have R3 := Lib.hid ((R2.out.below hb).alloc (.cells #[.int .i64 9, .int .i64 0] 24))
  have U3 := Lib.hid (HB.new w3 24 #[.int .i64 9, .int .i64 0])
  have H3 := Lib.hid (G3.out.alloc G3.out.size (.cells #[.int .i64 9, .int .i64 0] 24))
  have S3 := Lib.hid ((S2.out.below hb).below (new_below w3 (.cells #[.int .i64 9, .int .i64 0] 24)))
  clear S2
  clear hb G2 R2 H2 G3 HO HBT
  obtain ⟨y0, y1, y2, y3⟩ := R3.out.two
  have yl := R3.out.lt
  go_wp2_with fail
  refine (HOL.out _ _ S3.out).mono ?_
  rintro e wq ⟨rfl, hb⟩
  have HQ' := Lib.hid (bw_below (Nat.le_refl _) H3.out hb)
  have NQ := Lib.hid (new_below wq (.cells #[.int .i64 0, .int .i64 0] 24))
  have HQ := Lib.hid (HQ'.out.alloc HQ'.out.size (.cells #[.int .i64 0, .int .i64 0] 24))
  have UQ := Lib.hid ((U3.out.below hb).below NQ.out)
  have RQ := Lib.hid ((R3.out.below hb).below NQ.out)
  obtain ⟨u0, u1, u2, u3⟩ := UQ.out.two
  have ul := UQ.out.lt
  obtain ⟨q0', q1', _, _⟩ := RQ.out.two
  have ql := RQ.out.lt
  clear hb HQ' NQ R3 U3 H3 y0 y1 y2 y3 yl S3
  have K4 := Lib.hid (flt_keep UQ.out)
  have RQ := UQ
  go_upto_region 16 with fail
  go_region_held3 (fun W => FltE w3.heap.size 9 0 W)
    ((first | (with_reducible exact K4.out _ (Below.refl _ _)) | (refine K4.out _ ?_; go_grown; done) | (with_reducible exact K4.out _ Q2.out)))
    (first
      | (go_at_call 13; (with_reducible refine (fault_any _ _ _).mono ?_); rintro e wr ⟨rfl, hbq⟩; have Q2 := Lib.hid (below_after (show Below (wq.alloc (.cells #[.int .i64 0, .int .i64 0] 24)).heap.size (wq.alloc (.cells #[.int .i64 0, .int .i64 0] 24)) _ by go_grown) hbq); obtain ⟨qa, qb, qc, qd⟩ := (RQ.out.below Q2.out).two; clear hbq))
  have HZ := Lib.hid (below_after HQ.out (Q2.out.mono (Nat.le_refl _)))
  clear K4 UQ HQ
  go_wp2_with fail
  go_ret
  exact ⟨rfl, HZ.out⟩
set_option maxRecDepth 100000 in
set_option maxHeartbeats 8000000 in
theorem bits_W5R3 (M : Int) (a k : Nat) (h : Wb k M) (hx : a < 2 ^ k) (A : Option Addr) (n : Nat) (hn1 : 1 ≤ n) (hn8 : n ≤ 8) (c : Nat) (b : Nat → Bool) (hl : n ≤ maxLen) (w : World) (ht : TabW w) (_hb : Bs w A b n) :
    Calls Tryd.prog 4 #[.int .i64 (a : Int), .int .i64 (k : Int), .slice A n c] w fun e w' => e = .returned (.bool true) ∧ Below w.heap.size w w' := by
  have HT := Lib.hid ht
  have _ := hl
  unfold maxLen at hl
  have HO := Lib.hid (fun W (hW : Below w.heap.size w W) => of_ok A n c b hn1 hn8 W (_hb.below hW))
  have HBS := Lib.hid _hb
  obtain ⟨Mn, hMn⟩ := wb_of (z := n) (by omega) (by omega)
  obtain ⟨k2, hk2, _, _, hp2⟩ := wb_pow hMn
  obtain rfl : n = k2 := by omega
  have hv := vl_lt b n
  have hp3 : ((2 ^ n : Nat) : Int) = (2 : Int) ^ n := by push_cast; rfl
  have HB2 := Lib.hid (fun W => bits_ok (vl b n) n Mn hMn (by omega) W)
  have HBV := Lib.hid (fun i (hi : i < n) => bit_vl (b := b) (n := n) hi)
  clear _hb hMn hk2 hp2 hp3 hv
  obtain ⟨k', hk', k1, k8, hpM⟩ := wb_pow h
  obtain rfl : k = k' := by omega
  have hpk : ((2 ^ k : Nat) : Int) = (2 : Int) ^ k := by push_cast; rfl
  have d1 : decide ((k : Int) < 1) = false := by simp; omega
  have d2 : decide (8 < (k : Int)) = false := by simp; omega
  have q0 := two_pow_wrap k8
  have q2 : min k 64 = k := by omega
  have HBT := Lib.hid (fun W => bits_ok a k M h (by omega) W)
  have e1 : decide ((a : Int) < 0) = false := by simp
  have e2 : decide ((2 : Int) ^ k ≤ (a : Int)) = false := by rw [← hpk]; simp only [decide_eq_false_iff_not]; omega
  have HOL := Lib.hid (fun W A' (hs : Bs W A' (fun j => a.testBit j) k) => of_ok A' k k _ k1 k8 W hs)
  rw [vl_of hx] at HOL
  clear hx
  clear h hk' k1 hpM hpk
  have g1 : decide ((n : Int) < 1) = false := by simp; omega
  have g2 : decide (8 < (n : Int)) = false := by simp; omega
  clear ht
  go_enter Tryd.func4, Tryd.ntmps4
  go_wp2_with fail
  refine (fact_any w HT.out).mono ?_
  rintro e w1 ⟨rfl, hb⟩
  have G1 := Lib.hid hb
  clear hb
  go_wp2_with fail
  refine (HBT.out _).mono ?_
  rintro e w2 ⟨gl, rfl, hs, hb⟩
  have S2 := Lib.hid (hs.out.below (new_below w2 (.cells #[.int .i64 0, .int .i64 0] 24)))
  clear hs
  have G2 := Lib.hid (bw_below (Nat.le_refl _) G1.out hb)
  have R2 := Lib.hid (HB.new w2 24 #[.int .i64 0, .int .i64 0])
  have H2 := Lib.hid (G2.out.alloc G2.out.size (.cells #[.int .i64 0, .int .i64 0] 24))
  clear hb G1
  go_wp2_with fail
  refine (HO.out _ H2.out).mono ?_
  rintro e w3 ⟨rfl, hb⟩
  have G3 := Lib.hid (bw_below (Nat.le_refl _) H2.out hb)
  have R3 := Lib.hid ((R2.out.below hb).alloc (.cells #[.int .i64 0, .int .i64 0] 24))
  have U3 := Lib.hid (HB.new w3 24 #[.int .i64 0, .int .i64 0])
  have H3 := Lib.hid (G3.out.alloc G3.out.size (.cells #[.int .i64 0, .int .i64 0] 24))
  have S3 := Lib.hid ((S2.out.below hb).below (new_below w3 (.cells #[.int .i64 0, .int .i64 0] 24)))
  clear S2
  clear hb G2 R2 H2 G3 HO HBT
  obtain ⟨y0, y1, y2, y3⟩ := R3.out.two
  have yl := R3.out.lt
  go_wp2_with fail
  refine (HOL.out _ _ S3.out).mono ?_
  rintro e wq ⟨rfl, hb⟩
  have HQ' := Lib.hid (bw_below (Nat.le_refl _) H3.out hb)
  have NQ := Lib.hid (new_below wq (.cells #[.int .i64 0, .int .i64 0] 24))
  have HQ := Lib.hid (HQ'.out.alloc HQ'.out.size (.cells #[.int .i64 0, .int .i64 0] 24))
  have UQ := Lib.hid ((U3.out.below hb).below NQ.out)
  have RQ := Lib.hid ((R3.out.below hb).below NQ.out)
  obtain ⟨u0, u1, u2, u3⟩ := UQ.out.two
  have ul := UQ.out.lt
  obtain ⟨q0', q1', _, _⟩ := RQ.out.two
  have ql := RQ.out.lt
  clear hb HQ' NQ R3 U3 H3 y0 y1 y2 y3 yl S3
  go_wp2_with fail
  refine (HB2.out _).mono ?_
  rintro e w5 ⟨g5, rfl, hs, hb⟩
  have H5' := Lib.hid (bw_below (Nat.le_refl _) HQ.out hb)
  have N5 := Lib.hid (new_below w5 (.cells #[.int .i64 0, .int .i64 0] 24))
  have H5 := Lib.hid (H5'.out.alloc H5'.out.size (.cells #[.int .i64 0, .int .i64 0] 24))
  have U5 := Lib.hid ((UQ.out.below hb).below N5.out)
  have S5 := Lib.hid (hs.out.below N5.out)
  obtain ⟨v0, v1, _, _⟩ := U5.out.two
  have vl' := U5.out.lt
  have B5 := Lib.hid (HBS.out.below H5.out)
  clear hb hs HQ H5' N5 UQ u0 u1 u2 u3 ul
  go_wp2_with fail
  go_loopw [16] (fun t wr => ∃ i : Nat, i ≤ n ∧ t = .int .i64 i ∧ Hid (Bs wr (some ⟨g5, 0, none⟩) (fun j => (vl b n).testBit j) n) ∧ Hid (Bs wr A b n) ∧ Hid (Below w.heap.size w wr)) (fun t _ => n - (intOf t).toNat)
  case atStart => exact ⟨0, by omega, rfl, S5, B5, H5⟩
  case round =>
    obtain ⟨i, hi, rfl, SR, BR, HR⟩ := hrel
    clear S5 B5 H5 U5
    by_cases hlt : i < n
    · have t3 : decide ((i : Int) < (n : Int)) = true := by simpa using hlt
      obtain ⟨ga, oa, rfl, la, ca⟩ := BR.out.at_ hlt
      obtain ⟨gb, ob, heq, lb, cb⟩ := SR.out.at_ hlt
      simp only [Option.some.injEq, Addr.mk.injEq, and_true] at heq
      obtain ⟨rfl, rfl⟩ := heq
      rw [HBV.out i hlt, Nat.zero_add] at cb
      generalize b i = bi at ca cb
      go_wp2_with fail
      go_quiet (fail)
      go_wp2_with fail
      go_round
      case rel => exact ⟨i + 1, by omega, by go_num, Lib.hid (SR.out.drewN _), Lib.hid (BR.out.drewN _), Lib.hid (bw_dn HR.out _)⟩
      case measure => simp [intOf]; omega
    · obtain rfl : i = n := by omega
      have t3 : decide ((i : Int) < (i : Int)) = false := by simp
      go_wp2_with fail
      go_ret
      exact ⟨rfl, HR.out⟩
theorem wordsbits_any (x z : Int) (A : Option Addr) (n c : Nat) (b : Nat → Bool) (hl : n ≤ maxLen) (w : World) (ht : TabW w) (hb : Bs w A b n) :
    Calls Tryd.prog 4 #[.int .i64 x, .int .i64 z, .slice A n c] w fun e w' => e = .returned (.bool true) ∧ Below w.heap.size w w' := by
  have tri : n = 0 ∨ 8 < n ∨ 1 ≤ n ∧ n ≤ 8 := by omega
  by_cases z1 : z < 1
  · rcases tri with hn | hn | hn
    · exact bits_W1R1 x z z1 A n hn c b hl w ht hb
    · exact bits_W1R2 x z z1 A n hn c b hl w ht hb
    · exact bits_W1R3 x z z1 A n hn.1 hn.2 c b hl w ht hb
  · by_cases z8 : 8 < z
    · rcases tri with hn | hn | hn
      · exact bits_W2R1 x z z1 z8 A n hn c b hl w ht hb
      · exact bits_W2R2 x z z1 z8 A n hn c b hl w ht hb
      · exact bits_W2R3 x z z1 z8 A n hn.1 hn.2 c b hl w ht hb
    · obtain ⟨M, hM⟩ := wb_of (z := z) (by omega) (by omega)
      obtain ⟨k, rfl, k1, k8, hp⟩ := wb_pow hM
      by_cases x0 : x < 0
      · rcases tri with hn | hn | hn
        · exact bits_W3R1 x M k hM x0 A n hn c b hl w ht hb
        · exact bits_W3R2 x M k hM x0 A n hn c b hl w ht hb
        · exact bits_W3R3 x M k hM x0 A n hn.1 hn.2 c b hl w ht hb
      · by_cases x1 : 2 ^ k ≤ x
        · rcases tri with hn | hn | hn
          · exact bits_W4R1 x M k hM x0 x1 A n hn c b hl w ht hb
          · exact bits_W4R2 x M k hM x0 x1 A n hn c b hl w ht hb
          · exact bits_W4R3 x M k hM x0 x1 A n hn.1 hn.2 c b hl w ht hb
        · obtain ⟨a, rfl⟩ := Int.eq_ofNat_of_zero_le (a := x) (by omega)
          have e : ((2 ^ k : Nat) : Int) = (2 : Int) ^ k := by push_cast; rfl
          have hx : a < 2 ^ k := by omega
          rcases tri with hn | hn | hn
          · exact bits_W5R1 M a k hM hx A n hn c b hl w ht hb
          · exact bits_W5R2 M a k hM hx A n hn c b hl w ht hb
          · exact bits_W5R3 M a k hM hx A n hn.1 hn.2 c b hl w ht hb
end Go.Proofs.YtibpgcdaommjeaaDoor
