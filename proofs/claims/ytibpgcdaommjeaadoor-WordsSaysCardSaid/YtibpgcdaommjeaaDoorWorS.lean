/-
  Words: the reference: what is wrong with an operation.
-/
import Derived.Test.YtibpgcdaommjeaaDoorWorL
namespace Go.Proofs.YtibpgcdaommjeaaDoor
open Go.RowKit

set_option maxRecDepth 100000 in
set_option maxHeartbeats 8000000 in
theorem rf_op1 (op z n : Int) (A : Option Addr) (L c : Nat) (h : op < 15) (w : World) : Calls Tryd.prog 9 #[.int .i64 op, .int .i64 z, .slice A L c, .int .i64 n] w fun e w' => e = .returned (.agg #[.int .i64 4, .int .i64 0]) ∧ Below w.heap.size w w' := by
  have R0 := Lib.hid (HB.new w 24 #[.int .i64 0, .int .i64 0])
  have G0 := Lib.hid (new_below w (.cells #[.int .i64 0, .int .i64 0] 24))
  have d1 : decide (op < 15) = true := by simpa using h
  clear h
  go_enter Tryd.func9, Tryd.ntmps9
  go_wp2_with fail
  refine (fault_any _ _ _).mono ?_
  rintro e w1 ⟨rfl, hb⟩
  obtain ⟨r0, r1, r2, r3⟩ := (R0.out.below hb).two
  have R1 := Lib.hid (R0.out.below hb)
  have G1 := Lib.hid (bw_below (Nat.le_refl _) G0.out hb)
  clear hb
  go_wp2_with fail
  obtain ⟨s0, s1, _, _⟩ := (hb_set2 (n := .int .i64 4) (d := .int .i64 0) R1.out).two
  exact bodyPost_ret (v := .agg #[.int .i64 4, .int .i64 0]) (by simp [results, Tryd.results9, go_sem, s0, s1]) rfl ⟨rfl, (G1.out.setCell (Nat.le_refl _) _).setCell (Nat.le_refl _) _⟩
set_option maxRecDepth 100000 in
set_option maxHeartbeats 8000000 in
theorem rf_op2 (op z n : Int) (A : Option Addr) (L c : Nat) (h1 : ¬ op < 15) (h : 23 < op) (w : World) : Calls Tryd.prog 9 #[.int .i64 op, .int .i64 z, .slice A L c, .int .i64 n] w fun e w' => e = .returned (.agg #[.int .i64 4, .int .i64 0]) ∧ Below w.heap.size w w' := by
  have R0 := Lib.hid (HB.new w 24 #[.int .i64 0, .int .i64 0])
  have G0 := Lib.hid (new_below w (.cells #[.int .i64 0, .int .i64 0] 24))
  have d1 : decide (op < 15) = false := by simpa using h1
  have d2 : decide (23 < op) = true := by simpa using h
  clear h h1
  go_enter Tryd.func9, Tryd.ntmps9
  go_wp2_with fail
  refine (fault_any _ _ _).mono ?_
  rintro e w1 ⟨rfl, hb⟩
  obtain ⟨r0, r1, r2, r3⟩ := (R0.out.below hb).two
  have R1 := Lib.hid (R0.out.below hb)
  have G1 := Lib.hid (bw_below (Nat.le_refl _) G0.out hb)
  clear hb
  go_wp2_with fail
  obtain ⟨s0, s1, _, _⟩ := (hb_set2 (n := .int .i64 4) (d := .int .i64 0) R1.out).two
  exact bodyPost_ret (v := .agg #[.int .i64 4, .int .i64 0]) (by simp [results, Tryd.results9, go_sem, s0, s1]) rfl ⟨rfl, (G1.out.setCell (Nat.le_refl _) _).setCell (Nat.le_refl _) _⟩
set_option maxRecDepth 100000 in
set_option maxHeartbeats 8000000 in
theorem rf_z1 (op z n : Int) (A : Option Addr) (L c : Nat) (h1 : 15 ≤ op) (h2 : op ≤ 23) (h : z < 1) (w : World) : Calls Tryd.prog 9 #[.int .i64 op, .int .i64 z, .slice A L c, .int .i64 n] w fun e w' => e = .returned (.agg #[.int .i64 3, .int .i64 (-1)]) ∧ Below w.heap.size w w' := by
  have R0 := Lib.hid (HB.new w 24 #[.int .i64 0, .int .i64 0])
  have G0 := Lib.hid (new_below w (.cells #[.int .i64 0, .int .i64 0] 24))
  have d1 : decide (op < 15) = false := by simp; omega
  have d2 : decide (23 < op) = false := by simp; omega
  have d3 : decide (z < 1) = true := by simpa using h
  clear h h1 h2
  go_enter Tryd.func9, Tryd.ntmps9
  go_wp2_with fail
  refine (fault_any _ _ _).mono ?_
  rintro e w1 ⟨rfl, hb⟩
  obtain ⟨r0, r1, r2, r3⟩ := (R0.out.below hb).two
  have R1 := Lib.hid (R0.out.below hb)
  have G1 := Lib.hid (bw_below (Nat.le_refl _) G0.out hb)
  clear hb
  go_wp2_with fail
  obtain ⟨s0, s1, _, _⟩ := (hb_set2 (n := .int .i64 3) (d := .int .i64 (-1)) R1.out).two
  exact bodyPost_ret (v := .agg #[.int .i64 3, .int .i64 (-1)]) (by simp [results, Tryd.results9, go_sem, s0, s1]) rfl ⟨rfl, (G1.out.setCell (Nat.le_refl _) _).setCell (Nat.le_refl _) _⟩
set_option maxRecDepth 100000 in
set_option maxHeartbeats 8000000 in
theorem rf_z2 (op z n : Int) (A : Option Addr) (L c : Nat) (h1 : 15 ≤ op) (h2 : op ≤ 23) (h3 : ¬ z < 1) (h : 8 < z) (w : World) : Calls Tryd.prog 9 #[.int .i64 op, .int .i64 z, .slice A L c, .int .i64 n] w fun e w' => e = .returned (.agg #[.int .i64 3, .int .i64 (-1)]) ∧ Below w.heap.size w w' := by
  have R0 := Lib.hid (HB.new w 24 #[.int .i64 0, .int .i64 0])
  have G0 := Lib.hid (new_below w (.cells #[.int .i64 0, .int .i64 0] 24))
  have d1 : decide (op < 15) = false := by simp; omega
  have d2 : decide (23 < op) = false := by simp; omega
  have d3 : decide (z < 1) = false := by simpa using h3
  have d4 : decide (8 < z) = true := by simpa using h
  clear h h1 h2 h3
  go_enter Tryd.func9, Tryd.ntmps9
  go_wp2_with fail
  refine (fault_any _ _ _).mono ?_
  rintro e w1 ⟨rfl, hb⟩
  obtain ⟨r0, r1, r2, r3⟩ := (R0.out.below hb).two
  have R1 := Lib.hid (R0.out.below hb)
  have G1 := Lib.hid (bw_below (Nat.le_refl _) G0.out hb)
  clear hb
  go_wp2_with fail
  obtain ⟨s0, s1, _, _⟩ := (hb_set2 (n := .int .i64 3) (d := .int .i64 (-1)) R1.out).two
  exact bodyPost_ret (v := .agg #[.int .i64 3, .int .i64 (-1)]) (by simp [results, Tryd.results9, go_sem, s0, s1]) rfl ⟨rfl, (G1.out.setCell (Nat.le_refl _) _).setCell (Nat.le_refl _) _⟩
set_option maxRecDepth 100000 in
set_option maxHeartbeats 8000000 in
theorem rf_s15 (k : Nat) (k1 : 1 ≤ k) (k8 : k ≤ 8) (n : Int) (A : Option Addr) (L c : Nat) (h : (L : Int) ≠ 0) (w : World) : Calls Tryd.prog 9 #[.int .i64 15, .int .i64 (k : Int), .slice A L c, .int .i64 n] w fun e w' => e = .returned (.agg #[.int .i64 9, .int .i64 0]) ∧ Below w.heap.size w w' := by
  have R0 := Lib.hid (HB.new w 24 #[.int .i64 0, .int .i64 0])
  have G0 := Lib.hid (new_below w (.cells #[.int .i64 0, .int .i64 0] 24))
  have d3 : decide ((k : Int) < 1) = false := by simp; omega
  have d4 : decide (8 < (k : Int)) = false := by simp; omega
  have d5 : ((L : Int) != 0) = true := by simpa using h
  clear h k1 k8
  go_enter Tryd.func9, Tryd.ntmps9
  go_wp2_with fail
  refine (fault_any _ _ _).mono ?_
  rintro e w1 ⟨rfl, hb⟩
  obtain ⟨r0, r1, r2, r3⟩ := (R0.out.below hb).two
  have R1 := Lib.hid (R0.out.below hb)
  have G1 := Lib.hid (bw_below (Nat.le_refl _) G0.out hb)
  clear hb
  go_wp2_with fail
  obtain ⟨s0, s1, _, _⟩ := (hb_set2 (n := .int .i64 9) (d := .int .i64 0) R1.out).two
  exact bodyPost_ret (v := .agg #[.int .i64 9, .int .i64 0]) (by simp [results, Tryd.results9, go_sem, s0, s1]) rfl ⟨rfl, (G1.out.setCell (Nat.le_refl _) _).setCell (Nat.le_refl _) _⟩
set_option maxRecDepth 100000 in
set_option maxHeartbeats 8000000 in
theorem rf_r15 (k : Nat) (k1 : 1 ≤ k) (k8 : k ≤ 8) (n : Int) (A : Option Addr) (c : Nat) (xs : List Int) (w : World) (C Aa : Int) (hL : xs.length = 0) (h : Is w A xs) (hF : ∀ i, i < 0 → (nth xs i < 0 ∨ 2 ^ k ≤ nth xs i) → (∀ j, j < i → ¬ (nth xs j < 0 ∨ 2 ^ k ≤ nth xs j)) → C = 3 ∧ Aa = i) (hN : (∀ j, j < 0 → ¬ (nth xs j < 0 ∨ 2 ^ k ≤ nth xs j)) → (n < 0 ∨ (2 : Int) ^ k - 1 < n → C = 5 ∧ Aa = 0) ∧ (¬ (n < 0 ∨ (2 : Int) ^ k - 1 < n) → C = 0 ∧ Aa = 0)) : Calls Tryd.prog 9 #[.int .i64 15, .int .i64 (k : Int), .slice A 0 c, .int .i64 n] w fun e w' => e = .returned (.agg #[.int .i64 C, .int .i64 Aa]) ∧ Below w.heap.size w w' := by
  have R0 := Lib.hid (HB.new w 24 #[.int .i64 0, .int .i64 0])
  have G0 := Lib.hid (new_below w (.cells #[.int .i64 0, .int .i64 0] 24))
  have HF := Lib.hid hF
  have HN := Lib.hid hN
  have HA := Lib.hid h
  have HL := Lib.hid hL
  have q0 := two_pow_wrap k8
  have q2 : min k 64 = k := by omega
  have p0 : 1 ≤ (2 : Int) ^ k := by
    have : 1 ≤ 2 ^ k := Nat.one_le_two_pow
    exact_mod_cast this
  have p8 : (2 : Int) ^ k ≤ 256 := by
    have h8 : (2 : Nat) ^ k ≤ 2 ^ 8 := Nat.pow_le_pow_right (by decide) k8
    exact_mod_cast h8
  have d3 : decide ((k : Int) < 1) = false := by simp; omega
  have d4 : decide (8 < (k : Int)) = false := by simp; omega
  clear hF hN h k1 hL
  go_enter Tryd.func9, Tryd.ntmps9
  go_wp2_with fail
  go_loopw [10] (fun t wr => ∃ i : Nat, i ≤ 0 ∧ t = .int .i64 i ∧ Hid (∀ j, j < i → ¬ (nth xs j < 0 ∨ 2 ^ k ≤ nth xs j)) ∧ wr = w.alloc (.cells #[.int .i64 0, .int .i64 0] 24)) (fun t _ => 0 - (intOf t).toNat)
  case atStart => exact ⟨0, by omega, rfl, Lib.hid (fun j hj => absurd hj (by omega)), rfl⟩
  case round =>
    obtain ⟨i, hi, rfl, HP, rfl⟩ := hrel
    obtain rfl : i = 0 := by omega
    have HP2 := Lib.hid (HN.out HP.out)
    rw [show ((0 : Nat) : Int) = 0 from rfl]
    clear HF HN HP HA
    by_cases e3 : n < 0
    · have f3 : decide (n < 0) = true := by simpa using e3
      obtain ⟨r1, r2⟩ := HP2.out.1 (.inl e3)
      subst r1 r2
      clear e3 HP2
      go_wp2_with fail
      refine (fault_any _ _ _).mono ?_
      rintro e w1 ⟨rfl, hb⟩
      obtain ⟨r0, r1, r2, r3⟩ := (R0.out.below hb).two
      have R1 := Lib.hid (R0.out.below hb)
      have G1 := Lib.hid (bw_below (Nat.le_refl _) G0.out hb)
      clear hb
      go_wp2_with fail
      obtain ⟨s0, s1, _, _⟩ := (hb_set2 (n := .int .i64 5) (d := .int .i64 0) R1.out).two
      exact bodyPost_ret (v := .agg #[.int .i64 5, .int .i64 0]) (by simp [results, Tryd.results9, go_sem, s0, s1]) rfl ⟨rfl, (G1.out.setCell (Nat.le_refl _) _).setCell (Nat.le_refl _) _⟩
    · have f3 : decide (n < 0) = false := by simpa using e3
      by_cases e4 : (2 : Int) ^ k - 1 < n
      · have f4 : decide ((2 : Int) ^ k - 1 < n) = true := by simpa using e4
        obtain ⟨r1, r2⟩ := HP2.out.1 (.inr e4)
        subst r1 r2
        clear e3 e4 HP2
        go_wp2_with fail
        refine (fault_any _ _ _).mono ?_
        rintro e w1 ⟨rfl, hb⟩
        obtain ⟨r0, r1, r2, r3⟩ := (R0.out.below hb).two
        have R1 := Lib.hid (R0.out.below hb)
        have G1 := Lib.hid (bw_below (Nat.le_refl _) G0.out hb)
        clear hb
        go_wp2_with fail
        obtain ⟨s0, s1, _, _⟩ := (hb_set2 (n := .int .i64 5) (d := .int .i64 0) R1.out).two
        exact bodyPost_ret (v := .agg #[.int .i64 5, .int .i64 0]) (by simp [results, Tryd.results9, go_sem, s0, s1]) rfl ⟨rfl, (G1.out.setCell (Nat.le_refl _) _).setCell (Nat.le_refl _) _⟩
      · have f4 : decide ((2 : Int) ^ k - 1 < n) = false := by simpa using e4
        obtain ⟨r1, r2⟩ := HP2.out.2 (by rintro (y | y) <;> contradiction)
        subst r1 r2
        clear e3 e4 HP2
        go_wp2_with fail
        exact bodyPost_ret (v := .agg #[.int .i64 0, .int .i64 0]) (by simp [results, Tryd.results9, go_sem]) rfl ⟨rfl, by go_grown⟩
set_option maxRecDepth 100000 in
set_option maxHeartbeats 8000000 in
theorem rf_s16 (k : Nat) (k1 : 1 ≤ k) (k8 : k ≤ 8) (n : Int) (A : Option Addr) (L c : Nat) (h : (L : Int) ≠ 1) (w : World) : Calls Tryd.prog 9 #[.int .i64 16, .int .i64 (k : Int), .slice A L c, .int .i64 n] w fun e w' => e = .returned (.agg #[.int .i64 9, .int .i64 0]) ∧ Below w.heap.size w w' := by
  have R0 := Lib.hid (HB.new w 24 #[.int .i64 0, .int .i64 0])
  have G0 := Lib.hid (new_below w (.cells #[.int .i64 0, .int .i64 0] 24))
  have d3 : decide ((k : Int) < 1) = false := by simp; omega
  have d4 : decide (8 < (k : Int)) = false := by simp; omega
  have d5 : ((L : Int) != 1) = true := by simpa using h
  clear h k1 k8
  go_enter Tryd.func9, Tryd.ntmps9
  go_wp2_with fail
  refine (fault_any _ _ _).mono ?_
  rintro e w1 ⟨rfl, hb⟩
  obtain ⟨r0, r1, r2, r3⟩ := (R0.out.below hb).two
  have R1 := Lib.hid (R0.out.below hb)
  have G1 := Lib.hid (bw_below (Nat.le_refl _) G0.out hb)
  clear hb
  go_wp2_with fail
  obtain ⟨s0, s1, _, _⟩ := (hb_set2 (n := .int .i64 9) (d := .int .i64 0) R1.out).two
  exact bodyPost_ret (v := .agg #[.int .i64 9, .int .i64 0]) (by simp [results, Tryd.results9, go_sem, s0, s1]) rfl ⟨rfl, (G1.out.setCell (Nat.le_refl _) _).setCell (Nat.le_refl _) _⟩
set_option maxRecDepth 100000 in
set_option maxHeartbeats 8000000 in
theorem rf_r16 (k : Nat) (k1 : 1 ≤ k) (k8 : k ≤ 8) (n : Int) (A : Option Addr) (c : Nat) (xs : List Int) (w : World) (C Aa : Int) (hL : xs.length = 1) (h : Is w A xs) (hF : ∀ i, i < 1 → (nth xs i < 0 ∨ 2 ^ k ≤ nth xs i) → (∀ j, j < i → ¬ (nth xs j < 0 ∨ 2 ^ k ≤ nth xs j)) → C = 3 ∧ Aa = i) (hN : (∀ j, j < 1 → ¬ (nth xs j < 0 ∨ 2 ^ k ≤ nth xs j)) → (n < 0 ∨ 0 < n → C = 5 ∧ Aa = 0) ∧ (¬ (n < 0 ∨ 0 < n) → C = 0 ∧ Aa = 0)) : Calls Tryd.prog 9 #[.int .i64 16, .int .i64 (k : Int), .slice A 1 c, .int .i64 n] w fun e w' => e = .returned (.agg #[.int .i64 C, .int .i64 Aa]) ∧ Below w.heap.size w w' := by
  have R0 := Lib.hid (HB.new w 24 #[.int .i64 0, .int .i64 0])
  have G0 := Lib.hid (new_below w (.cells #[.int .i64 0, .int .i64 0] 24))
  have HF := Lib.hid hF
  have HN := Lib.hid hN
  have HA := Lib.hid h
  have HL := Lib.hid hL
  have q0 := two_pow_wrap k8
  have q2 : min k 64 = k := by omega
  have p0 : 1 ≤ (2 : Int) ^ k := by
    have : 1 ≤ 2 ^ k := Nat.one_le_two_pow
    exact_mod_cast this
  have p8 : (2 : Int) ^ k ≤ 256 := by
    have h8 : (2 : Nat) ^ k ≤ 2 ^ 8 := Nat.pow_le_pow_right (by decide) k8
    exact_mod_cast h8
  have d3 : decide ((k : Int) < 1) = false := by simp; omega
  have d4 : decide (8 < (k : Int)) = false := by simp; omega
  clear hF hN h k1 hL
  go_enter Tryd.func9, Tryd.ntmps9
  go_wp2_with fail
  go_loopw [10] (fun t wr => ∃ i : Nat, i ≤ 1 ∧ t = .int .i64 i ∧ Hid (∀ j, j < i → ¬ (nth xs j < 0 ∨ 2 ^ k ≤ nth xs j)) ∧ wr = w.alloc (.cells #[.int .i64 0, .int .i64 0] 24)) (fun t _ => 1 - (intOf t).toNat)
  case atStart => exact ⟨0, by omega, rfl, Lib.hid (fun j hj => absurd hj (by omega)), rfl⟩
  case round =>
    obtain ⟨i, hi, rfl, HP, rfl⟩ := hrel
    by_cases hlt : i < 1
    · have t3 : decide ((i : Int) < 1) = true := by simp; omega
      obtain ⟨b, o, rfl, hb', c0⟩ := is_at (i := i) HA.out (by rw [HL.out]; exact hlt)
      have hf := HF.out i hlt
      have HI : Hid (¬ (nth xs i < 0 ∨ 2 ^ k ≤ nth xs i) → ∀ j, j < i + 1 → ¬ (nth xs j < 0 ∨ 2 ^ k ≤ nth xs j)) := Lib.hid (fun hx j hj => by
        rcases Nat.lt_or_ge j i with y | y
        · exact HP.out j y
        · obtain rfl : j = i := by omega
          exact hx)
      generalize nth xs i = x at *
      by_cases e1 : x < 0
      · have f1 : decide (x < 0) = true := by simpa using e1
        obtain ⟨r1, r2⟩ := hf (.inl e1) HP.out
        subst r1 r2
        clear e1 hf HI
        go_wp2_with fail
        refine (fault_any _ _ _).mono ?_
        rintro e w1 ⟨rfl, hb⟩
        obtain ⟨r0, r1, r2, r3⟩ := (R0.out.below hb).two
        have R1 := Lib.hid (R0.out.below hb)
        have G1 := Lib.hid (bw_below (Nat.le_refl _) G0.out hb)
        clear hb
        go_wp2_with fail
        obtain ⟨s0, s1, _, _⟩ := (hb_set2 (n := .int .i64 3) (d := .int .i64 i) R1.out).two
        exact bodyPost_ret (v := .agg #[.int .i64 3, .int .i64 i]) (by simp [results, Tryd.results9, go_sem, s0, s1]) rfl ⟨rfl, (G1.out.setCell (Nat.le_refl _) _).setCell (Nat.le_refl _) _⟩
      · have f1 : decide (x < 0) = false := by simpa using e1
        by_cases e2 : (2 : Int) ^ k ≤ x
        · have f2 : decide ((2 : Int) ^ k ≤ x) = true := by simpa using e2
          obtain ⟨r1, r2⟩ := hf (.inr e2) HP.out
          subst r1 r2
          clear e1 e2 hf HI
          go_wp2_with fail
          refine (fault_any _ _ _).mono ?_
          rintro e w1 ⟨rfl, hb⟩
          obtain ⟨r0, r1, r2, r3⟩ := (R0.out.below hb).two
          have R1 := Lib.hid (R0.out.below hb)
          have G1 := Lib.hid (bw_below (Nat.le_refl _) G0.out hb)
          clear hb
          go_wp2_with fail
          obtain ⟨s0, s1, _, _⟩ := (hb_set2 (n := .int .i64 3) (d := .int .i64 i) R1.out).two
          exact bodyPost_ret (v := .agg #[.int .i64 3, .int .i64 i]) (by simp [results, Tryd.results9, go_sem, s0, s1]) rfl ⟨rfl, (G1.out.setCell (Nat.le_refl _) _).setCell (Nat.le_refl _) _⟩
        · have f2 : decide ((2 : Int) ^ k ≤ x) = false := by simpa using e2
          have HI2 := Lib.hid (HI.out (by rintro (y | y) <;> contradiction))
          clear e1 e2 hf HI
          go_wp2_with fail
          go_round
          case rel => exact ⟨i + 1, by omega, by go_num, HI2, trivial⟩
          case measure => simp [intOf]; omega
    · obtain rfl : i = 1 := by omega
      have HP2 := Lib.hid (HN.out HP.out)
      rw [show ((1 : Nat) : Int) = 1 from rfl]
      clear HF HN HP HA
      by_cases e3 : n < 0
      · have f3 : decide (n < 0) = true := by simpa using e3
        obtain ⟨r1, r2⟩ := HP2.out.1 (.inl e3)
        subst r1 r2
        clear e3 HP2
        go_wp2_with fail
        refine (fault_any _ _ _).mono ?_
        rintro e w1 ⟨rfl, hb⟩
        obtain ⟨r0, r1, r2, r3⟩ := (R0.out.below hb).two
        have R1 := Lib.hid (R0.out.below hb)
        have G1 := Lib.hid (bw_below (Nat.le_refl _) G0.out hb)
        clear hb
        go_wp2_with fail
        obtain ⟨s0, s1, _, _⟩ := (hb_set2 (n := .int .i64 5) (d := .int .i64 0) R1.out).two
        exact bodyPost_ret (v := .agg #[.int .i64 5, .int .i64 0]) (by simp [results, Tryd.results9, go_sem, s0, s1]) rfl ⟨rfl, (G1.out.setCell (Nat.le_refl _) _).setCell (Nat.le_refl _) _⟩
      · have f3 : decide (n < 0) = false := by simpa using e3
        by_cases e4 : 0 < n
        · have f4 : decide (0 < n) = true := by simpa using e4
          obtain ⟨r1, r2⟩ := HP2.out.1 (.inr e4)
          subst r1 r2
          clear e3 e4 HP2
          go_wp2_with fail
          refine (fault_any _ _ _).mono ?_
          rintro e w1 ⟨rfl, hb⟩
          obtain ⟨r0, r1, r2, r3⟩ := (R0.out.below hb).two
          have R1 := Lib.hid (R0.out.below hb)
          have G1 := Lib.hid (bw_below (Nat.le_refl _) G0.out hb)
          clear hb
          go_wp2_with fail
          obtain ⟨s0, s1, _, _⟩ := (hb_set2 (n := .int .i64 5) (d := .int .i64 0) R1.out).two
          exact bodyPost_ret (v := .agg #[.int .i64 5, .int .i64 0]) (by simp [results, Tryd.results9, go_sem, s0, s1]) rfl ⟨rfl, (G1.out.setCell (Nat.le_refl _) _).setCell (Nat.le_refl _) _⟩
        · have f4 : decide (0 < n) = false := by simpa using e4
          obtain ⟨r1, r2⟩ := HP2.out.2 (by rintro (y | y) <;> contradiction)
          subst r1 r2
          clear e3 e4 HP2
          go_wp2_with fail
          exact bodyPost_ret (v := .agg #[.int .i64 0, .int .i64 0]) (by simp [results, Tryd.results9, go_sem]) rfl ⟨rfl, by go_grown⟩
set_option maxRecDepth 100000 in
set_option maxHeartbeats 8000000 in
theorem rf_s23 (k : Nat) (k1 : 1 ≤ k) (k8 : k ≤ 8) (n : Int) (A : Option Addr) (L c : Nat) (h : (L : Int) ≠ 1) (w : World) : Calls Tryd.prog 9 #[.int .i64 23, .int .i64 (k : Int), .slice A L c, .int .i64 n] w fun e w' => e = .returned (.agg #[.int .i64 9, .int .i64 0]) ∧ Below w.heap.size w w' := by
  have R0 := Lib.hid (HB.new w 24 #[.int .i64 0, .int .i64 0])
  have G0 := Lib.hid (new_below w (.cells #[.int .i64 0, .int .i64 0] 24))
  have d3 : decide ((k : Int) < 1) = false := by simp; omega
  have d4 : decide (8 < (k : Int)) = false := by simp; omega
  have d5 : ((L : Int) != 1) = true := by simpa using h
  clear h k1 k8
  go_enter Tryd.func9, Tryd.ntmps9
  go_wp2_with fail
  refine (fault_any _ _ _).mono ?_
  rintro e w1 ⟨rfl, hb⟩
  obtain ⟨r0, r1, r2, r3⟩ := (R0.out.below hb).two
  have R1 := Lib.hid (R0.out.below hb)
  have G1 := Lib.hid (bw_below (Nat.le_refl _) G0.out hb)
  clear hb
  go_wp2_with fail
  obtain ⟨s0, s1, _, _⟩ := (hb_set2 (n := .int .i64 9) (d := .int .i64 0) R1.out).two
  exact bodyPost_ret (v := .agg #[.int .i64 9, .int .i64 0]) (by simp [results, Tryd.results9, go_sem, s0, s1]) rfl ⟨rfl, (G1.out.setCell (Nat.le_refl _) _).setCell (Nat.le_refl _) _⟩
set_option maxRecDepth 100000 in
set_option maxHeartbeats 8000000 in
theorem rf_r23 (k : Nat) (k1 : 1 ≤ k) (k8 : k ≤ 8) (n : Int) (A : Option Addr) (c : Nat) (xs : List Int) (w : World) (C Aa : Int) (hL : xs.length = 1) (h : Is w A xs) (hF : ∀ i, i < 1 → (nth xs i < 0 ∨ 2 ^ k ≤ nth xs i) → (∀ j, j < i → ¬ (nth xs j < 0 ∨ 2 ^ k ≤ nth xs j)) → C = 3 ∧ Aa = i) (hN : (∀ j, j < 1 → ¬ (nth xs j < 0 ∨ 2 ^ k ≤ nth xs j)) → (n < 0 ∨ 8 < n → C = 5 ∧ Aa = 0) ∧ (¬ (n < 0 ∨ 8 < n) → C = 0 ∧ Aa = 0)) : Calls Tryd.prog 9 #[.int .i64 23, .int .i64 (k : Int), .slice A 1 c, .int .i64 n] w fun e w' => e = .returned (.agg #[.int .i64 C, .int .i64 Aa]) ∧ Below w.heap.size w w' := by
  have R0 := Lib.hid (HB.new w 24 #[.int .i64 0, .int .i64 0])
  have G0 := Lib.hid (new_below w (.cells #[.int .i64 0, .int .i64 0] 24))
  have HF := Lib.hid hF
  have HN := Lib.hid hN
  have HA := Lib.hid h
  have HL := Lib.hid hL
  have q0 := two_pow_wrap k8
  have q2 : min k 64 = k := by omega
  have p0 : 1 ≤ (2 : Int) ^ k := by
    have : 1 ≤ 2 ^ k := Nat.one_le_two_pow
    exact_mod_cast this
  have p8 : (2 : Int) ^ k ≤ 256 := by
    have h8 : (2 : Nat) ^ k ≤ 2 ^ 8 := Nat.pow_le_pow_right (by decide) k8
    exact_mod_cast h8
  have d3 : decide ((k : Int) < 1) = false := by simp; omega
  have d4 : decide (8 < (k : Int)) = false := by simp; omega
  clear hF hN h k1 hL
  go_enter Tryd.func9, Tryd.ntmps9
  go_wp2_with fail
  go_loopw [10] (fun t wr => ∃ i : Nat, i ≤ 1 ∧ t = .int .i64 i ∧ Hid (∀ j, j < i → ¬ (nth xs j < 0 ∨ 2 ^ k ≤ nth xs j)) ∧ wr = w.alloc (.cells #[.int .i64 0, .int .i64 0] 24)) (fun t _ => 1 - (intOf t).toNat)
  case atStart => exact ⟨0, by omega, rfl, Lib.hid (fun j hj => absurd hj (by omega)), rfl⟩
  case round =>
    obtain ⟨i, hi, rfl, HP, rfl⟩ := hrel
    by_cases hlt : i < 1
    · have t3 : decide ((i : Int) < 1) = true := by simp; omega
      obtain ⟨b, o, rfl, hb', c0⟩ := is_at (i := i) HA.out (by rw [HL.out]; exact hlt)
      have hf := HF.out i hlt
      have HI : Hid (¬ (nth xs i < 0 ∨ 2 ^ k ≤ nth xs i) → ∀ j, j < i + 1 → ¬ (nth xs j < 0 ∨ 2 ^ k ≤ nth xs j)) := Lib.hid (fun hx j hj => by
        rcases Nat.lt_or_ge j i with y | y
        · exact HP.out j y
        · obtain rfl : j = i := by omega
          exact hx)
      generalize nth xs i = x at *
      by_cases e1 : x < 0
      · have f1 : decide (x < 0) = true := by simpa using e1
        obtain ⟨r1, r2⟩ := hf (.inl e1) HP.out
        subst r1 r2
        clear e1 hf HI
        go_wp2_with fail
        refine (fault_any _ _ _).mono ?_
        rintro e w1 ⟨rfl, hb⟩
        obtain ⟨r0, r1, r2, r3⟩ := (R0.out.below hb).two
        have R1 := Lib.hid (R0.out.below hb)
        have G1 := Lib.hid (bw_below (Nat.le_refl _) G0.out hb)
        clear hb
        go_wp2_with fail
        obtain ⟨s0, s1, _, _⟩ := (hb_set2 (n := .int .i64 3) (d := .int .i64 i) R1.out).two
        exact bodyPost_ret (v := .agg #[.int .i64 3, .int .i64 i]) (by simp [results, Tryd.results9, go_sem, s0, s1]) rfl ⟨rfl, (G1.out.setCell (Nat.le_refl _) _).setCell (Nat.le_refl _) _⟩
      · have f1 : decide (x < 0) = false := by simpa using e1
        by_cases e2 : (2 : Int) ^ k ≤ x
        · have f2 : decide ((2 : Int) ^ k ≤ x) = true := by simpa using e2
          obtain ⟨r1, r2⟩ := hf (.inr e2) HP.out
          subst r1 r2
          clear e1 e2 hf HI
          go_wp2_with fail
          refine (fault_any _ _ _).mono ?_
          rintro e w1 ⟨rfl, hb⟩
          obtain ⟨r0, r1, r2, r3⟩ := (R0.out.below hb).two
          have R1 := Lib.hid (R0.out.below hb)
          have G1 := Lib.hid (bw_below (Nat.le_refl _) G0.out hb)
          clear hb
          go_wp2_with fail
          obtain ⟨s0, s1, _, _⟩ := (hb_set2 (n := .int .i64 3) (d := .int .i64 i) R1.out).two
          exact bodyPost_ret (v := .agg #[.int .i64 3, .int .i64 i]) (by simp [results, Tryd.results9, go_sem, s0, s1]) rfl ⟨rfl, (G1.out.setCell (Nat.le_refl _) _).setCell (Nat.le_refl _) _⟩
        · have f2 : decide ((2 : Int) ^ k ≤ x) = false := by simpa using e2
          have HI2 := Lib.hid (HI.out (by rintro (y | y) <;> contradiction))
          clear e1 e2 hf HI
          go_wp2_with fail
          go_round
          case rel => exact ⟨i + 1, by omega, by go_num, HI2, trivial⟩
          case measure => simp [intOf]; omega
    · obtain rfl : i = 1 := by omega
      have HP2 := Lib.hid (HN.out HP.out)
      rw [show ((1 : Nat) : Int) = 1 from rfl]
      clear HF HN HP HA
      by_cases e3 : n < 0
      · have f3 : decide (n < 0) = true := by simpa using e3
        obtain ⟨r1, r2⟩ := HP2.out.1 (.inl e3)
        subst r1 r2
        clear e3 HP2
        go_wp2_with fail
        refine (fault_any _ _ _).mono ?_
        rintro e w1 ⟨rfl, hb⟩
        obtain ⟨r0, r1, r2, r3⟩ := (R0.out.below hb).two
        have R1 := Lib.hid (R0.out.below hb)
        have G1 := Lib.hid (bw_below (Nat.le_refl _) G0.out hb)
        clear hb
        go_wp2_with fail
        obtain ⟨s0, s1, _, _⟩ := (hb_set2 (n := .int .i64 5) (d := .int .i64 0) R1.out).two
        exact bodyPost_ret (v := .agg #[.int .i64 5, .int .i64 0]) (by simp [results, Tryd.results9, go_sem, s0, s1]) rfl ⟨rfl, (G1.out.setCell (Nat.le_refl _) _).setCell (Nat.le_refl _) _⟩
      · have f3 : decide (n < 0) = false := by simpa using e3
        by_cases e4 : 8 < n
        · have f4 : decide (8 < n) = true := by simpa using e4
          obtain ⟨r1, r2⟩ := HP2.out.1 (.inr e4)
          subst r1 r2
          clear e3 e4 HP2
          go_wp2_with fail
          refine (fault_any _ _ _).mono ?_
          rintro e w1 ⟨rfl, hb⟩
          obtain ⟨r0, r1, r2, r3⟩ := (R0.out.below hb).two
          have R1 := Lib.hid (R0.out.below hb)
          have G1 := Lib.hid (bw_below (Nat.le_refl _) G0.out hb)
          clear hb
          go_wp2_with fail
          obtain ⟨s0, s1, _, _⟩ := (hb_set2 (n := .int .i64 5) (d := .int .i64 0) R1.out).two
          exact bodyPost_ret (v := .agg #[.int .i64 5, .int .i64 0]) (by simp [results, Tryd.results9, go_sem, s0, s1]) rfl ⟨rfl, (G1.out.setCell (Nat.le_refl _) _).setCell (Nat.le_refl _) _⟩
        · have f4 : decide (8 < n) = false := by simpa using e4
          obtain ⟨r1, r2⟩ := HP2.out.2 (by rintro (y | y) <;> contradiction)
          subst r1 r2
          clear e3 e4 HP2
          go_wp2_with fail
          exact bodyPost_ret (v := .agg #[.int .i64 0, .int .i64 0]) (by simp [results, Tryd.results9, go_sem]) rfl ⟨rfl, by go_grown⟩
set_option maxRecDepth 100000 in
set_option maxHeartbeats 8000000 in
theorem rf_s2 (op : Int) (h1 : 17 ≤ op) (h2 : op ≤ 22) (k : Nat) (k1 : 1 ≤ k) (k8 : k ≤ 8) (n : Int) (A : Option Addr) (L c : Nat) (h : (L : Int) ≠ 2) (w : World) : Calls Tryd.prog 9 #[.int .i64 op, .int .i64 (k : Int), .slice A L c, .int .i64 n] w fun e w' => e = .returned (.agg #[.int .i64 9, .int .i64 0]) ∧ Below w.heap.size w w' := by
  have R0 := Lib.hid (HB.new w 24 #[.int .i64 0, .int .i64 0])
  have G0 := Lib.hid (new_below w (.cells #[.int .i64 0, .int .i64 0] 24))
  have d1 : decide (op < 15) = false := by simp; omega
  have d2 : decide (23 < op) = false := by simp; omega
  have o1 : (op == 15) = false := by simp; omega
  have o2 : (op == 16) = false := by simp; omega
  have o3 : (op == 23) = false := by simp; omega
  clear h1 h2
  have d3 : decide ((k : Int) < 1) = false := by simp; omega
  have d4 : decide (8 < (k : Int)) = false := by simp; omega
  have d5 : ((L : Int) != 2) = true := by simpa using h
  clear h k1 k8
  go_enter Tryd.func9, Tryd.ntmps9
  go_wp2_with fail
  refine (fault_any _ _ _).mono ?_
  rintro e w1 ⟨rfl, hb⟩
  obtain ⟨r0, r1, r2, r3⟩ := (R0.out.below hb).two
  have R1 := Lib.hid (R0.out.below hb)
  have G1 := Lib.hid (bw_below (Nat.le_refl _) G0.out hb)
  clear hb
  go_wp2_with fail
  obtain ⟨s0, s1, _, _⟩ := (hb_set2 (n := .int .i64 9) (d := .int .i64 0) R1.out).two
  exact bodyPost_ret (v := .agg #[.int .i64 9, .int .i64 0]) (by simp [results, Tryd.results9, go_sem, s0, s1]) rfl ⟨rfl, (G1.out.setCell (Nat.le_refl _) _).setCell (Nat.le_refl _) _⟩
set_option maxRecDepth 100000 in
set_option maxHeartbeats 8000000 in
theorem rf_r2 (op : Int) (h1 : 17 ≤ op) (h2 : op ≤ 22) (k : Nat) (k1 : 1 ≤ k) (k8 : k ≤ 8) (n : Int) (A : Option Addr) (c : Nat) (xs : List Int) (w : World) (C Aa : Int) (hL : xs.length = 2) (h : Is w A xs) (hF : ∀ i, i < 2 → (nth xs i < 0 ∨ 2 ^ k ≤ nth xs i) → (∀ j, j < i → ¬ (nth xs j < 0 ∨ 2 ^ k ≤ nth xs j)) → C = 3 ∧ Aa = i) (hN : (∀ j, j < 2 → ¬ (nth xs j < 0 ∨ 2 ^ k ≤ nth xs j)) → (n < 0 ∨ 0 < n → C = 5 ∧ Aa = 0) ∧ (¬ (n < 0 ∨ 0 < n) → C = 0 ∧ Aa = 0)) : Calls Tryd.prog 9 #[.int .i64 op, .int .i64 (k : Int), .slice A 2 c, .int .i64 n] w fun e w' => e = .returned (.agg #[.int .i64 C, .int .i64 Aa]) ∧ Below w.heap.size w w' := by
  have R0 := Lib.hid (HB.new w 24 #[.int .i64 0, .int .i64 0])
  have G0 := Lib.hid (new_below w (.cells #[.int .i64 0, .int .i64 0] 24))
  have HF := Lib.hid hF
  have HN := Lib.hid hN
  have HA := Lib.hid h
  have HL := Lib.hid hL
  have q0 := two_pow_wrap k8
  have q2 : min k 64 = k := by omega
  have p0 : 1 ≤ (2 : Int) ^ k := by
    have : 1 ≤ 2 ^ k := Nat.one_le_two_pow
    exact_mod_cast this
  have p8 : (2 : Int) ^ k ≤ 256 := by
    have h8 : (2 : Nat) ^ k ≤ 2 ^ 8 := Nat.pow_le_pow_right (by decide) k8
    exact_mod_cast h8
  have d1 : decide (op < 15) = false := by simp; omega
  have d2 : decide (23 < op) = false := by simp; omega
  have o1 : (op == 15) = false := by simp; omega
  have o2 : (op == 16) = false := by simp; omega
  have o3 : (op == 23) = false := by simp; omega
  clear h1 h2
  have d3 : decide ((k : Int) < 1) = false := by simp; omega
  have d4 : decide (8 < (k : Int)) = false := by simp; omega
  clear hF hN h k1 hL
  go_enter Tryd.func9, Tryd.ntmps9
  go_wp2_with fail
  go_loopw [10] (fun t wr => ∃ i : Nat, i ≤ 2 ∧ t = .int .i64 i ∧ Hid (∀ j, j < i → ¬ (nth xs j < 0 ∨ 2 ^ k ≤ nth xs j)) ∧ wr = w.alloc (.cells #[.int .i64 0, .int .i64 0] 24)) (fun t _ => 2 - (intOf t).toNat)
  case atStart => exact ⟨0, by omega, rfl, Lib.hid (fun j hj => absurd hj (by omega)), rfl⟩
  case round =>
    obtain ⟨i, hi, rfl, HP, rfl⟩ := hrel
    by_cases hlt : i < 2
    · have t3 : decide ((i : Int) < 2) = true := by simp; omega
      obtain ⟨b, o, rfl, hb', c0⟩ := is_at (i := i) HA.out (by rw [HL.out]; exact hlt)
      have hf := HF.out i hlt
      have HI : Hid (¬ (nth xs i < 0 ∨ 2 ^ k ≤ nth xs i) → ∀ j, j < i + 1 → ¬ (nth xs j < 0 ∨ 2 ^ k ≤ nth xs j)) := Lib.hid (fun hx j hj => by
        rcases Nat.lt_or_ge j i with y | y
        · exact HP.out j y
        · obtain rfl : j = i := by omega
          exact hx)
      generalize nth xs i = x at *
      by_cases e1 : x < 0
      · have f1 : decide (x < 0) = true := by simpa using e1
        obtain ⟨r1, r2⟩ := hf (.inl e1) HP.out
        subst r1 r2
        clear e1 hf HI
        go_wp2_with fail
        refine (fault_any _ _ _).mono ?_
        rintro e w1 ⟨rfl, hb⟩
        obtain ⟨r0, r1, r2, r3⟩ := (R0.out.below hb).two
        have R1 := Lib.hid (R0.out.below hb)
        have G1 := Lib.hid (bw_below (Nat.le_refl _) G0.out hb)
        clear hb
        go_wp2_with fail
        obtain ⟨s0, s1, _, _⟩ := (hb_set2 (n := .int .i64 3) (d := .int .i64 i) R1.out).two
        exact bodyPost_ret (v := .agg #[.int .i64 3, .int .i64 i]) (by simp [results, Tryd.results9, go_sem, s0, s1]) rfl ⟨rfl, (G1.out.setCell (Nat.le_refl _) _).setCell (Nat.le_refl _) _⟩
      · have f1 : decide (x < 0) = false := by simpa using e1
        by_cases e2 : (2 : Int) ^ k ≤ x
        · have f2 : decide ((2 : Int) ^ k ≤ x) = true := by simpa using e2
          obtain ⟨r1, r2⟩ := hf (.inr e2) HP.out
          subst r1 r2
          clear e1 e2 hf HI
          go_wp2_with fail
          refine (fault_any _ _ _).mono ?_
          rintro e w1 ⟨rfl, hb⟩
          obtain ⟨r0, r1, r2, r3⟩ := (R0.out.below hb).two
          have R1 := Lib.hid (R0.out.below hb)
          have G1 := Lib.hid (bw_below (Nat.le_refl _) G0.out hb)
          clear hb
          go_wp2_with fail
          obtain ⟨s0, s1, _, _⟩ := (hb_set2 (n := .int .i64 3) (d := .int .i64 i) R1.out).two
          exact bodyPost_ret (v := .agg #[.int .i64 3, .int .i64 i]) (by simp [results, Tryd.results9, go_sem, s0, s1]) rfl ⟨rfl, (G1.out.setCell (Nat.le_refl _) _).setCell (Nat.le_refl _) _⟩
        · have f2 : decide ((2 : Int) ^ k ≤ x) = false := by simpa using e2
          have HI2 := Lib.hid (HI.out (by rintro (y | y) <;> contradiction))
          clear e1 e2 hf HI
          go_wp2_with fail
          go_round
          case rel => exact ⟨i + 1, by omega, by go_num, HI2, trivial⟩
          case measure => simp [intOf]; omega
    · obtain rfl : i = 2 := by omega
      have HP2 := Lib.hid (HN.out HP.out)
      rw [show ((2 : Nat) : Int) = 2 from rfl]
      clear HF HN HP HA
      by_cases e3 : n < 0
      · have f3 : decide (n < 0) = true := by simpa using e3
        obtain ⟨r1, r2⟩ := HP2.out.1 (.inl e3)
        subst r1 r2
        clear e3 HP2
        go_wp2_with fail
        refine (fault_any _ _ _).mono ?_
        rintro e w1 ⟨rfl, hb⟩
        obtain ⟨r0, r1, r2, r3⟩ := (R0.out.below hb).two
        have R1 := Lib.hid (R0.out.below hb)
        have G1 := Lib.hid (bw_below (Nat.le_refl _) G0.out hb)
        clear hb
        go_wp2_with fail
        obtain ⟨s0, s1, _, _⟩ := (hb_set2 (n := .int .i64 5) (d := .int .i64 0) R1.out).two
        exact bodyPost_ret (v := .agg #[.int .i64 5, .int .i64 0]) (by simp [results, Tryd.results9, go_sem, s0, s1]) rfl ⟨rfl, (G1.out.setCell (Nat.le_refl _) _).setCell (Nat.le_refl _) _⟩
      · have f3 : decide (n < 0) = false := by simpa using e3
        by_cases e4 : 0 < n
        · have f4 : decide (0 < n) = true := by simpa using e4
          obtain ⟨r1, r2⟩ := HP2.out.1 (.inr e4)
          subst r1 r2
          clear e3 e4 HP2
          go_wp2_with fail
          refine (fault_any _ _ _).mono ?_
          rintro e w1 ⟨rfl, hb⟩
          obtain ⟨r0, r1, r2, r3⟩ := (R0.out.below hb).two
          have R1 := Lib.hid (R0.out.below hb)
          have G1 := Lib.hid (bw_below (Nat.le_refl _) G0.out hb)
          clear hb
          go_wp2_with fail
          obtain ⟨s0, s1, _, _⟩ := (hb_set2 (n := .int .i64 5) (d := .int .i64 0) R1.out).two
          exact bodyPost_ret (v := .agg #[.int .i64 5, .int .i64 0]) (by simp [results, Tryd.results9, go_sem, s0, s1]) rfl ⟨rfl, (G1.out.setCell (Nat.le_refl _) _).setCell (Nat.le_refl _) _⟩
        · have f4 : decide (0 < n) = false := by simpa using e4
          obtain ⟨r1, r2⟩ := HP2.out.2 (by rintro (y | y) <;> contradiction)
          subst r1 r2
          clear e3 e4 HP2
          go_wp2_with fail
          exact bodyPost_ret (v := .agg #[.int .i64 0, .int .i64 0]) (by simp [results, Tryd.results9, go_sem]) rfl ⟨rfl, by go_grown⟩
end Go.Proofs.YtibpgcdaommjeaaDoor
