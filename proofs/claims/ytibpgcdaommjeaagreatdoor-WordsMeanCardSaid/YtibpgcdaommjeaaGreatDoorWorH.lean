/-
  Words: words.Bits and words.Of.
-/
import Derived.Test.YtibpgcdaommjeaaGreatDoorWorG
namespace Go.Proofs.YtibpgcdaommjeaaGreatDoor.Wds
open Go.RowKit

theorem bit_at (a i : Nat) (ha : a < 2 ^ 8) : bits .and .i64 ((a : Int) / 2 ^ i) 1 = if a.testBit i then 1 else 0 := by
  have e : ((a : Int) / 2 ^ i) = ((a / 2 ^ i : Nat) : Int) := by push_cast; rfl
  have h1 := (bits_nat .i64 8 (by decide) (fun n h0 h1 => by rw [IntKind.wrap_i64]; omega) (a / 2 ^ i) 1 (Nat.lt_of_le_of_lt (Nat.div_le_self _ _) ha) (by decide)).1
  rw [e, show (1 : Int) = ((1 : Nat) : Int) from rfl, h1, Nat.and_one_is_mod, bit_is]
  have : a / 2 ^ i % 2 = 0 ∨ a / 2 ^ i % 2 = 1 := by omega
  rcases this with h | h <;> rw [h] <;> rfl
theorem bit_eq (a i : Nat) (ha : a < 2 ^ 8) : (bits .and .i64 ((a : Int) / 2 ^ i) 1 == 1) = a.testBit i := by
  rw [bit_at a i ha]
  cases a.testBit i <;> rfl
set_option maxRecDepth 100000 in
theorem bits_bad1 (a z : Int) (h : nwB z = true) (w : World) : Calls Tryz.prog 7 #[.int .i64 a, .int .i64 z] w fun e w' => e = .returned (.tuple #[.slice none 0 0, .agg #[.int .i64 3, .int .i64 (-1)]]) ∧ Below w.heap.size w w' := by
  have H := Lib.hid h
  clear h
  go_enter Tryz.func7, Tryz.ntmps7
  go_wp2_with fail
  refine (nowidth_any z _).mono ?_
  rintro e w1 ⟨rfl, rfl⟩
  rw [H.out]
  go_wp2_with fail
  exact bodyPost_ret (v := .tuple #[.slice none 0 0, .agg #[.int .i64 3, .int .i64 (-1)]]) (by simp [results, Tryz.results7, go_sem]) rfl ⟨rfl, by go_grown⟩
set_option maxRecDepth 100000 in
theorem bits_bad2 (a z M : Int) (h : nwB z = false) (hM : Wb z M) (h2 : noB M a = true) (w : World) : Calls Tryz.prog 7 #[.int .i64 a, .int .i64 z] w fun e w' => e = .returned (.tuple #[.slice none 0 0, .agg #[.int .i64 3, .int .i64 0]]) ∧ Below w.heap.size w w' := by
  have H := Lib.hid h
  have H2 := Lib.hid h2
  have HW := Lib.hid (fun w => noword_any a z M hM w)
  clear h h2 hM
  go_enter Tryz.func7, Tryz.ntmps7
  go_wp2_with fail
  refine (nowidth_any z _).mono ?_
  rintro e w1 ⟨rfl, rfl⟩
  rw [H.out]
  go_wp2_with fail
  refine (HW.out _).mono ?_
  rintro e w1 ⟨rfl, rfl⟩
  rw [H2.out]
  go_wp2_with fail
  exact bodyPost_ret (v := .tuple #[.slice none 0 0, .agg #[.int .i64 3, .int .i64 0]]) (by simp [results, Tryz.results7, go_sem]) rfl ⟨rfl, by go_grown⟩
theorem nw_no {k : Nat} (h1 : 1 ≤ k) (h2 : k ≤ 8) : nwB k = false := by unfold nwB; simp; omega
theorem no_no {a : Nat} {M : Int} (h : (a : Int) < M) : noB M a = false := by unfold noB; simp; omega
set_option maxRecDepth 100000 in
set_option maxHeartbeats 4000000 in
theorem bits_ok (a k : Nat) (M : Int) (hM : Wb k M) (ha : (a : Int) < M) (w : World) : Calls Tryz.prog 7 #[.int .i64 a, .int .i64 k] w fun e w' => ∃ g, e = .returned (.tuple #[.slice (some ⟨g, 0, none⟩) k k, .agg #[.int .i64 0, .int .i64 0]]) ∧ Hid (Bs w' (some ⟨g, 0, none⟩) (fun j => a.testBit j) k) ∧ Below w.heap.size w w' := by
  obtain ⟨k', hk', k1, k8, hp⟩ := wb_pow hM
  obtain rfl : k = k' := by omega
  have a8 : a < 2 ^ 8 := by
    have : M ≤ 256 := (wb_rng hM).2.2.2
    omega
  have H := Lib.hid (nw_no k1 k8)
  have H2 := Lib.hid (no_no ha)
  have HW := Lib.hid (fun w => noword_any a k M hM w)
  have HB' := Lib.hid (fun i => bit_eq a i a8)
  have hmk := fun w => make_bools k (by omega) w
  have R0 := Lib.hid ((HB.new w 28 #[.int .i64 0, .int .i64 0]).alloc (.cells (BA (fun _ => false) k) 4))
  have B0 := Lib.hid (HB.new1 w (.cells #[.int .i64 0, .int .i64 0] 28) 4 (BA (fun _ => false) k))
  have G0 : Hid (Below w.heap.size w ((w.alloc (.cells #[.int .i64 0, .int .i64 0] 28)).alloc (.cells (BA (fun _ => false) k) 4))) := Lib.hid (Below.alloc (new_below _ _) (by simp) _)
  have NE : Hid (w.heap.size ≠ w.heap.size + 1) := Lib.hid (by omega)
  have a256 : (a : Int) < 256 := by omega
  clear hM ha hk' hp k1 a8
  go_enter Tryz.func7, Tryz.ntmps7
  go_wp2_with fail
  refine (nowidth_any _ _).mono ?_
  rintro e w1 ⟨rfl, rfl⟩
  rw [H.out]
  go_wp2_with fail
  refine (HW.out _).mono ?_
  rintro e w1 ⟨rfl, rfl⟩
  rw [H2.out]
  go_wp2_with fail
  clear hmk
  go_loopw [7, 21] (fun _ t wr => ∃ (i : Nat) (b : Nat → Bool), i ≤ k ∧ t = .int .i64 i ∧ Hid (∀ j, j < i → b j = a.testBit j) ∧ Hid (HB wr (w.heap.size + 1) 4 (BA b k)) ∧ Hid (HB wr w.heap.size 28 #[.int .i64 0, .int .i64 0]) ∧ Hid (Below w.heap.size w wr)) (fun _ t _ => k - (intOf t).toNat)
  case atStart => exact ⟨0, fun _ => false, by omega, rfl, Lib.hid (fun j hj => absurd hj (by omega)), B0, R0, G0⟩
  case round =>
    obtain ⟨i, b, hi, rfl, HJ, B1, R1, G1⟩ := hrel
    clear B0 R0 G0
    by_cases hlt : i < k
    · have t3 : decide ((i : Int) < (k : Int)) = true := by simpa using hlt
      obtain ⟨x0, x1⟩ := ba_cell B1.out hlt
      have hb := HB'.out i
      have q2 : min i 64 = i := by omega
      have B2 := Lib.hid (ba_set B1.out i (a.testBit i))
      have R2 := Lib.hid (R1.out.far (p := ⟨w.heap.size + 1, i, none⟩) NE.out (.bool (a.testBit i)))
      have G2 := Lib.hid (G1.out.setCell (p := ⟨w.heap.size + 1, i, none⟩) (by simp) (.bool (a.testBit i)))
      clear B1 R1 G1
      go_wp2_with fail
      go_round
      case rel => exact ⟨i + 1, _, by omega, by go_num, Lib.hid (fun j hj => by
        unfold upv
        by_cases z : j = i
        · rw [if_pos z, z]
        · rw [if_neg z]; exact HJ.out j (by omega)), B2, R2, G2⟩
      case measure => simp [intOf]; omega
    · obtain rfl : i = k := by omega
      have t3 : decide ((i : Int) < (i : Int)) = false := by simp
      obtain ⟨r0, r1, r2, r3⟩ := R1.out.two
      have S1 := Lib.hid ((B1.out.far (p := ⟨w.heap.size, 0, none⟩) (Ne.symm NE.out) (.int .i64 0)).far (p := ⟨w.heap.size, 1, none⟩) (Ne.symm NE.out) (.int .i64 0))
      obtain ⟨s0, s1, _, _⟩ := (hb_set2 (n := .int .i64 0) (d := .int .i64 0) R1.out).two
      go_wp2_with fail
      exact bodyPost_ret (v := .tuple #[.slice (some ⟨w.heap.size + 1, 0, none⟩) i i, .agg #[.int .i64 0, .int .i64 0]]) (by simp [results, Tryz.results7, go_sem, s0, s1]) rfl ⟨_, rfl, Lib.hid ((ba_bs S1.out).congr HJ.out), (G1.out.setCell (Nat.le_refl _) _).setCell (Nat.le_refl _) _⟩
end Go.Proofs.YtibpgcdaommjeaaGreatDoor.Wds
