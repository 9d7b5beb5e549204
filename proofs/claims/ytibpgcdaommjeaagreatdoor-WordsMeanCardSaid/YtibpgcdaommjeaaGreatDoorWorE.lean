/-
  Words: the operations one by one.
-/
import Derived.Test.YtibpgcdaommjeaaGreatDoorWorD
namespace Go.Proofs.YtibpgcdaommjeaaGreatDoor.Wds
open Go.RowKit

theorem c1_any (A : Option Addr) (l c : Nat) (n : Int) (w : World) : Calls Tryz.prog 20 #[.slice A l c, .int .i64 n] w fun e w' => e = .returned (.int .i64 n) ∧ w = w' := by
  go_enter Tryz.func20, Tryz.ntmps20
  go_wp2_with fail
  go_ret
  exact ⟨rfl, rfl⟩
theorem xor_ones (x : Int) (x0 : 0 ≤ x) (x1 : x ≤ 255) : bits .xor .i64 (-1) x = -x - 1 := by
  have h : (BitVec.ofInt 64 (-1) ^^^ BitVec.ofInt 64 x).toNat = 2 ^ 64 - 1 - (x % ((2 ^ 64 : Nat) : Int)).toNat := by
    rw [show BitVec.ofInt 64 (-1) = BitVec.allOnes 64 by decide, BitVec.allOnes_xor, BitVec.toNat_not, BitVec.toNat_ofInt]
  show IntKind.i64.wrap ((BitVec.ofInt 64 (-1) ^^^ BitVec.ofInt 64 x).toNat : Nat) = -x - 1
  rw [h, IntKind.wrap_i64]
  omega
theorem c2_any (b o l c : Nat) (x n : Int) (w : World) (x0 : 0 ≤ x) (x1 : x ≤ 255) (hl : 1 ≤ l) (c0 : w.cell? ⟨b, o, none⟩ = some (.int .i64 x)) : Calls Tryz.prog 21 #[.slice (some ⟨b, o, none⟩) l c, .int .i64 n] w fun e w' => e = .returned (.int .i64 (-x - 1)) ∧ w = w' := by
  have l0 : decide (0 < l) = true := by simp; omega
  go_enter Tryz.func21, Tryz.ntmps21
  go_wp2_with fail
  go_ret
  exact ⟨by rw [← xor_ones x x0 x1]; rfl, rfl⟩
theorem c3_any (b o c : Nat) (x y n : Int) (w : World) (c0 : w.cell? ⟨b, o, none⟩ = some (.int .i64 x)) (c1 : w.cell? ⟨b, o + 1, none⟩ = some (.int .i64 y)) : Calls Tryz.prog 22 #[.slice (some ⟨b, o, none⟩) 2 c, .int .i64 n] w fun e w' => e = .returned (.int .i64 (bits .and .i64 x y)) ∧ ∃ k, w' = w.drewN k := by
  go_enter Tryz.func22, Tryz.ntmps22
  go_wp2_with fail
  go_quiet (fail)
  go_wp2_with fail
  go_ret
  exact ⟨rfl, _, rfl⟩
theorem c4_any (b o c : Nat) (x y n : Int) (w : World) (c0 : w.cell? ⟨b, o, none⟩ = some (.int .i64 x)) (c1 : w.cell? ⟨b, o + 1, none⟩ = some (.int .i64 y)) : Calls Tryz.prog 23 #[.slice (some ⟨b, o, none⟩) 2 c, .int .i64 n] w fun e w' => e = .returned (.int .i64 (bits .or .i64 x y)) ∧ ∃ k, w' = w.drewN k := by
  go_enter Tryz.func23, Tryz.ntmps23
  go_wp2_with fail
  go_quiet (fail)
  go_wp2_with fail
  go_ret
  exact ⟨rfl, _, rfl⟩
theorem c5_any (b o c : Nat) (x y n : Int) (w : World) (c0 : w.cell? ⟨b, o, none⟩ = some (.int .i64 x)) (c1 : w.cell? ⟨b, o + 1, none⟩ = some (.int .i64 y)) : Calls Tryz.prog 24 #[.slice (some ⟨b, o, none⟩) 2 c, .int .i64 n] w fun e w' => e = .returned (.int .i64 (bits .xor .i64 x y)) ∧ ∃ k, w' = w.drewN k := by
  go_enter Tryz.func24, Tryz.ntmps24
  go_wp2_with fail
  go_quiet (fail)
  go_wp2_with fail
  go_ret
  exact ⟨rfl, _, rfl⟩
theorem c6_any (b o c : Nat) (x y n : Int) (w : World) (x0 : 0 ≤ x) (x1 : x ≤ 255) (y0 : 0 ≤ y) (y1 : y ≤ 255) (c0 : w.cell? ⟨b, o, none⟩ = some (.int .i64 x)) (c1 : w.cell? ⟨b, o + 1, none⟩ = some (.int .i64 y)) : Calls Tryz.prog 25 #[.slice (some ⟨b, o, none⟩) 2 c, .int .i64 n] w fun e w' => e = .returned (.int .i64 (x + y)) ∧ ∃ k, w' = w.drewN k := by
  have q : IntKind.i64.wrap (x + y) = x + y := IntWalk.i64_in _ (by omega)
  go_enter Tryz.func25, Tryz.ntmps25
  go_wp2_with fail
  go_quiet (fail)
  go_wp2_with fail
  go_ret
  exact ⟨rfl, _, rfl⟩
theorem c7_any (b o c : Nat) (x y n : Int) (w : World) (x0 : 0 ≤ x) (x1 : x ≤ 255) (y0 : 0 ≤ y) (y1 : y ≤ 255) (c0 : w.cell? ⟨b, o, none⟩ = some (.int .i64 x)) (c1 : w.cell? ⟨b, o + 1, none⟩ = some (.int .i64 y)) : Calls Tryz.prog 26 #[.slice (some ⟨b, o, none⟩) 2 c, .int .i64 n] w fun e w' => e = .returned (.int .i64 (x * y)) ∧ ∃ k, w' = w.drewN k := by
  have ab1 : 0 ≤ x * y := Int.mul_nonneg x0 y0
  have ab2 : x * y ≤ 65025 := by
    have h1 : x * y ≤ 255 * y := Int.mul_le_mul_of_nonneg_right (by omega) y0
    omega
  have q : IntKind.i64.wrap (x * y) = x * y := IntWalk.i64_in _ (by omega)
  go_enter Tryz.func26, Tryz.ntmps26
  go_wp2_with fail
  go_quiet (fail)
  go_wp2_with fail
  go_ret
  exact ⟨rfl, _, rfl⟩
def ltI (x y : Int) : Int := if x < y then 1 else 0
theorem less_any (x y : Int) (w : World) : Calls Tryz.prog 28 #[.int .i64 x, .int .i64 y] w fun e w' => e = .returned (.int .i64 (ltI x y)) ∧ w' = w := by
  by_cases h : x < y
  · have d : decide (x < y) = true := by simpa using h
    rw [show ltI x y = 1 from if_pos h]
    clear h
    go_enter Tryz.func28, Tryz.ntmps28
    go_wp2_with fail
    go_ret
    exact ⟨rfl, rfl⟩
  · have d : decide (x < y) = false := by simpa using h
    rw [show ltI x y = 0 from if_neg h]
    clear h
    go_enter Tryz.func28, Tryz.ntmps28
    go_wp2_with fail
    go_ret
    exact ⟨rfl, rfl⟩
theorem c8_any (b o c : Nat) (x y n : Int) (w : World) (c0 : w.cell? ⟨b, o, none⟩ = some (.int .i64 x)) (c1 : w.cell? ⟨b, o + 1, none⟩ = some (.int .i64 y)) : Calls Tryz.prog 27 #[.slice (some ⟨b, o, none⟩) 2 c, .int .i64 n] w fun e w' => e = .returned (.int .i64 (ltI x y)) ∧ ∃ k, w' = w.drewN k := by
  go_enter Tryz.func27, Tryz.ntmps27
  go_wp2_with fail
  go_quiet (exact Calls.quiet_of_same (less_any _ _ _))
  go_wp2_with fail
  go_ret
  exact ⟨rfl, _, rfl⟩
theorem c9_any (b o l c : Nat) (x : Int) (k : Nat) (w : World) (hl : 1 ≤ l) (x0 : 0 ≤ x) (x1 : x ≤ 255) (hk : k ≤ 8) (c0 : w.cell? ⟨b, o, none⟩ = some (.int .i64 x)) : Calls Tryz.prog 29 #[.slice (some ⟨b, o, none⟩) l c, .int .i64 k] w fun e w' => e = .returned (.int .i64 (x * 2 ^ k)) ∧ w = w' := by
  have l0 : decide (0 < l) = true := by simp; omega
  have s0 : 0 ≤ x * 2 ^ k := Int.mul_nonneg x0 (Int.le_of_lt (Int.pow_pos (by decide)))
  have s1 : x * 2 ^ k ≤ 65536 := by
    have h2 : (2 : Int) ^ k ≤ 256 := by
      have : k = 0 ∨ k = 1 ∨ k = 2 ∨ k = 3 ∨ k = 4 ∨ k = 5 ∨ k = 6 ∨ k = 7 ∨ k = 8 := by omega
      rcases this with rfl | rfl | rfl | rfl | rfl | rfl | rfl | rfl | rfl <;> decide
    have h1 : x * 2 ^ k ≤ 256 * 2 ^ k := Int.mul_le_mul_of_nonneg_right (by omega) (Int.le_of_lt (Int.pow_pos (by decide)))
    omega
  have q0 : IntKind.i64.wrap (x * 2 ^ k) = x * 2 ^ k := IntWalk.i64_in _ (by omega)
  have q2 : min k 64 = k := by omega
  go_enter Tryz.func29, Tryz.ntmps29
  go_wp2_with fail
  go_ret
  exact ⟨rfl, rfl⟩
end Go.Proofs.YtibpgcdaommjeaaGreatDoor.Wds
