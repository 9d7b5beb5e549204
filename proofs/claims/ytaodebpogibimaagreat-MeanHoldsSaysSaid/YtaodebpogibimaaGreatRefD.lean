/-
  The reference: words: and, or, exclusive or, bit by bit.
-/
import Derived.Test.YtaodebpogibimaaGreatG10
import Derived.Test.YtaodebpogibimaaGreatG11
namespace Go.Proofs.YtaodebpogibimaaGreat
open Go.RowKit

theorem bit_is (x i : Nat) : x.testBit i = decide (x / 2 ^ i % 2 = 1) := by
  have : x / 2 ^ i % 2 = 0 ∨ x / 2 ^ i % 2 = 1 := by omega
  rcases this with h | h <;> simp [Nat.testBit, Nat.shiftRight_eq_div_pow, h]
theorem mod_bit (x i : Nat) : x % 2 ^ (i + 1) = x % 2 ^ i + (if x.testBit i then 2 ^ i else 0) := by
  rw [bit_is, Nat.pow_succ, Nat.mod_mul]
  have : x / 2 ^ i % 2 = 0 ∨ x / 2 ^ i % 2 = 1 := by omega
  rcases this with h | h <;> rw [h] <;> simp
theorem bit_at (a i : Nat) (ha : a < 2 ^ 8) : bits .and .i64 ((a : Int) / 2 ^ i) 1 = if a.testBit i then 1 else 0 := by
  have e : ((a : Int) / 2 ^ i) = ((a / 2 ^ i : Nat) : Int) := by push_cast; rfl
  have h1 := (bits_nat .i64 8 (by decide) (fun n h0 h1 => by rw [IntKind.wrap_i64]; omega) (a / 2 ^ i) 1 (Nat.lt_of_le_of_lt (Nat.div_le_self _ _) ha) (by decide)).1
  rw [e, show (1 : Int) = ((1 : Nat) : Int) from rfl, h1, Nat.and_one_is_mod, bit_is]
  have : a / 2 ^ i % 2 = 0 ∨ a / 2 ^ i % 2 = 1 := by omega
  rcases this with h | h <;> rw [h] <;> rfl
theorem wb_lt {z M : Int} {x : Nat} (hz : Wb z M) (h : (x : Int) < M) : ∃ k : Nat, z = k ∧ k ≤ 8 ∧ x < 2 ^ k := by
  rcases hz with ⟨rfl, rfl⟩ | ⟨rfl, rfl⟩ | ⟨rfl, rfl⟩ | ⟨rfl, rfl⟩ | ⟨rfl, rfl⟩ | ⟨rfl, rfl⟩ | ⟨rfl, rfl⟩ | ⟨rfl, rfl⟩
  · exact ⟨1, rfl, by omega, by omega⟩
  · exact ⟨2, rfl, by omega, by omega⟩
  · exact ⟨3, rfl, by omega, by omega⟩
  · exact ⟨4, rfl, by omega, by omega⟩
  · exact ⟨5, rfl, by omega, by omega⟩
  · exact ⟨6, rfl, by omega, by omega⟩
  · exact ⟨7, rfl, by omega, by omega⟩
  · exact ⟨8, rfl, by omega, by omega⟩
set_option maxHeartbeats 8000000 in
theorem wordop_and (z M : Int) (a b : Nat) (n : Int) (hz : Wb z M) (ha : (a : Int) < M) (hb : (b : Int) < M) (w : World) :
    Calls Tryz.prog 55 #[.int .i64 17, .int .i64 z, .int .i64 a, .int .i64 b, .int .i64 n] w fun e w' => e = .returned (.int .i64 ((a &&& b : Nat) : Int)) ∧ Below w.heap.size w w' := by
  obtain ⟨k, rfl, k8, ha2⟩ := wb_lt hz ha
  obtain ⟨k', hk', _, hb2⟩ := wb_lt hz hb
  obtain rfl : k' = k := by omega
  have p8 : 2 ^ k' ≤ 2 ^ 8 := Nat.pow_le_pow_right (by decide) k8
  have EA := Lib.hid (fun i => bit_at a i (by omega))
  have EB := Lib.hid (fun i => bit_at b i (by omega))
  have EM := Lib.hid (mod_bit (a &&& b))
  have ET : Hid (∀ i, (a &&& b).testBit i = and (a.testBit i) (b.testBit i)) := Lib.hid (fun i => Nat.testBit_and ..)
  have EL : a &&& b < 2 ^ k' := Nat.and_lt_two_pow _ hb2
  have ER := Lib.hid (fun i => Nat.lt_of_le_of_lt (Nat.mod_le (a &&& b) (2 ^ i)) (Nat.lt_of_lt_of_le EL p8))
  have EZ : Hid ((a &&& b) % 2 ^ k' = a &&& b) := Lib.hid (Nat.mod_eq_of_lt EL)
  have ha8 : (a : Int) < 256 := by omega
  have hb8 : (b : Int) < 256 := by omega
  clear EL p8 ha2 hb2 hk' ha hb
  generalize (a &&& b) = r at *
  have P8 : Hid (∀ i : Nat, i < k' → (2 : Int) ^ i ≤ 128) := Lib.hid (fun i hi => by
    have h : (2 : Nat) ^ i ≤ 2 ^ 7 := Nat.pow_le_pow_right (by decide) (by omega)
    exact_mod_cast h)
  rcases hz with ⟨h1, rfl⟩ | ⟨h1, rfl⟩ | ⟨h1, rfl⟩ | ⟨h1, rfl⟩ | ⟨h1, rfl⟩ | ⟨h1, rfl⟩ | ⟨h1, rfl⟩ | ⟨h1, rfl⟩
  all_goals
    rw [h1]
    go_enter Tryz.func55, Tryz.ntmps55
    go_wp2_with fail
    go_loopw [13, 14, 15, 16, 17] (fun o k _ _ _ wr => ∃ i : Nat, i ≤ k' ∧ k = .int .i64 i ∧ o = .int .i64 ((r % 2 ^ i : Nat) : Int) ∧ wr = w) (fun _ k _ _ _ _ => k' - (intOf k).toNat)
    case atStart => exact ⟨0, by omega, rfl, by rw [Nat.pow_zero, Nat.mod_one]; rfl, rfl⟩
    case round =>
      obtain ⟨i, hi, rfl, rfl, rfl⟩ := hrel
      by_cases hlt : i < k'
      · have t3 : decide ((i : Int) < (k' : Int)) = true := by simpa using hlt
        rw [h1] at t3
        have ea := EA.out i
        have eb := EB.out i
        have em := EM.out i
        have et := ET.out i
        have er := ER.out i
        have ep := P8.out i hlt
        cases ta : a.testBit i <;> cases tb : b.testBit i
        all_goals
          rw [ta] at ea et
          rw [tb] at eb et
          rw [et] at em
          first | rw [if_pos rfl] at ea | rw [if_neg Bool.false_ne_true] at ea
          first | rw [if_pos rfl] at eb | rw [if_neg Bool.false_ne_true] at eb
          clear et ta tb
          have em' : Hid (r % 2 ^ (i + 1) = _) := Lib.hid em
          clear em
          go_wp2_with fail
          go_round
          case rel =>
            refine ⟨i + 1, by omega, by go_num, ?_, trivial⟩
            rw [em'.out]
            first
              | (rw [if_neg (by decide), Nat.add_zero]; done)
              | (have q0 : (0 : Int) ≤ 2 ^ i := Int.pow_nonneg (by decide)
                 have er' : ((r % 2 ^ i : Nat) : Int) < 256 := by omega
                 have w0 : IntKind.i64.wrap ((2 : Int) ^ i) = 2 ^ i := IntWalk.i64_in _ (by omega)
                 have w1 : IntKind.i64.wrap (((r % 2 ^ i : Nat) : Int) + 2 ^ i) = ((r % 2 ^ i : Nat) : Int) + 2 ^ i := IntWalk.i64_in _ (by omega)
                 rw [if_pos (by decide)]
                 push_cast
                 push_cast at er'
                 have em0 : (0 : Int) ≤ (r : Int) % 2 ^ i := by exact_mod_cast Int.natCast_nonneg (r % 2 ^ i)
                 clear w0 w1 EA EB EM ET ER EZ P8
                 generalize (r : Int) % 2 ^ i = x at *
                 generalize (2 : Int) ^ i = y at *
                 have v0 : wrap64 y = y := by unfold wrap64; omega
                 have v1 : wrap64 (x + y) = x + y := by unfold wrap64; omega
                 rw [v0, v1])
          case measure => simp [intOf]; omega
      · obtain rfl : i = k' := by omega
        have t3 : decide ((i : Int) < (i : Int)) = false := by simp
        rw [EZ.out]
        rw [h1] at t3 ⊢
        go_wp2_with fail
        go_ret
        exact ⟨rfl, Below.refl _ _⟩
end Go.Proofs.YtaodebpogibimaaGreat
