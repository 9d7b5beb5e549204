/-
  Words: mathematics of bits.
-/
import Derived.Test.YtibpgcdaommjeaaGreatDoorG00
import Derived.Laws.BitsLemmas
namespace Go.Proofs.YtibpgcdaommjeaaGreatDoor.Wds
open Go.RowKit

theorem bit_is (x i : Nat) : x.testBit i = decide (x / 2 ^ i % 2 = 1) := by
  have : x / 2 ^ i % 2 = 0 ∨ x / 2 ^ i % 2 = 1 := by omega
  rcases this with h | h <;> simp [Nat.testBit, Nat.shiftRight_eq_div_pow, h]
theorem mod_bit (x i : Nat) : x % 2 ^ (i + 1) = x % 2 ^ i + (if x.testBit i then 2 ^ i else 0) := by
  rw [bit_is, Nat.pow_succ, Nat.mod_mul]
  have : x / 2 ^ i % 2 = 0 ∨ x / 2 ^ i % 2 = 1 := by omega
  rcases this with h | h <;> rw [h] <;> simp
/-- What n bits are worth. -/
def vl (b : Nat → Bool) : Nat → Nat
  | 0 => 0
  | n + 1 => vl b n + (if b n then 2 ^ n else 0)
theorem vl_lt (b : Nat → Bool) (n : Nat) : vl b n < 2 ^ n := by
  induction n with
  | zero => simp [vl]
  | succ n ih =>
    unfold vl
    rw [Nat.pow_succ]
    split <;> omega
theorem vl_congr {a b : Nat → Bool} {n : Nat} (h : ∀ k, k < n → a k = b k) : vl a n = vl b n := by
  induction n with
  | zero => rfl
  | succ n ih =>
    unfold vl
    rw [ih (fun k hk => h k (by omega)), h n (by omega)]
theorem vl_bits (w n : Nat) : vl (fun k => w.testBit k) n = w % 2 ^ n := by
  induction n with
  | zero => simp [vl, Nat.mod_one]
  | succ n ih =>
    unfold vl
    rw [ih, mod_bit]
theorem vl_of {w n : Nat} (h : w < 2 ^ n) : vl (fun k => w.testBit k) n = w := by rw [vl_bits, Nat.mod_eq_of_lt h]
theorem bit_vl {b : Nat → Bool} {n i : Nat} (h : i < n) : (vl b n).testBit i = b i := by
  induction n with
  | zero => omega
  | succ n ih =>
    unfold vl
    have hl := vl_lt b n
    have e : (vl b n + if b n then 2 ^ n else 0) = 2 ^ n * (if b n then 1 else 0) + vl b n := by
      split <;> omega
    rw [e, Nat.testBit_two_pow_mul_add _ hl]
    by_cases z : i < n
    · rw [if_pos z, ih z]
    · obtain rfl : i = n := by omega
      rw [if_neg z, Nat.sub_self]
      cases b i <;> rfl
/-- What is carried, and the bits of a sum. -/
def cy (a b : Nat → Bool) : Nat → Bool
  | 0 => false
  | n + 1 => (a n && b n) || (a n && cy a b n) || (b n && cy a b n)
def sm (a b : Nat → Bool) (k : Nat) : Bool := (a k != b k) != cy a b k
theorem vl_cy (a b : Nat → Bool) (n : Nat) : vl (sm a b) n + (if cy a b n then 2 ^ n else 0) = vl a n + vl b n := by
  induction n with
  | zero => simp [vl, cy]
  | succ n ih =>
    show (vl (sm a b) n + (if ((a n != b n) != cy a b n) then 2 ^ n else 0)) + (if ((a n && b n) || (a n && cy a b n) || (b n && cy a b n)) then 2 ^ (n + 1) else 0) = (vl a n + (if a n then 2 ^ n else 0)) + (vl b n + (if b n then 2 ^ n else 0))
    rw [Nat.pow_succ]
    have := Nat.two_pow_pos n
    revert ih
    generalize vl (sm a b) n = s
    generalize vl a n = x
    generalize vl b n = y
    cases a n <;> cases b n <;> cases cy a b n <;> simp <;> omega
theorem vl_sm (a b : Nat → Bool) (n : Nat) : vl (sm a b) n = (vl a n + vl b n) % 2 ^ n := by
  have h := vl_cy a b n
  have hl := vl_lt (sm a b) n
  by_cases c : cy a b n = true
  · rw [if_pos c] at h
    rw [← h, Nat.add_mod_right, Nat.mod_eq_of_lt hl]
  · rw [if_neg c] at h
    rw [← h, Nat.add_zero, Nat.mod_eq_of_lt hl]
/-- Moved by one. -/
def lf (a : Nat → Bool) (k : Nat) : Bool := if k = 0 then false else a (k - 1)
theorem vl_lf1 (a : Nat → Bool) (n : Nat) : vl (lf a) (n + 1) = 2 * vl a n := by
  induction n with
  | zero => simp [vl, lf]
  | succ n ih =>
    rw [vl, ih, vl]
    rw [show lf a (n + 1) = a n by simp [lf], Nat.pow_succ]
    split <;> omega
theorem vl_lf (a : Nat → Bool) (n : Nat) : vl (lf a) n = 2 * vl a n % 2 ^ n := by
  cases n with
  | zero => simp [vl]
  | succ n =>
    have hl := vl_lt a n
    rw [vl_lf1, vl, Nat.pow_succ]
    split
    · rw [Nat.mul_add, Nat.mul_comm (2 ^ n) 2, Nat.add_mod_right, Nat.mod_eq_of_lt (by omega)]
    · rw [Nat.add_zero, Nat.mod_eq_of_lt (by omega)]
/-- Moved by m. -/
def lfs (a : Nat → Bool) : Nat → Nat → Bool
  | 0 => a
  | m + 1 => lf (lfs a m)
theorem vl_lfs (a : Nat → Bool) (n m : Nat) : vl (lfs a m) n = vl a n * 2 ^ m % 2 ^ n := by
  induction m with
  | zero => rw [lfs, Nat.pow_zero, Nat.mul_one, Nat.mod_eq_of_lt (vl_lt a n)]
  | succ m ih =>
    rw [lfs, vl_lf, ih, Nat.mul_mod, Nat.mod_mod, ← Nat.mul_mod, Nat.pow_succ, Nat.mul_comm 2, Nat.mul_assoc]
/-- A product after k rounds. -/
def tm (a b : Nat → Bool) : Nat → Nat → Bool
  | 0 => fun _ => false
  | k + 1 => if a k then sm (tm a b k) (lfs b k) else tm a b k
theorem vl_none (n : Nat) : vl (fun _ => false) n = 0 := by
  induction n with
  | zero => rfl
  | succ n ih => simp [vl, ih]
theorem vl_tm (a b : Nat → Bool) (n k : Nat) : vl (tm a b k) n = vl a k * vl b n % 2 ^ n := by
  induction k with
  | zero => rw [tm, vl_none, vl, Nat.zero_mul, Nat.zero_mod]
  | succ k ih =>
    rw [tm, vl]
    cases a k with
    | true => rw [if_pos rfl, if_pos rfl, vl_sm, ih, vl_lfs, ← Nat.add_mod, Nat.add_mul, Nat.mul_comm (2 ^ k)]
    | false => rw [if_neg (by decide), if_neg (by decide), ih, Nat.add_zero]
theorem vl_not (a : Nat → Bool) (n : Nat) : vl (fun k => !a k) n + vl a n + 1 = 2 ^ n := by
  induction n with
  | zero => simp [vl]
  | succ n ih =>
    unfold vl
    rw [Nat.pow_succ]
    cases a n <;> simp <;> omega
theorem vl_and (x y n : Nat) (hx : x < 2 ^ n) : vl (fun k => x.testBit k && y.testBit k) n = x &&& y := by
  rw [show (fun k => x.testBit k && y.testBit k) = fun k => (x &&& y).testBit k from funext fun k => (Nat.testBit_and ..).symm]
  exact vl_of (Nat.lt_of_le_of_lt Nat.and_le_left hx)
theorem vl_or (x y n : Nat) (hx : x < 2 ^ n) (hy : y < 2 ^ n) : vl (fun k => x.testBit k || y.testBit k) n = x ||| y := by
  rw [show (fun k => x.testBit k || y.testBit k) = fun k => (x ||| y).testBit k from funext fun k => (Nat.testBit_or ..).symm]
  exact vl_of (Nat.or_lt_two_pow hx hy)
theorem vl_xor (x y n : Nat) (hx : x < 2 ^ n) (hy : y < 2 ^ n) : vl (fun k => x.testBit k != y.testBit k) n = x ^^^ y := by
  rw [show (fun k => x.testBit k != y.testBit k) = fun k => (x ^^^ y).testBit k from funext fun k => by rw [Nat.testBit_xor]]
  exact vl_of (Nat.xor_lt_two_pow hx hy)
/-- Is the first less, seen from the top? -/
theorem vl_top {a b : Nat → Bool} {n k : Nat} (hk : k < n) (h : ∀ j, k < j → j < n → a j = b j) (hd : a k ≠ b k) : decide (vl a n < vl b n) = b k := by
  induction n with
  | zero => omega
  | succ n ih =>
    unfold vl
    by_cases z : k = n
    · subst z
      have h1 := vl_lt a k
      have h2 := vl_lt b k
      cases ha : a k <;> cases hb : b k <;> simp_all <;> omega
    · rw [h n (by omega) (by omega), ← ih (by omega) (fun j h1 h2 => h j h1 (by omega))]
      by_cases y : vl a n < vl b n
      · rw [decide_eq_true y, decide_eq_true (by omega)]
      · rw [decide_eq_false y, decide_eq_false (by omega)]
/-- The low bits of a whole number. -/
theorem and_mask (x : Int) (k : Nat) (hk : k ≤ 8) : bits .and .i64 x ((2 : Int) ^ k - 1) = x % 2 ^ k := by
  have hp : (2 : Nat) ^ k ≤ 2 ^ 8 := Nat.pow_le_pow_right (by decide) hk
  have hq := Nat.two_pow_pos k
  have h1 : (2 : Int) ^ k - 1 = ((2 ^ k - 1 : Nat) : Int) := by
    rw [Int.natCast_sub hq]; push_cast; rfl
  have h127 : (BitVec.ofInt 64 ((2 : Int) ^ k - 1)).toNat = 2 ^ k - 1 := by
    rw [h1, BitVec.ofInt_natCast, BitVec.toNat_ofNat, Nat.mod_eq_of_lt (by omega)]
  have key : (BitVec.ofInt 64 x &&& BitVec.ofInt 64 ((2 : Int) ^ k - 1)).toNat = (x % ((2 ^ 64 : Nat) : Int)).toNat % 2 ^ k := by
    rw [BitVec.toNat_and, BitVec.toNat_ofInt, h127, Nat.and_two_pow_sub_one_eq_mod]
  show IntKind.i64.wrap ((BitVec.ofInt 64 x &&& BitVec.ofInt 64 ((2 : Int) ^ k - 1)).toNat : Nat) = x % 2 ^ k
  have hz : 0 ≤ x % ((2 ^ 64 : Nat) : Int) := Int.emod_nonneg _ (by decide)
  have e2 : (((x % ((2 ^ 64 : Nat) : Int)).toNat % 2 ^ k : Nat) : Int) = x % 2 ^ k := by
    rw [Int.natCast_emod, Int.toNat_of_nonneg hz]
    rw [show ((2 : Int) ^ k) = ((2 ^ k : Nat) : Int) by push_cast; rfl]
    exact Int.emod_emod_of_dvd x (Int.natCast_dvd_natCast.2 (Nat.pow_dvd_pow 2 (by omega)))
  have hb := Int.emod_lt_of_pos x (b := 2 ^ k) (Int.pow_pos (by decide))
  have hb0 := Int.emod_nonneg x (b := 2 ^ k) (Int.ne_of_gt (Int.pow_pos (by decide)))
  have hp' : (2 : Int) ^ k ≤ 2 ^ 8 := by exact_mod_cast hp
  rw [key, e2, IntKind.wrap_i64]
  omega
end Go.Proofs.YtibpgcdaommjeaaGreatDoor.Wds
