/-
  Words: De Morgan, sums bit by bit, the order.
-/
import Derived.Test.YtibpgcdaommjeaaGreatDoorWorK
namespace Go.Proofs.YtibpgcdaommjeaaGreatDoor.Wds
open Go.RowKit

theorem bits_xor_nat (a b : Nat) (ha : a < 2 ^ 8) (hb : b < 2 ^ 8) : bits .xor .i64 a b = ((a ^^^ b : Nat) : Int) := by
  have ha' : a % 2 ^ IntKind.i64.bits = a := Nat.mod_eq_of_lt (Nat.lt_of_lt_of_le ha (by decide))
  have hb' : b % 2 ^ IntKind.i64.bits = b := Nat.mod_eq_of_lt (Nat.lt_of_lt_of_le hb (by decide))
  have hx : a ^^^ b < 2 ^ 8 := Nat.xor_lt_two_pow ha hb
  simp only [bits, BitVec.ofInt_natCast, BitVec.toNat_xor, BitVec.toNat_ofNat, ha', hb']
  rw [IntKind.wrap_i64]
  omega
theorem not_vl {a k : Nat} (ha : a < 2 ^ k) : 2 ^ k - 1 - a = vl (fun j => !a.testBit j) k := by
  have := vl_not (fun j => a.testBit j) k
  rw [vl_of ha] at this
  omega
theorem morgan {a b k : Nat} (ha : a < 2 ^ k) (hb : b < 2 ^ k) : 2 ^ k - 1 - (a &&& b) = (2 ^ k - 1 - a) ||| (2 ^ k - 1 - b) := by
  have hp := Nat.two_pow_pos k
  rw [not_vl (Nat.lt_of_le_of_lt Nat.and_le_left ha), ← vl_or (2 ^ k - 1 - a) (2 ^ k - 1 - b) k (by omega) (by omega)]
  refine vl_congr (fun j hj => ?_)
  rw [not_vl ha, not_vl hb, bit_vl hj, bit_vl hj, Nat.testBit_and]
  cases a.testBit j <;> cases b.testBit j <;> rfl
theorem xor_two_and (a b : Nat → Bool) (n : Nat) : vl (fun j => a j != b j) n + 2 * vl (fun j => a j && b j) n = vl a n + vl b n := by
  induction n with
  | zero => rfl
  | succ n ih =>
    rw [vl, vl, vl, vl]
    revert ih
    generalize vl (fun j => a j != b j) n = x
    generalize vl (fun j => a j && b j) n = y
    cases a n <;> cases b n <;> simp <;> omega
theorem sum_bits {a b k : Nat} (ha : a < 2 ^ k) (hb : b < 2 ^ k) : (a ^^^ b) + 2 * (a &&& b) = a + b := by
  have := xor_two_and (fun j => a.testBit j) (fun j => b.testBit j) k
  rw [vl_xor a b k ha hb, vl_and a b k ha, vl_of ha, vl_of hb] at this
  exact this
section
variable {z M : Int} {k a b : Nat} (h : Wb z M) (hM : M = ((2 ^ k : Nat) : Int)) (hk : k ≤ 8) (ha : a < 2 ^ k) (hb : b < 2 ^ k)
include h hM hk ha hb
theorem tw_and : twF 17 z M a b = ((a &&& b : Nat) : Int) := by
  have h8 : 2 ^ k ≤ 2 ^ 8 := Nat.pow_le_pow_right (by decide) hk
  have e := (bits_nat .i64 8 (by decide) (fun n h0 h1 => by rw [IntKind.wrap_i64]; omega) a b (by omega) (by omega)).1
  have l := Nat.and_lt_two_pow a hb
  rw [tw_ok h (by omega) (by omega) (by omega) (by omega) (by omega), show rawF 17 [(a : Int), (b : Int)] 0 = bits .and .i64 a b from rfl, e, hM]
  exact_mod_cast Nat.mod_eq_of_lt l
theorem tw_or : twF 18 z M a b = ((a ||| b : Nat) : Int) := by
  have h8 : 2 ^ k ≤ 2 ^ 8 := Nat.pow_le_pow_right (by decide) hk
  have e := (bits_nat .i64 8 (by decide) (fun n h0 h1 => by rw [IntKind.wrap_i64]; omega) a b (by omega) (by omega)).2
  have l := Nat.or_lt_two_pow ha hb
  rw [tw_ok h (by omega) (by omega) (by omega) (by omega) (by omega), show rawF 18 [(a : Int), (b : Int)] 0 = bits .or .i64 a b from rfl, e, hM]
  exact_mod_cast Nat.mod_eq_of_lt l
theorem tw_xor : twF 19 z M a b = ((a ^^^ b : Nat) : Int) := by
  have h8 : 2 ^ k ≤ 2 ^ 8 := Nat.pow_le_pow_right (by decide) hk
  have e := bits_xor_nat a b (by omega) (by omega)
  have l := Nat.xor_lt_two_pow ha hb
  rw [tw_ok h (by omega) (by omega) (by omega) (by omega) (by omega), show rawF 19 [(a : Int), (b : Int)] 0 = bits .xor .i64 a b from rfl, e, hM]
  exact_mod_cast Nat.mod_eq_of_lt l
theorem tw_less : twF 22 z M a b = if a < b then 1 else 0 := by
  have hr := wb_rng h
  have _ := hk
  rw [tw_ok h (by omega) (by omega) (by omega) (by omega) (by omega), show rawF 22 [(a : Int), (b : Int)] 0 = ltI a b from rfl]
  unfold ltI
  by_cases c : a < b
  · rw [if_pos c, if_pos (by omega), Int.emod_eq_of_lt (by omega) (by omega)]
  · rw [if_neg c, if_neg (by omega), Int.zero_emod]
theorem logic_ok : doR 16 z M [twF 17 z M a b] 0 = twF 18 z M (doR 16 z M [(a : Int)] 0) (doR 16 z M [(b : Int)] 0) ∧ twF 20 z M a b = twF 20 z M (twF 19 z M a b) (doR 23 z M [twF 17 z M a b] 1) ∧
    wfC 16 z M [twF 17 z M a b] 0 = 0 ∧ wfA 16 z M [twF 17 z M a b] = 0 ∧ wfC 23 z M [twF 17 z M a b] 1 = 0 ∧ wfA 23 z M [twF 17 z M a b] = 0 := by
  have hp := Nat.two_pow_pos k
  have l1 : a &&& b < 2 ^ k := Nat.and_lt_two_pow a hb
  have l3 : a ^^^ b < 2 ^ k := Nat.xor_lt_two_pow ha hb
  have m2 := (wb_rng h).2.2.1
  rw [tw_and h hM hk ha hb, tw_xor h hM hk ha hb, not_ok h (by omega) (by omega), not_ok h (by omega) (by omega), not_ok h (by omega) (by omega), left_ok h (by omega) (by omega)]
  have wa := wf_one (n := 0) h (.inl ⟨rfl, rfl⟩) (a := ((a &&& b : Nat) : Int)) (by omega) (by omega)
  have wb := wf_one (n := 1) h (.inr ⟨rfl, by omega, by omega⟩) (a := ((a &&& b : Nat) : Int)) (by omega) (by omega)
  refine ⟨?_, ?_, wa.1, wa.2, wb.1, wb.2⟩
  · have e1 : M - 1 - (a : Int) = ((2 ^ k - 1 - a : Nat) : Int) := by omega
    have e2 : M - 1 - (b : Int) = ((2 ^ k - 1 - b : Nat) : Int) := by omega
    rw [e1, e2, tw_or h hM hk (by omega) (by omega), ← morgan ha hb]
    omega
  · have mr := mod_rng m2 ((a &&& b : Nat) * 2 : Int)
    rw [tw_add h (by omega) (by omega) (by omega) (by omega), tw_add h (by omega) (by omega) mr.1 mr.2, Int.add_emod_emod]
    have := sum_bits ha hb
    congr 1
    omega
end
end Go.Proofs.YtibpgcdaommjeaaGreatDoor.Wds
