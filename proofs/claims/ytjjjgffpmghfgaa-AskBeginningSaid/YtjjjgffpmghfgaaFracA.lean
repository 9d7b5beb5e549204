/-
  The contracts of frac's small functions: divisor is the greatest common divisor, size is the magnitude, valid tells whether a fraction is in lowest terms and within the bounds.
-/
import Derived.Test.YtjjjgffpmghfgaaRows
import Derived.WalkKit
import Derived.WalkSpells
import Derived.WalkLawsBesides
import Derived.Handy
import Derived.Deep.QuietTactic
import Derived.BigQuiet
import Derived.IntWalk
namespace Go.Proofs.Ytjjjgffpmghfgaa
open Go.RowKit

theorem gcd_step (p q : Nat) : Nat.gcd q (p % q) = Nat.gcd p q := by
  rw [Nat.gcd_comm q (p % q), ← Nat.gcd_rec, Nat.gcd_comm]

set_option maxHeartbeats 400000 in
theorem divisor_any (a b : Nat) (ha : a ≤ 18446744073709551615) (hb : b ≤ 18446744073709551615) (w : World) :
    Calls Try.prog 126 #[.int .u64 a, .int .u64 b] w fun e w' => e = .returned (.int .u64 (Nat.gcd a b : Nat)) ∧ ∃ n, w' = w.drewN n := by
  go_enter Try.func126, Try.ntmps126
  go_wp2
  go_loopw [0, 1] (fun x y wr => ∃ p q n : Nat, p ≤ 18446744073709551615 ∧ q ≤ 18446744073709551615 ∧ x = .int .u64 p ∧ y = .int .u64 q ∧ Nat.gcd p q = Nat.gcd a b ∧ wr = w.drewN n) (fun _ y _ => (intOf y).toNat)
  case atStart => exact ⟨a, b, 0, ha, hb, rfl, rfl, rfl, rfl⟩
  case round =>
    obtain ⟨p, q, n, hp, hq, rfl, rfl, hg, rfl⟩ := hrel
    have hs := gcd_step p q
    have HG : Hid (Nat.gcd p q = Nat.gcd a b) := hg
    have HS : Hid (Nat.gcd q (p % q) = Nat.gcd p q) := hs
    clear hg hs
    by_cases hz : 0 < q
    · have hm : p % q < q := Nat.mod_lt _ hz
      go_wp2
      go_quiet (fail)
      go_wp2
      go_roundw
      case rel => exact ⟨q, p % q, _, hq, by omega, rfl, by go_num, HS.out.trans HG.out, World.drewN_drewN _ _ _⟩
      case measure => simp [intOf]; omega
    · obtain rfl : q = 0 := by omega
      go_wp2
      go_ret
      have e := HG.out
      rw [Nat.gcd_zero_right] at e
      exact ⟨by rw [e]; rfl, n, rfl⟩

theorem below_drewN {B : Nat} {a w : World} (h : Below B a w) (n : Nat) : Below B a (w.drewN n) := ⟨h.os, h.tape, h.output, h.size, h.block⟩
def mag (n : Int) : Nat := n.natAbs
theorem mag_le (n : Int) (h1 : -9223372036854775808 ≤ n) (h2 : n ≤ 9223372036854775807) : mag n ≤ 18446744073709551615 := by unfold mag; omega
theorem size_neg (n : Int) (h1 : -9223372036854775808 ≤ n) (h : n < 0) : IntKind.u64.wrap (-IntKind.u64.wrap n) = (mag n : Int) := by
  have e1 : IntKind.u64.wrap n = n + 18446744073709551616 := by rw [IntKind.wrap_u64]; omega
  rw [e1, IntKind.wrap_u64]; unfold mag; omega
theorem size_pos (n : Int) (h : 0 ≤ n) : n = (mag n : Int) := by unfold mag; omega
theorem ret_int {k : IntKind} {a b : Int} (h : a = b) : Ending.returned (.int k a) = .returned (.int k b) := by rw [h]
theorem ret_bool {a b : Bool} (h : a = b) : Ending.returned (.bool a) = .returned (.bool b) := by rw [h]
set_option maxHeartbeats 400000 in
theorem size_any (n : Int) (h1 : -9223372036854775808 ≤ n) (h2 : n ≤ 9223372036854775807) (w : World) :
    Calls Try.prog 127 #[.int .i64 n] w fun e w' => e = .returned (.int .u64 (mag n : Nat)) ∧ w = w' := by
  by_cases h : n < 0
  · go_enter Try.func127, Try.ntmps127
    go_wp2
    go_ret
    exact ⟨ret_int (size_neg n h1 h), rfl⟩
  · go_enter Try.func127, Try.ntmps127
    go_wp2
    go_ret
    exact ⟨ret_int (size_pos n (by omega)), rfl⟩

def fvalid (n d : Int) : Bool := decide (1 ≤ d ∧ d ≤ 1073741824 ∧ -1073741824 ≤ n ∧ n ≤ 1073741824 ∧ Nat.gcd (mag n) (mag d) = 1)
theorem fvalid_no {n d : Int} (h : ¬ (1 ≤ d ∧ d ≤ 1073741824 ∧ -1073741824 ≤ n ∧ n ≤ 1073741824)) : false = fvalid n d := by
  unfold fvalid; symm; rw [decide_eq_false_iff_not]; intro ⟨a, b, c, e, _⟩; exact h ⟨a, b, c, e⟩
theorem fvalid_yes {n d : Int} (h1 : 1 ≤ d) (h2 : d ≤ 1073741824) (h3 : -1073741824 ≤ n) (h4 : n ≤ 1073741824) : ((Nat.gcd (mag n) (mag d) : Int) == 1) = fvalid n d := by
  unfold fvalid; simp only [h1, h2, h3, h4, true_and]; rw [Bool.eq_iff_iff]; simp; omega

set_option maxHeartbeats 400000 in
theorem valid_any (n d : Int) (w : World) :
    Calls Try.prog 116 #[.agg #[.int .i64 n, .int .i64 d]] w fun e w' => e = .returned (.bool (fvalid n d)) ∧ Below w.heap.size w w' := by
  by_cases h1 : 1 ≤ d
  · by_cases h2 : d ≤ 1073741824
    · by_cases h3 : -1073741824 ≤ n
      · by_cases h4 : n ≤ 1073741824
        · have hm1 := mag_le n (by omega) (by omega)
          have hm2 := mag_le d (by omega) (by omega)
          go_enter Try.func116, Try.ntmps116
          go_wp2
          go_quiet ((first | (go_at_call 127; refine Calls.quiet_of_same ((size_any _ (by omega) (by omega) _).mono fun _ _ h => ⟨h.1, h.2.symm⟩)) | (go_at_call 126; exact Calls.quiet_of (divisor_any _ _ (by assumption) (by assumption) _))))
          go_wp2
          go_ret
          exact ⟨ret_bool (fvalid_yes h1 h2 h3 h4), below_drewN ((Below.refl _ _).alloc (Nat.le_refl _) _) _⟩
        · have hd : decide (n ≤ 1073741824) = false := by simpa using h4
          go_enter Try.func116, Try.ntmps116
          go_wp2
          go_quiet (fail)
          go_wp2
          go_ret
          exact ⟨ret_bool (fvalid_no (by omega)), below_drewN ((Below.refl _ _).alloc (Nat.le_refl _) _) _⟩
      · have hd : decide (-1073741824 ≤ n) = false := by simpa using h3
        go_enter Try.func116, Try.ntmps116
        go_wp2
        go_quiet (fail)
        go_wp2
        go_ret
        exact ⟨ret_bool (fvalid_no (by omega)), below_drewN ((Below.refl _ _).alloc (Nat.le_refl _) _) _⟩
    · have hd : decide (d ≤ 1073741824) = false := by simpa using h2
      go_enter Try.func116, Try.ntmps116
      go_wp2
      go_quiet (fail)
      go_wp2
      go_ret
      exact ⟨ret_bool (fvalid_no (by omega)), below_drewN ((Below.refl _ _).alloc (Nat.le_refl _) _) _⟩
  · have hd : decide (1 ≤ d) = false := by simpa using h1
    go_enter Try.func116, Try.ntmps116
    go_wp2
    go_quiet (fail)
    go_wp2
    go_ret
    exact ⟨ret_bool (fvalid_no (by omega)), below_drewN ((Below.refl _ _).alloc (Nat.le_refl _) _) _⟩
end Go.Proofs.Ytjjjgffpmghfgaa
