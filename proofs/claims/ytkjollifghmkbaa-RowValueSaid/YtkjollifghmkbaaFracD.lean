/-
  The contracts of frac's Add, Sub, Times, Over, Less and Floor, over whatever operands.
-/
import Derived.Test.YtkjollifghmkbaaFracC
namespace Go.Proofs.Ytkjollifghmkbaa
open Go.RowKit

theorem lt_two (n : Nat) : n < n + 1 + 1 := by omega
theorem mul_bd (x y : Int) (a : -1073741824 ≤ x) (b : x ≤ 1073741824) (c : -1073741824 ≤ y) (d : y ≤ 1073741824) : -1152921504606846976 ≤ x * y ∧ x * y ≤ 1152921504606846976 := by
  have h : (x * y).natAbs ≤ 1073741824 * 1073741824 := by
    rw [Int.natAbs_mul]; exact Nat.mul_le_mul (by omega) (by omega)
  omega
theorem fvalid_bd {n d : Int} (h : fvalid n d = true) : 1 ≤ d ∧ d ≤ 1073741824 ∧ -1073741824 ≤ n ∧ n ≤ 1073741824 ∧ Nat.gcd (mag n) (mag d) = 1 := by
  unfold fvalid at h; exact of_decide_eq_true h

end Go.Proofs.Ytkjollifghmkbaa
