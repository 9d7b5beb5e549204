/-
  The closed fact of the laws of fractions, and the law FracFloors: a fraction lies between its floor and one more.
-/
import Derived.Test.YtkjollifghmkbaaFracE
namespace Go.Proofs.Ytkjollifghmkbaa
open Go.RowKit

theorem floor_fact (w : World) : Calls Try.prog 74 #[.agg #[.int .i64 (-7), .int .i64 2]] w (GivesI (-4) 0 0 w) := floor_good (-7) 2 w (by decide)
theorem fvalid_one (k : Int) (h1 : -1073741824 ≤ k) (h2 : k ≤ 1073741824) : fvalid k 1 = true := by
  unfold fvalid; rw [decide_eq_true_iff]; exact ⟨by omega, by omega, h1, h2, by simp [mag]⟩
theorem fvalid_big (k : Int) (h : ¬ k ≤ 1073741824) : fvalid k 1 = false := (fvalid_no (by omega)).symm
end Go.Proofs.Ytkjollifghmkbaa
