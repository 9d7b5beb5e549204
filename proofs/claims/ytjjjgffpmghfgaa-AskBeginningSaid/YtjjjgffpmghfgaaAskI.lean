/-
  Asks: the name and the numbers of a node.
-/
import Derived.Test.YtjjjgffpmghfgaaAskH
namespace Go.Proofs.Ytjjjgffpmghfgaa
open Go.RowKit

/-- What is wrong with the name and the numbers of a node. -/
def flC (op n d : Int) (e : Bool) : Int :=
  if e = false ∧ op ≠ 9 then 5 else if n ≠ 0 ∧ op ≠ 10 ∧ op ≠ 12 ∧ op ≠ 15 ∧ op ≠ 23 then 5 else if d ≠ 0 ∧ op ≠ 10 ∧ op ≠ 12 ∧ op ≠ 15 then 5 else
  if (op = 10 ∨ op = 12) ∧ isFr n d = false then 3 else if op = 15 ∧ ¬ (1 ≤ d ∧ d ≤ 8 ∧ 0 ≤ n ∧ n < 2 ^ d.toNat) then 3 else if op = 23 ∧ (n < 0 ∨ 8 < n) then 3 else 0
theorem tl_b (s : ByteArray) : s.toList.isEmpty = true ∨ s.toList.isEmpty = false := by cases s.toList.isEmpty <;> simp
end Go.Proofs.Ytjjjgffpmghfgaa
