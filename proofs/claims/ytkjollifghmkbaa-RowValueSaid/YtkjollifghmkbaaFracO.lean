/-
  The law FracOrder walked: Less is an order that is along with sums and with products by what is above 0.
-/
import Derived.Test.YtkjollifghmkbaaFracF
import Derived.Deep.DeepCutAuto
import Derived.Lib.Hide
namespace Go.Proofs.Ytkjollifghmkbaa
open Go.RowKit

theorem bsix {A w : World} (hb : Below A.heap.size A w) : (∀ b o, b < A.heap.size → w.cell? ⟨b, o, none⟩ = A.cell? ⟨b, o, none⟩) ∧ (∀ b o, b < A.heap.size → w.frozen? ⟨b, o, none⟩ = A.frozen? ⟨b, o, none⟩) ∧ (∀ b, b < A.heap.size → b < w.heap.size) ∧ (∀ b, b < A.heap.size → b < w.heap.size + 1) ∧ (∀ b, b < A.heap.size → b < w.heap.size + 1 + 1) ∧ (∀ b, b < A.heap.size → b < w.heap.size + 1 + 1 + 1) :=
  ⟨(bcell hb).1, (bcell hb).2, fun _ h => Nat.lt_of_lt_of_le h hb.size, fun _ h => Nat.lt_succ_of_lt (Nat.lt_of_lt_of_le h hb.size), fun _ h => Nat.lt_succ_of_lt (Nat.lt_succ_of_lt (Nat.lt_of_lt_of_le h hb.size)), fun _ h => Nat.lt_succ_of_lt (Nat.lt_succ_of_lt (Nat.lt_succ_of_lt (Nat.lt_of_lt_of_le h hb.size)))⟩

end Go.Proofs.Ytkjollifghmkbaa
