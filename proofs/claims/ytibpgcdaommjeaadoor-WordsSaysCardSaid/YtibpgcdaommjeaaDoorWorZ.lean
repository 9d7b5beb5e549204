/-
  Words: opening what is handed in; the table, out of the row's list.
-/
import Derived.Test.YtibpgcdaommjeaaDoorWorD
import Derived.Test.YtibpgcdaommjeaaDoorZs
import Derived.WalkKit
import Derived.ProofKit
import Derived.OpenShut
import Derived.Lib.LaidTab
import Derived.Lib.SmallJoins
namespace Go.Proofs.YtibpgcdaommjeaaDoor
open Go.ChangeShapes Go.WideShapes Go.ChangeAt Go.RowKit Go.Joins

theorem Tryd.own : ownKnob Tryd.prog.godebug = none := by kernel_rfl
theorem Tryd.laidOut : laidOutB Tryd.prog = true := by kernel_rfl
theorem gTab : Tryd.prog.globalNamed "umpirage/words.operands" = some 0 := by kernel_rfl
theorem gTabType : (Tryd.prog.globals[0]?).map (·.type) = some 54 := by kernel_rfl
theorem cellsTab : Tryd.prog.cellsOf 54 = 24 := by kernel_rfl
theorem tab_is {W : World} (h : laidMetH Tryd.prog [("umpirage/words.operands", Rows.laid_umpirage_words_operands)] W) : Lib.TabIs Tryd.prog W "umpirage/words.operands" .i64 [0, 0, 0, 0, 0, 0, 0, 0, 0, 0, 0, 0, 0, 0, 0, 0, 1, 2, 2, 2, 2, 2, 2, 1] :=
  Lib.tabIs_of_head (rest := []) gTab gTabType Tryd.underlying54 Tryd.underlying3 Tryd.cellsInt cellsTab h
theorem tab_laid {W : World} (h : laidMetH Tryd.prog [("umpirage/words.operands", Rows.laid_umpirage_words_operands)] W) : TabW W := by
  have ht := tab_is h
  have hc : ∀ k : Nat, 15 ≤ k → k ≤ 23 → W.cell? ⟨0, k, none⟩ = some (.int .i64 (arF k)) := fun k h1 h2 => by
    have := ht.cell gTab k (by simp; omega)
    rw [this]
    have : k = 15 ∨ k = 16 ∨ k = 17 ∨ k = 18 ∨ k = 19 ∨ k = 20 ∨ k = 21 ∨ k = 22 ∨ k = 23 := by omega
    rcases this with rfl | rfl | rfl | rfl | rfl | rfl | rfl | rfl | rfl <;> rfl
  exact ⟨World.block_lt_of_cell? W _ (hc 15 (by decide) (by decide)), hc⟩
end Go.Proofs.YtibpgcdaommjeaaDoor
