/-
  Words: slices of bools that are handed in.
-/
import Derived.Test.YtibpgcdaommjeaaDoorWorZ
import Derived.Deep.Grids
namespace Go.Proofs.YtibpgcdaommjeaaDoor
open Go.ChangeShapes Go.WideShapes Go.ChangeAt Go.RowKit Go.Joins

theorem Tryd.cellsBool : Tryd.prog.cellsOf 4 = 1 := by kernel_rfl
theorem open_bs {H : Type} {enc : TypeId × Value → H} {W : World} {v : Value} {d : DataW H} {p : List MemPlace} (hval : ∃ a0 len cap, v = .slice a0 len cap) (h : DataW.Trod enc Tryd.prog W 0 (fun _ => true) true 31 v d p) :
    ∃ A l c b, v = .slice A l c ∧ l ≤ c ∧ c ≤ maxLen ∧ Bs W A b l := by
  obtain ⟨a0, l0, c0, rfl⟩ := hval
  obtain ⟨fuel, hf⟩ := h
  have hf' : DataW.trod enc Tryd.prog W 0 (fun _ => true) true fuel 31 [.slice a0 l0 c0] = some (d, p) := by simpa [Value.cells] using hf
  rcases Go.Deep.open_bools Tryd.underlying31 Tryd.underlying4 Tryd.cellsBool hf' with ⟨hcs, _⟩ | ⟨a, len, cap, B, hcs, _, hl, hm, _, hcell⟩
  · simp at hcs
    obtain ⟨rfl, rfl, rfl⟩ := hcs
    exact ⟨none, 0, 0, fun _ => false, rfl, Nat.le_refl _, by unfold maxLen; omega, fun z => absurd z (by omega)⟩
  · simp at hcs
    obtain ⟨rfl, rfl, rfl⟩ := hcs
    refine ⟨some a, l0, c0, B, rfl, hl, hm, fun z => ?_⟩
    obtain ⟨g, off, spot⟩ := a
    have hspot : spot = none := by simpa [Addr.add] using World.cell?_spot (hcell 0 (by omega))
    subst hspot
    have hc : ∀ j, j < c0 → W.cell? ⟨g, off + j, none⟩ = some (.bool (B j)) := fun j hj => by rw [← add_plain]; exact hcell j hj
    exact ⟨g, off, rfl, World.block_lt_of_cell? W _ (hc 0 (by omega)), fun k hk => hc k (by omega)⟩
end Go.Proofs.YtibpgcdaommjeaaDoor
