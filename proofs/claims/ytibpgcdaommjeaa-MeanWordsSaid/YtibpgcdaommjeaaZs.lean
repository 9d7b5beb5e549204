/-
  Slices of whole numbers that are handed in, and how much they hold.
-/
import Derived.Test.YtibpgcdaommjeaaG00
import Derived.ProofKit
import Derived.Lib.SmallJoins
namespace Go.Proofs.Ytibpgcdaommjeaa
open Go.ChangeShapes Go.WideShapes Go.ChangeAt Go.RowKit Go.Joins

theorem Try.cellsInt : Try.prog.cellsOf 3 = 1 := by kernel_rfl
theorem bulk_lits {H : Type} (zs : List Int) : Rows.uptoBulkAll (lits (H := H) .i64 zs) = zs.length := by
  induction zs with
  | nil => rfl
  | cons z zs ih =>
    have : lits (H := H) .i64 (z :: zs) = .lit (.int .i64 z) :: lits .i64 zs := rfl
    have b1 : Rows.uptoBulk (DataW.lit (H := H) (.int .i64 z)) = 1 := by simp [Rows.uptoBulk]
    rw [this, Rows.uptoBulkAll, ih, b1, List.length_cons]
    omega
theorem open_zs {H : Type} {enc : TypeId × Value → H} {W : World} {v : Value} {d : DataW H} {p : List MemPlace} (hval : ∃ a0 len cap, v = .slice a0 len cap) (h : DataW.Trod enc Try.prog W 0 (fun _ => true) true 22 v d p) :
    ∃ A c zs, v = .slice A (List.length zs) c ∧ zs.length ≤ c ∧ c ≤ maxLen ∧ Is W A zs ∧ zs.length ≤ Rows.uptoBulk d := by
  obtain ⟨a0, l0, c0, rfl⟩ := hval
  obtain ⟨fuel, hf⟩ := h
  have hf' : DataW.trod enc Try.prog W 0 (fun _ => true) true fuel 22 [.slice a0 l0 c0] = some (d, p) := by simpa [Value.cells] using hf
  rcases open_ints Try.underlying22 Try.underlying3 Try.cellsInt hf' with ⟨hcs, hx⟩ | ⟨a, len, cap, us, hcs, _, hl, hm, hz, hx, hcell, hw⟩
  · simp at hcs
    obtain ⟨rfl, rfl, rfl⟩ := hcs
    exact ⟨none, 0, [], rfl, Nat.le_refl _, by unfold maxLen; omega, is_nil _ _, by simp⟩
  · simp at hcs
    obtain ⟨rfl, rfl, rfl⟩ := hcs
    simp only [if_true] at hz
    simp only [Prod.mk.injEq] at hx
    have hlen : (us.take l0).length = l0 := by rw [List.length_take]; omega
    refine ⟨some a, c0, us.take l0, by rw [hlen], by rw [hlen]; exact hl, hm, fun z => ?_, ?_⟩
    · rw [hlen] at z
      obtain ⟨b, off, spot⟩ := a
      have hspot : spot = none := by simpa [Addr.add] using World.cell?_spot (hcell 0 (by omega))
      subst hspot
      have hc : ∀ j, j < us.length → W.cell? ⟨b, off + j, none⟩ = some (.int .i64 (us.getD j 0)) := fun j hj => by rw [← add_plain]; exact hcell j hj
      refine ⟨b, off, rfl, World.block_lt_of_cell? W _ (hc 0 (by omega)), fun k hk => ?_⟩
      rw [hc k (by omega)]
      have : nth (us.take l0) k = us.getD k 0 := nth_take (by omega)
      rw [this]
    · rw [hlen, hx.1, Rows.uptoBulk, bulk_lits, bulk_lits, List.length_take, List.length_drop]
      omega
end Go.Proofs.Ytibpgcdaommjeaa
