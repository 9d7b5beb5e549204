/-
  What a row and a point that are handed in are in memory.
-/
import Derived.Test.YtkjollifghmkbaaRowF
import Derived.Test.YtkjollifghmkbaaRowK
import Derived.ProofKit
import Derived.Deep.Strs
import Derived.Deep.SlicePairs
import Derived.Lib.SmallJoins
namespace Go.Proofs.Ytkjollifghmkbaa
open Go.ChangeShapes Go.WideShapes Go.ChangeAt Go.RowKit Go.Joins Go.Deep

theorem Try.own : ownKnob Try.prog.godebug = none := by kernel_rfl
theorem Try.laidOut : laidOutB Try.prog = true := by kernel_rfl
theorem Try.cells3 : Try.prog.cellsOf 3 = 1 := by kernel_rfl
theorem Try.cells24 : Try.prog.cellsOf 24 = 3 := by kernel_rfl
theorem Try.cells27 : Try.prog.cellsOf 27 = 2 := by kernel_rfl
section
variable {H : Type} {enc : TypeId × Value → H} {W : World}
theorem open_isl {v : Value} {n : Nat} {y : DataW H × List MemPlace} (h : DataW.trod enc Try.prog W 0 (fun _ => true) true n 22 [v] = some y) :
    ∃ A c xs, v = .slice A xs.length c ∧ xs.length ≤ c ∧ c ≤ maxLen ∧ Is W A xs ∧ ∀ x ∈ xs, (Lit.int .i64 x).wf = true := by
  rcases open_ints Try.underlying22 Try.underlying3 Try.cells3 h with ⟨hcs, _⟩ | ⟨a, len, cap, zs, hcs, _, hl, hm, hz, _, hcell, hw⟩
  · obtain rfl : v = .slice none 0 0 := by simpa using hcs
    exact ⟨none, 0, [], rfl, Nat.le_refl _, by unfold maxLen; omega, fun z => absurd z (by simp), fun x hx => by cases hx⟩
  · obtain rfl : v = .slice (some a) len cap := by simpa using hcs
    simp only [if_true] at hz
    have hlen : (zs.take len).length = len := by rw [List.length_take]; omega
    refine ⟨some a, cap, zs.take len, by rw [hlen], by rw [hlen]; exact hl, hm, fun z => ?_, fun x hx => hw x (List.mem_of_mem_take hx)⟩
    rw [hlen] at z
    obtain ⟨b, off, spot⟩ := a
    have hspot : spot = none := by simpa [Addr.add] using World.cell?_spot (hcell 0 (by omega))
    subst hspot
    have hc : ∀ j, j < zs.length → W.cell? ⟨b, off + j, none⟩ = some (.int .i64 (zs.getD j 0)) := fun j hj => by rw [← add_plain]; exact hcell j hj
    refine ⟨b, off, rfl, World.block_lt_of_cell? W _ (hc 0 (by omega)), fun k hk => ?_⟩
    rw [hc k (by omega)]
    have : nth (zs.take len) k = zs.getD k 0 := nth_take (by omega)
    rw [this]
set_option maxRecDepth 100000 in
theorem open_row {base : Nat} {v : Value} {d : DataW H} {p : List MemPlace} (hval : Value.okWide Try.prog W .any base 24 v) (h : DataW.Trod enc Try.prog W 0 (fun _ => true) true 24 v d p) :
    ∃ A c kind tt xs, v = .agg #[.slice A xs.length c, .int .i64 kind, .int .i64 tt] ∧ xs.length ≤ c ∧ c ≤ maxLen ∧ Is W A xs ∧ (Lit.int .i64 kind).wf = true ∧ (Lit.int .i64 tt).wf = true ∧ ∀ x ∈ xs, (Lit.int .i64 x).wf = true := by
  obtain ⟨c0, c1, c2, y0, y1, y2, k, rfl, _, _, hy0, hy1, hy2⟩ := open_agg3 Try.underlying24 (by kernel_rfl) Try.cells24 hval h
  obtain ⟨kind, e1, _, w1⟩ := DataW.trod_int Try.underlying3 hy1
  obtain ⟨tt, e2, _, w2⟩ := DataW.trod_int Try.underlying3 hy2
  simp at e1 e2
  subst e1 e2
  obtain ⟨A, c, xs, rfl, h1, h2, h3, h4⟩ := open_isl hy0
  exact ⟨A, c, kind, tt, xs, rfl, h1, h2, h3, w1, w2, h4⟩
def numV (v : Value) : Int := match v with | .int _ n => n | _ => 0
set_option maxRecDepth 100000 in
theorem open_pt {v : Value} {d : DataW H} {p : List MemPlace} (hval : ∃ a0 len cap, v = .slice a0 len cap) (h : DataW.Trod enc Try.prog W 0 (fun _ => true) true 25 v d p) :
    ∃ A c ps, v = .slice A ps.length c ∧ ps.length ≤ c ∧ c ≤ maxLen ∧ Fs W A ps ∧ ∀ x ∈ ps, (Lit.int .i64 x.1).wf = true ∧ (Lit.int .i64 x.2).wf = true := by
  obtain ⟨a0, l0, c0, rfl⟩ := hval
  obtain ⟨fuel, hf⟩ := h
  rcases open_slice_pairs Try.underlying25 Try.underlying27 Try.cells27 rfl rfl (by kernel_rfl) (by kernel_rfl) hf with ⟨hcs, _⟩ | ⟨a, len, cap, m, n, V0, V1, D0, D1, P0, P1, hcs, _, hl, hm, hz, _, hx⟩
  · simp [Value.cells] at hcs
    obtain ⟨rfl, rfl, rfl⟩ := hcs
    exact ⟨none, 0, [], rfl, Nat.le_refl _, by unfold maxLen; omega, fun z => absurd z (by simp), fun x hx => by cases hx⟩
  · simp [Value.cells] at hcs
    obtain ⟨rfl, rfl, rfl⟩ := hcs
    simp only [if_true] at hz
    have hv : ∀ i, i < m → V0 i = .int .i64 (numV (V0 i)) ∧ V1 i = .int .i64 (numV (V1 i)) ∧ (Lit.int .i64 (numV (V0 i))).wf = true ∧ (Lit.int .i64 (numV (V1 i))).wf = true := fun i hi => by
      obtain ⟨_, _, g0, g1⟩ := hx i hi
      obtain ⟨x0, e0, _, w0⟩ := DataW.trod_int Try.underlying3 g0
      obtain ⟨x1, e1, _, w1⟩ := DataW.trod_int Try.underlying3 g1
      simp at e0 e1
      rw [e0, e1]
      exact ⟨rfl, rfl, w0, w1⟩
    have hlen : ((List.range l0).map fun i => (numV (V0 i), numV (V1 i))).length = l0 := by simp
    refine ⟨some a, c0, (List.range l0).map fun i => (numV (V0 i), numV (V1 i)), by rw [hlen], by rw [hlen]; exact hl, hm, fun z => ?_, fun x hx => ?_⟩
    · rw [hlen] at z
      obtain ⟨b, off, spot⟩ := a
      have hspot : spot = none := by simpa [Addr.add] using World.cell?_spot (hx 0 (by omega)).1
      subst hspot
      have h0 := (hx 0 (by omega)).1
      rw [add_plain] at h0
      refine ⟨b, off, rfl, World.block_lt_of_cell? W _ h0, fun k hk => ?_⟩
      rw [hlen] at hk
      obtain ⟨g0, g1, _⟩ := hx k (by omega)
      obtain ⟨q0, q1, _⟩ := hv k (by omega)
      have n0 : fnum ((List.range l0).map fun i => (numV (V0 i), numV (V1 i))) k = numV (V0 k) := by simp [fnum, List.getD, hk]
      have n1 : fden ((List.range l0).map fun i => (numV (V0 i), numV (V1 i))) k = numV (V1 k) := by simp [fden, List.getD, hk]
      rw [n0, n1, ← q0, ← q1]
      rw [add_plain] at g0 g1
      exact ⟨g0, by rw [Nat.add_assoc]; exact g1⟩
    · obtain ⟨i, hi, rfl⟩ := List.mem_map.1 hx
      have := hv i (by have := List.mem_range.1 hi; omega)
      exact ⟨this.2.2.1, this.2.2.2⟩
end
end Go.Proofs.Ytkjollifghmkbaa
