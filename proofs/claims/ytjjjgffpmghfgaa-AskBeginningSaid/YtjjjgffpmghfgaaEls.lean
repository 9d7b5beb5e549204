/-
  Slices of structs that are handed in (an ask's names and nodes): what they are in memory, and how much they hold. Over any program.
-/
import Derived.Test.YtjjjgffpmghfgaaBas
import Derived.ProofKit
import Derived.Deep.Strs
import Derived.Lib.SmallJoins
namespace Go.Proofs.Ytjjjgffpmghfgaa
open Go.ChangeShapes Go.WideShapes Go.ChangeAt Go.RowKit Go.Joins Go.Deep

theorem bulk_nth {H : Type} {ds : List (DataW H)} {d : DataW H} (i : Nat) (h : ds[i]? = some d) : Rows.uptoBulk d ≤ Rows.uptoBulkAll ds := by
  induction ds generalizing i with
  | nil => simp at h
  | cons x r ih =>
    rw [Rows.uptoBulkAll]
    cases i with
    | zero => simp at h; subst h; omega
    | succ i => have := ih i (by simpa using h); omega
theorem bulk_ints {H : Type} (zs : List Int) : Rows.uptoBulkAll (lits (H := H) .i64 zs) = zs.length := by
  induction zs with
  | nil => rfl
  | cons z zs ih =>
    have : lits (H := H) .i64 (z :: zs) = .lit (.int .i64 z) :: lits .i64 zs := rfl
    have b1 : Rows.uptoBulk (DataW.lit (H := H) (.int .i64 z)) = 1 := by simp [Rows.uptoBulk]
    rw [this, Rows.uptoBulkAll, ih, b1, List.length_cons]
    omega
section
variable {H : Type} {enc : TypeId × Value → H} {P : Program} {W : World}
/-- A slice of whole numbers at any place. -/
theorem open_isP {t e : TypeId} (ht : P.underlying t = some (.slice e)) (he : P.underlying e = some (.int .i64)) (ce : P.cellsOf e = 1) {v : Value} {n : Nat} {y : DataW H × List MemPlace} (h : DataW.trod enc P W 0 (fun _ => true) true n t [v] = some y) :
    ∃ A c zs, v = .slice A (List.length zs) c ∧ zs.length ≤ c ∧ c ≤ maxLen ∧ Is W A zs ∧ (∀ x ∈ zs, (Lit.int .i64 x).wf = true) ∧ zs.length ≤ Rows.uptoBulk y.1 := by
  rcases open_ints ht he ce h with ⟨hcs, _⟩ | ⟨a, len, cap, zs, hcs, _, hl, hm, hz, hx, hcell, hw⟩
  · obtain rfl : v = .slice none 0 0 := by simpa using hcs
    exact ⟨none, 0, [], rfl, Nat.le_refl _, by unfold maxLen; omega, is_nil _ _, (fun x hx => absurd hx (by simp)), by simp⟩
  · obtain rfl : v = .slice (some a) len cap := by simpa using hcs
    simp only [if_true] at hz
    have hlen : (zs.take len).length = len := by rw [List.length_take]; omega
    refine ⟨some a, cap, zs.take len, by rw [hlen], by rw [hlen]; exact hl, hm, fun z => ?_, fun x hx => hw x (List.mem_of_mem_take hx), ?_⟩
    · rw [hlen] at z
      obtain ⟨b, off, spot⟩ := a
      have hspot : spot = none := by simpa [Addr.add] using World.cell?_spot (hcell 0 (by omega))
      subst hspot
      have hc : ∀ j, j < zs.length → W.cell? ⟨b, off + j, none⟩ = some (.int .i64 (zs.getD j 0)) := fun j hj => by rw [← add_plain]; exact hcell j hj
      refine ⟨b, off, rfl, World.block_lt_of_cell? W _ (hc 0 (by omega)), fun k hk => ?_⟩
      rw [hc k (by omega)]
      have : nth (zs.take len) k = zs.getD k 0 := nth_take (by omega)
      rw [this]
    · rw [hlen, hx, Rows.uptoBulk, bulk_ints, bulk_ints, List.length_take, List.length_drop]
      omega
/-- A slice of anything: what holds of each element that is read holds of each element. -/
theorem open_els {α : Type} [Inhabited α] {t e : TypeId} {k : Nat} (ht : P.underlying t = some (.slice e)) (ce : P.cellsOf e = k) (hk : 0 < k) (E : α → List Value → DataW H → Prop)
    (hE : ∀ (n : Nat) (cs : List Value) (y : DataW H × List MemPlace), cs.length = k → DataW.trod enc P W 0 (fun _ => true) true n e cs = some y → ∃ q, E q cs y.1)
    {fuel : Nat} {cs : List Value} {x : DataW H × List MemPlace} (h : DataW.trod enc P W 0 (fun _ => true) true fuel t cs = some x) :
    ∃ (A : Option Addr) (c : Nat) (qs : List α) (ds : List (DataW H)), cs = [.slice A qs.length c] ∧ qs.length ≤ c ∧ c ≤ maxLen ∧ ds.length = qs.length ∧ Rows.uptoBulkAll ds ≤ Rows.uptoBulk x.1 ∧
      (0 < qs.length → ∃ b o, A = some ⟨b, o, none⟩ ∧ b < W.heap.size ∧ ∀ (i : Nat) (q : α), qs[i]? = some q → ∃ vs d, ds[i]? = some d ∧ E q vs d ∧ vs.length = k ∧ ∀ (j : Nat) (v : Value), vs[j]? = some v → W.cell? ⟨b, o + i * k + j, none⟩ = some v) := by
  rcases DataW.trod_slice ht h with ⟨rfl, _⟩ | ⟨a, len, cap, elems, rest, n, rfl, rfl, hx0, _, hl, hm, hlen, hel, _, _⟩
  · exact ⟨none, 0, [], [], rfl, Nat.le_refl _, by unfold maxLen; omega, rfl, by simp [Rows.uptoBulkAll], fun z => absurd z (by simp)⟩
  · have each : ∀ i, i < len → ∃ q : α, ∃ vs y, elems[i]? = some y ∧ E q vs y.1 ∧ vs.length = k ∧ ∀ (j : Nat) (v : Value), vs[j]? = some v → W.cell? (a.add (i * k + j)) = some v := by
      intro i hi
      have hy : elems[i]? = some (elems[i]'(by omega)) := List.getElem?_eq_getElem (by omega)
      have hb := (hel i hi).trans hy
      rw [ce] at hb
      obtain ⟨cs', k1, k2⟩ := Option.bind_eq_some_iff.1 hb
      obtain ⟨_, hcl, hcc⟩ := World.cells?_some k1
      obtain ⟨q, hq⟩ := hE n cs' _ hcl k2
      refine ⟨q, cs', _, hy, hq, hcl, fun j v hj => ?_⟩
      have hjl : j < k := by
        rcases Nat.lt_or_ge j k with z | z
        · exact z
        · rw [List.getElem?_eq_none (by omega)] at hj; cases hj
      have d := hcc j hjl
      rw [Addr.add_add, hj] at d
      exact d
    obtain ⟨F, hF⟩ := choose_lt each
    refine ⟨some a, cap, (List.range len).map F, elems.map (·.1), by simp, by simpa using hl, hm, by simp [hlen], ?_, fun z => ?_⟩
    · rw [hx0]
      show _ ≤ Rows.uptoBulk (.slice (elems.map (·.1)) (rest.map (·.1)))
      rw [Rows.uptoBulk]
      omega
    · simp at z
      obtain ⟨b, off, spot⟩ := a
      obtain ⟨vs0, _, _, _, hv0, hc0⟩ := hF 0 z
      have hg : vs0[0]? = some (vs0[0]'(by omega)) := List.getElem?_eq_getElem (by omega)
      have z0 := hc0 0 _ hg
      have hspot : spot = none := by simpa [Addr.add] using World.cell?_spot z0
      subst hspot
      rw [add_plain] at z0
      refine ⟨b, off, rfl, World.block_lt_of_cell? W _ z0, fun i q hq => ?_⟩
      have hi : i < len := by
        rcases Nat.lt_or_ge i len with z | z
        · exact z
        · rw [List.getElem?_eq_none (by simpa using z)] at hq; cases hq
      have hqe : q = F i := by simpa [hi] using hq.symm
      subst hqe
      obtain ⟨vs, y, hy, g1, g2, g3⟩ := hF i hi
      refine ⟨vs, y.1, by rw [List.getElem?_map, hy]; rfl, g1, g2, fun j v hj => ?_⟩
      have := g3 j v hj
      rw [add_plain] at this
      rw [Nat.add_assoc]
      exact this
end
end Go.Proofs.Ytjjjgffpmghfgaa
