/-
  Asks that are made of raw numbers: what the maker has reads as nodes.
-/
import Derived.Test.YtcpeddogckillaaGreatG24
namespace Go.Proofs.YtcpeddogckillaaGreat
open Go.RowKit

theorem flat_at {ps : List (Nd × Value)} : ∀ {i j : Nat} {p : Nd × Value}, ps[i]? = some p → j < 5 → (ps.flatMap ndV)[i * 5 + j]? = (ndV p)[j]? := by
  induction ps with
  | nil => intro i j p h; cases h
  | cons q ps ih =>
    intro i j p h hj
    rw [List.flatMap_cons]
    have hl : (ndV q).length = 5 := rfl
    cases i with
    | zero =>
      simp at h
      subst h
      rw [Nat.zero_mul, Nat.zero_add, List.getElem?_append_left (by rw [hl]; exact hj)]
    | succ i =>
      simp at h
      rw [List.getElem?_append_right (by rw [hl]; omega), hl, show (i + 1) * 5 + j - 5 = i * 5 + j by omega]
      exact ih h hj
/-- What the maker has in memory reads as nodes. -/
theorem mk_ns {base g : Nat} {An : Option Addr} {nc : Nat} {sv : Value} {w : World} {ps : List (Nd × Value)} {ss : List Int} (h : Mk No base g (.slice An ps.length nc) sv w ps ss) : NsAt w An (ps.map (·.1)) ∧ ps.length ≤ nc := by
  obtain ⟨_, _, ho, _, hp⟩ := h
  rcases ho.2 with ⟨e, e2⟩ | ⟨b, cap, cur, e, hb, hh, hc, hm, hsz, htk⟩
  · refine ⟨fun z => ?_, by omega⟩
    rw [List.length_map] at z
    omega
  · injection e with e1 e2 e3
    subst e1 e3
    have hcell : ∀ i j (p : Nd × Value), ps[i]? = some p → j < 5 → w.cell? ⟨b, 0 + i * 5 + j, none⟩ = (ndV p)[j]? := by
      intro i j p hi hj
      have hlt : i < ps.length := by
        rcases Nat.lt_or_ge i ps.length with z | z
        · exact z
        · rw [List.getElem?_eq_none z] at hi; cases hi
      have := flat_at hi hj
      rw [← htk, List.getElem?_take_of_lt (by omega)] at this
      rw [Nat.zero_add, cell_of_row w b _ cur 39 (0, 0) hh, ← this]
      simp
    refine ⟨fun _ => ⟨b, 0, rfl, HB.lt hh, fun i q hq => ?_⟩, hc⟩
    rw [List.getElem?_map] at hq
    obtain ⟨p, hpi, rfl⟩ := Option.map_eq_some_iff.1 hq
    obtain ⟨h1, A, c, h2, h3, h4, h5⟩ := hp p (List.mem_of_getElem? hpi)
    have hk : Is w A p.1.kids := Kat.is (X := MbY No g (.slice (some ⟨b, 0, none⟩) ps.length nc) sv) (c := c) ⟨A, c, rfl, h3, h4, h5⟩
    exact ⟨hcell i 0 p hpi (by decide), hcell i 2 p hpi (by decide), hcell i 3 p hpi (by decide), hcell i 4 p hpi (by decide), h1, A, c, by rw [← h2]; exact hcell i 1 p hpi (by decide), h3, h4, hk⟩
end Go.Proofs.YtcpeddogckillaaGreat
