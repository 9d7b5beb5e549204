/-
  Words: slices of bools that read as bits.
-/
import Derived.Test.YtibpgcdaommjeaaGreatDoorWorM
namespace Go.Proofs.YtibpgcdaommjeaaGreatDoor.Wds
open Go.RowKit

/-- A slice of Bools that reads as n bits. -/
def Bs (w : World) (A : Option Addr) (b : Nat → Bool) (n : Nat) : Prop := 0 < n → ∃ g o, A = some ⟨g, o, none⟩ ∧ g < w.heap.size ∧ ∀ k, k < n → w.cell? ⟨g, o + k, none⟩ = some (.bool (b k))
/-- Bools as values. -/
def boolV (b : Nat → Bool) (n : Nat) : List Value := (List.range n).map fun k => .bool (b k)
section
variable {w w' : World} {A : Option Addr} {b b' : Nat → Bool} {n k : Nat}
theorem Bs.below (h : Bs w A b n) (hb : Below w.heap.size w w') : Bs w' A b n := fun z => by
  obtain ⟨g, o, e, l, c⟩ := h z
  exact ⟨g, o, e, Nat.lt_of_lt_of_le l hb.size, fun j hj => (hb.cell (p := ⟨g, o + j, none⟩) l).trans (c j hj)⟩
theorem Bs.drewN (h : Bs w A b n) (m : Nat) : Bs (w.drewN m) A b n := h
theorem Bs.congr (h : Bs w A b n) (e : ∀ k, k < n → b k = b' k) : Bs w A b' n := fun z => by
  obtain ⟨g, o, e1, l, c⟩ := h z
  exact ⟨g, o, e1, l, fun j hj => by rw [← e j hj]; exact c j hj⟩
theorem Bs.take (h : Bs w A b n) (hk : k ≤ n) : Bs w A b k := fun z => by
  obtain ⟨g, o, e1, l, c⟩ := h (by omega)
  exact ⟨g, o, e1, l, fun j hj => c j (by omega)⟩
theorem Bs.at_ (h : Bs w A b n) (hk : k < n) : ∃ g o, A = some ⟨g, o, none⟩ ∧ g < w.heap.size ∧ w.cell? ⟨g, o + k, none⟩ = some (.bool (b k)) := by
  obtain ⟨g, o, e1, l, c⟩ := h (by omega)
  exact ⟨g, o, e1, l, c k hk⟩
theorem boolV_len (b : Nat → Bool) (n : Nat) : (boolV b n).length = n := by simp [boolV]
theorem boolV_snoc (b : Nat → Bool) (n : Nat) : boolV b (n + 1) = boolV b n ++ [.bool (b n)] := by simp [boolV, List.range_succ]
theorem boolV_get {b : Nat → Bool} {n k : Nat} (h : k < n) : (boolV b n)[k]? = some (.bool (b k)) := by simp [boolV, h]
theorem own_bs {base c : Nat} (h : w.ownsRow base 4 1 (.slice A n c) n (boolV b n)) : Bs w A b n ∧ n ≤ c := by
  rcases h.2 with ⟨h0, h1⟩ | ⟨g, cap, cur, h0, hb, hh, hc, _, hsz, htk⟩
  · injection h0 with _ h2 h3
    exact ⟨fun z => absurd z (by omega), by omega⟩
  · injection h0 with h0 _ h2
    refine ⟨fun z => ⟨g, 0, h0, HB.lt hh, fun k hk => ?_⟩, by omega⟩
    have e1 := boolV_get (b := b) hk
    rw [← htk, Nat.mul_one, List.getElem?_take_of_lt (by omega)] at e1
    rw [Nat.zero_add, cell_of_row w g k cur 4 (0, 0) hh]
    simpa using e1
end
/-- A block of Bools. -/
def BA (b : Nat → Bool) (n : Nat) : Array Value := (Array.range n).map fun k => .bool (b k)
def upv (b : Nat → Bool) (j : Nat) (v : Bool) : Nat → Bool := fun k => if k = j then v else b k
theorem BA_size (b : Nat → Bool) (n : Nat) : (BA b n).size = n := by simp [BA]
theorem BA_get {b : Nat → Bool} {n j : Nat} (h : j < n) : (BA b n)[j]? = some (.bool (b j)) := by simp [BA, h]
theorem BA_set (b : Nat → Bool) (n j : Nat) (v : Bool) : (BA b n).setIfInBounds j (.bool v) = BA (upv b j v) n := by
  apply Array.ext
  · simp [BA]
  · intro i h1 h2
    simp [BA] at h1
    simp [BA, upv, Array.getElem_setIfInBounds, h1]
    by_cases z : j = i
    · subst z; simp
    · have z' : ¬ i = j := fun y => z y.symm
      simp [z, z']
theorem BA_made (n : Nat) : madeCells #[.bool false] n = BA (fun _ => false) n := by
  apply Array.ext
  · simp [BA, madeCells]
  · intro i h1 h2
    simp [BA, madeCells, Nat.mod_one]
theorem info_bool : (Tryz.prog.info? 4).map (fun i => (i.zero, i.size, i.bytes)) = some (some (.bool false), 1, 1) := by kernel_rfl
theorem make_bools (n : Nat) (hn : n ≤ 1000000) (w : World) : (Instr.makeSlice 47 (.int .i64 n) (.int .i64 n)).run Tryz.prog w = .ok (.slice (some ⟨w.heap.size, 0, none⟩) n n) (w.alloc (.cells (BA (fun _ => false) n) 4)) := by
  obtain ⟨i0, hi0, hz0, hz1, hz2⟩ := info_parts info_bool
  have h := run_make (P := Tryz.prog) w 47 4 i0 (.bool false) Tryz.underlying47 hi0 hz0 .i64 .i64 (n : Int) (n : Int) (by omega) (by omega) (by rw [hz2]; omega) (by omega)
  rw [hz1] at h
  simp only [Int.toNat_natCast, Nat.mul_one] at h
  rw [h, ← BA_made]
  rfl
theorem ba_cell {w : World} {g n : Nat} {b : Nat → Bool} (h : HB w g 4 (BA b n)) {j : Nat} (hj : j < n) : w.cell? ⟨g, j, none⟩ = some (.bool (b j)) ∧ w.frozen? ⟨g, j, none⟩ = false := ⟨(h.cell j).trans (BA_get hj), h.frozen j⟩
theorem ba_set {w : World} {g n : Nat} {b : Nat → Bool} (h : HB w g 4 (BA b n)) (j : Nat) (v : Bool) : HB (w.setCell ⟨g, j, none⟩ (.bool v)) g 4 (BA (upv b j v) n) := by rw [← BA_set]; exact h.set_ j _
theorem ba_bs {w : World} {g n : Nat} {b : Nat → Bool} (h : HB w g 4 (BA b n)) : Bs w (some ⟨g, 0, none⟩) b n := fun _ => ⟨g, 0, rfl, h.lt, fun k hk => by rw [Nat.zero_add]; exact (ba_cell h hk).1⟩
end Go.Proofs.YtibpgcdaommjeaaGreatDoor.Wds
