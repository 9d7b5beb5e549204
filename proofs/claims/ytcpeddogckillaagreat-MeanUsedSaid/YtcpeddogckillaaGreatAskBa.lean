/-
  Asks: which nodes are used; rows of Bools of the call's own.
-/
import Derived.Test.YtcpeddogckillaaGreatG16
import Derived.Test.YtcpeddogckillaaGreatG17
namespace Go.Proofs.YtcpeddogckillaaGreat
open Go.RowKit

theorem fs_all {code : Nat → Int} {n lim : Nat} (h : fsC code n lim = 0) : n ≤ lim ∧ ∀ j, j < n → code j = 0 := by
  obtain ⟨_, hl, _⟩ := fs_zero h
  refine ⟨hl, fun j hj => ?_⟩
  unfold fsC at h
  rw [if_neg (by omega)] at h
  by_cases h2 : fsI code n < n
  · rw [if_pos h2] at h
    exfalso
    unfold fsI at h h2
    have hl : (List.range n).findIdx (fun i => code i != 0) < (List.range n).length := by rw [List.length_range]; exact h2
    have := List.findIdx_getElem (w := hl)
    rw [List.getElem_range, h] at this
    simp at this
  · unfold fsI at h2
    have := List.not_of_lt_findIdx (xs := List.range n) (p := fun i => code i != 0) (i := j) (by omega)
    rw [List.getElem_range] at this
    simpa using this
/-- What a sound ask's numbers are. -/
theorem ak_sound {qs : List Dc} {ns : List Nd} {hs : List Int} (h : akC qs ns hs = 0) : ns.length ≤ 200 ∧ hs.length ≤ 200 ∧ (∀ i, i < ns.length → kIn i (nn ns i).kids = true ∧ (nn ns i).kids.length ≤ 8) ∧ (∀ i, i < hs.length → 0 ≤ nth hs i ∧ nth hs i < ns.length) := by
  unfold akC at h
  by_cases h1 : fsC (dcC qs) qs.length 30 = 0
  · rw [if_neg (by simpa using h1)] at h
    by_cases h2 : fsC (nC qs ns) ns.length 200 = 0
    · rw [if_neg (by simpa using h2)] at h
      obtain ⟨n1, n2⟩ := fs_all h2
      obtain ⟨m1, m2⟩ := fs_all h
      refine ⟨n1, m1, fun i hi => ?_, fun i hi => ?_⟩
      · have := n2 i hi
        unfold nC at this
        by_cases a : (nn ns i).op < 1 ∨ 25 < (nn ns i).op
        · unfold ndC at this; rw [if_pos a] at this; cases this
        · by_cases b : (nn ns i).op = 9 ∧ fdZ qs (nn ns i).name < 0
          · unfold ndC at this; rw [if_neg a, if_pos b] at this; cases this
          · rw [nd_split a b] at this
            by_cases c : kdC qs (nn ns i) i = 0
            · exact ⟨(kd_zero c).2.2, (kd_zero c).1⟩
            · rw [if_pos c] at this; exact absurd this c
      · have := m2 i hi
        unfold hC hdC at this
        rw [srtL_len] at this
        by_cases a : nth hs i < 0 ∨ (ns.length : Int) ≤ nth hs i
        · rw [if_pos a] at this; cases this
        · omega
    · rw [if_pos h2] at h; exact absurd h h2
  · rw [if_pos h1] at h; exact absurd h h1
/-- What is asserted, or a kid of what is used. -/
inductive Rch (ns : List Nd) (hs : List Int) : Nat → Prop
  | hold (i : Nat) (hi : i < hs.length) : Rch ns hs (nth hs i).toNat
  | kid (m k : Nat) (h : Rch ns hs m) (hm : m < ns.length) (hk : k < (nn ns m).kids.length) : Rch ns hs (nth (nn ns m).kids k).toNat
/-- In so many steps. -/
def RchN (ns : List Nd) (hs : List Int) : Nat → Nat → Prop
  | 0, j => ∃ i, i < hs.length ∧ j = (nth hs i).toNat
  | p + 1, j => RchN ns hs p j ∨ ∃ m k, RchN ns hs p m ∧ m < ns.length ∧ k < (nn ns m).kids.length ∧ j = (nth (nn ns m).kids k).toNat
theorem rchN_rch {ns : List Nd} {hs : List Int} (p : Nat) : ∀ j, RchN ns hs p j → Rch ns hs j := by
  induction p with
  | zero => rintro j ⟨i, hi, rfl⟩; exact .hold i hi
  | succ p ih =>
    rintro j (h | ⟨m, k, h, hm, hk, rfl⟩)
    · exact ih j h
    · exact .kid m k (ih m h) hm hk
theorem rchN_mono {ns : List Nd} {hs : List Int} {p q : Nat} (hpq : p ≤ q) {j : Nat} (h : RchN ns hs p j) : RchN ns hs q j := by
  induction q with
  | zero => obtain rfl : p = 0 := by omega
            exact h
  | succ q ih =>
    rcases Nat.lt_or_ge p (q + 1) with z | z
    · exact .inl (ih (by omega))
    · obtain rfl : p = q + 1 := by omega
      exact h
theorem rch_rchN {ns : List Nd} {hs : List Int} (h1 : ∀ i, i < ns.length → kIn i (nn ns i).kids = true) (h2 : ∀ i, i < hs.length → 0 ≤ nth hs i ∧ nth hs i < ns.length) {j : Nat} (h : Rch ns hs j) : j < ns.length ∧ RchN ns hs (ns.length - 1 - j) j := by
  induction h with
  | hold i hi =>
    have := h2 i hi
    exact ⟨by omega, rchN_mono (Nat.zero_le _) ⟨i, hi, rfl⟩⟩
  | kid m k h hm hk ih =>
    have := kin_at (h1 m hm) hk
    refine ⟨by omega, rchN_mono (p := ns.length - 1 - m + 1) (by omega) (.inr ⟨m, k, ih.2, hm, hk, rfl⟩)⟩
/-- A row of Bools. -/
def BA (b : Nat → Bool) (n : Nat) : Array Value := (Array.range n).map fun k => .bool (b k)
def upd (b : Nat → Bool) (j : Nat) : Nat → Bool := fun k => if k = j then true else b k
theorem BA_size (b : Nat → Bool) (n : Nat) : (BA b n).size = n := by simp [BA]
theorem BA_get {b : Nat → Bool} {n j : Nat} (h : j < n) : (BA b n)[j]? = some (.bool (b j)) := by simp [BA, h]
theorem BA_set (b : Nat → Bool) (n j : Nat) : (BA b n).setIfInBounds j (.bool true) = BA (upd b j) n := by
  apply Array.ext
  · simp [BA]
  · intro i h1 h2
    simp [BA] at h1
    simp [BA, upd, Array.getElem_setIfInBounds, h1]
    by_cases z : j = i
    · subst z; simp
    · have z' : ¬ i = j := fun y => z y.symm
      simp [z, z']
theorem BA_made (n : Nat) : madeCells #[.bool false] n = BA (fun _ => false) n := by
  apply Array.ext
  · simp [BA, madeCells]
  · intro i h1 h2
    simp [BA, madeCells, Nat.mod_one]
theorem info4' : (Tryz.prog.info? 4).map (fun i => (i.zero, i.size, i.bytes)) = some (some (.bool false), 1, 1) := by kernel_rfl
theorem make_bools (n : Nat) (hn : n ≤ 1000000) (w : World) : (Instr.makeSlice 28 (.int .i64 n) (.int .i64 n)).run Tryz.prog w = .ok (.slice (some ⟨w.heap.size, 0, none⟩) n n) (w.alloc (.cells (BA (fun _ => false) n) 4)) := by
  obtain ⟨i0, hi0, hz0, hz1, hz2⟩ := info_parts info4'
  have h := run_make (P := Tryz.prog) w 28 4 i0 (.bool false) Tryz.underlying28 hi0 hz0 .i64 .i64 (n : Int) (n : Int) (by omega) (by omega) (by rw [hz2]; omega) (by omega)
  rw [hz1] at h
  simp only [Int.toNat_natCast, Nat.mul_one] at h
  rw [h, ← BA_made]
  rfl
theorem ba_cell {w : World} {g n : Nat} {b : Nat → Bool} (h : HB w g 4 (BA b n)) {j : Nat} (hj : j < n) : w.cell? ⟨g, j, none⟩ = some (.bool (b j)) ∧ w.frozen? ⟨g, j, none⟩ = false := ⟨(h.cell j).trans (BA_get hj), h.frozen j⟩
theorem ba_set {w : World} {g n : Nat} {b : Nat → Bool} (h : HB w g 4 (BA b n)) (j : Nat) : HB (w.setCell ⟨g, j, none⟩ (.bool true)) g 4 (BA (upd b j) n) := by rw [← BA_set]; exact h.set_ j _
theorem upd_true {b : Nat → Bool} {j k : Nat} : upd b j k = true ↔ k = j ∨ b k = true := by
  unfold upd
  by_cases z : k = j <;> simp [z]
end Go.Proofs.YtcpeddogckillaaGreat
