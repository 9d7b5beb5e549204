/-
  Whole numbers of digits of 32 bits: what a number in memory is, what a call that changes one leaves as it was, and the contract of trim.
-/
import Derived.Test.YtkjollifghmkbaaFracE
import Derived.Lib.Hide
namespace Go.Proofs.Ytkjollifghmkbaa
open Go.RowKit

/-- A digit of a number. -/
def dig (n k : Nat) : Nat := n / 4294967296 ^ k % 4294967296
theorem dig_lt (n k : Nat) : dig n k ≤ 4294967295 := by unfold dig; omega
theorem dig_zero (n : Nat) : dig n 0 = n % 4294967296 := by simp [dig]
theorem dig_one (n : Nat) : dig n 1 = n / 4294967296 % 4294967296 := by simp [dig]
theorem pow_pos' (k : Nat) : 0 < 4294967296 ^ k := Nat.pow_pos (by omega)
theorem dig_top {n k : Nat} (h : n < 4294967296 ^ (k + 1)) : dig n k = n / 4294967296 ^ k := by
  unfold dig
  refine Nat.mod_eq_of_lt (Nat.div_lt_of_lt_mul ?_)
  rw [Nat.pow_succ] at h; exact h
theorem dig_none {n k : Nat} (h : n < 4294967296 ^ (k + 1)) (z : dig n k = 0) : n < 4294967296 ^ k := by
  rw [dig_top h] at z
  rcases Nat.lt_or_ge n (4294967296 ^ k) with h1 | h1
  · exact h1
  · have := Nat.div_pos h1 (pow_pos' k); omega
theorem dig_some {n k : Nat} (h : n < 4294967296 ^ (k + 1)) (z : dig n k ≠ 0) : 4294967296 ^ k ≤ n := by
  rcases Nat.lt_or_ge n (4294967296 ^ k) with h1 | h1
  · rw [dig_top h, Nat.div_eq_of_lt h1] at z; exact absurd rfl z
  · exact h1

/-- The type of a block's cells. -/
def tyO : Option Obj → Option TypeId | some (.cells _ t _) => some t | _ => none
def ty (w : World) (g : Nat) : Option TypeId := tyO w.heap[g]?
/-- A block of digits: the first L of a number. -/
def Row (w : World) (g L n : Nat) : Prop := ∃ cs, w.heap[g]? = some (.cells cs 87 (0, 0)) ∧ ∀ k, k < L → cs[k]? = some (.int .u32 (dig n k))
/-- A slice of a number's digits, the last one no nought. -/
def Digs (w : World) (v : Value) (n : Nat) : Prop :=
  ∃ L c, n < 4294967296 ^ L ∧ (0 < L → 4294967296 ^ (L - 1) ≤ n) ∧ L ≤ c ∧ ((L = 0 ∧ v = .slice none 0 c) ∨ ∃ g, v = .slice (some ⟨g, 0, none⟩) L c ∧ Row w g L n)
/-- A number's two cells, whatever they hold. -/
def Hdr (w : World) (b o : Nat) : Prop := b < w.heap.size ∧ ty w b ≠ some 87 ∧ w.frozen? ⟨b, o, none⟩ = false ∧ w.frozen? ⟨b, o + 1, none⟩ = false ∧ (∃ u, w.cell? ⟨b, o, none⟩ = some u) ∧ ∃ u, w.cell? ⟨b, o + 1, none⟩ = some u
/-- A number in memory. -/
def IntAt (w : World) (b o : Nat) (neg : Bool) (n : Nat) : Prop :=
  b < w.heap.size ∧ ty w b ≠ some 87 ∧ w.frozen? ⟨b, o, none⟩ = false ∧ w.frozen? ⟨b, o + 1, none⟩ = false ∧ w.cell? ⟨b, o, none⟩ = some (.bool neg) ∧ (∃ v, w.cell? ⟨b, o + 1, none⟩ = some v ∧ Digs w v n) ∧ (n = 0 → neg = false)
theorem IntAt.hdr {w : World} {b o : Nat} {s : Bool} {n : Nat} (h : IntAt w b o s n) : Hdr w b o := by
  obtain ⟨h1, h2, h3, h4, h5, ⟨v, h6, _⟩, _⟩ := h
  exact ⟨h1, h2, h3, h4, ⟨_, h5⟩, ⟨_, h6⟩⟩

/-- Nothing has changed but a number's two cells, and what is new. -/
def Chg (b o : Nat) (w w' : World) : Prop :=
  w'.os = w.os ∧ w'.tape = w.tape ∧ w'.output = w.output ∧ w.heap.size ≤ w'.heap.size ∧ (∀ g, g < w.heap.size → g ≠ b → w'.heap[g]? = w.heap[g]?) ∧
    b < w.heap.size ∧ ty w b ≠ some 87 ∧ ty w' b = ty w b ∧ (∀ i, i ≠ o → i ≠ o + 1 → w'.cell? ⟨b, i, none⟩ = w.cell? ⟨b, i, none⟩) ∧ (∀ i, w'.frozen? ⟨b, i, none⟩ = w.frozen? ⟨b, i, none⟩)
section
variable {w w' w'' : World} {b o g n : Nat} {s : Bool}
theorem ty_of_block (h : w'.heap[g]? = w.heap[g]?) : ty w' g = ty w g := by unfold ty; rw [h]
theorem Chg.refl (h : Hdr w b o) : Chg b o w w := ⟨rfl, rfl, rfl, Nat.le_refl _, fun _ _ _ => rfl, h.1, h.2.1, rfl, fun _ _ _ => rfl, fun _ => rfl⟩
theorem Chg.size (h : Chg b o w w') : w.heap.size ≤ w'.heap.size := h.2.2.2.1
theorem Chg.lt (h : Chg b o w w') : b < w.heap.size := h.2.2.2.2.2.1
theorem Chg.trans (h : Chg b o w w') (k : Chg b o w' w'') : Chg b o w w'' := by
  obtain ⟨h1, h2, h3, h4, h5, h6, h7, h8, h9, h10⟩ := h
  obtain ⟨k1, k2, k3, k4, k5, k6, k7, k8, k9, k10⟩ := k
  exact ⟨k1.trans h1, k2.trans h2, k3.trans h3, Nat.le_trans h4 k4, fun g hg hb => (k5 g (by omega) hb).trans (h5 g hg hb), h6, h7, k8.trans h8,
    fun i a c => (k9 i a c).trans (h9 i a c), fun i => (k10 i).trans (h10 i)⟩
theorem Chg.below {B : Nat} (h : Chg b o w w') (k : Below B w' w'') (hB : w.heap.size ≤ B) : Chg b o w w'' := by
  obtain ⟨h1, h2, h3, h4, h5, h6, h7, h8, h9, h10⟩ := h
  have e : w''.heap[b]? = w'.heap[b]? := k.block b (by omega)
  exact ⟨k.os.trans h1, k.tape.trans h2, k.output.trans h3, Nat.le_trans h4 k.size, fun g hg hb => (k.block g (by omega)).trans (h5 g hg hb), h6, h7, (ty_of_block e).trans h8,
    fun i a c => (World.cell?_of_block (a := ⟨b, i, none⟩) e).trans (h9 i a c), fun i => (World.frozen?_of_block (a := ⟨b, i, none⟩) e).trans (h10 i)⟩
theorem Chg.alloc (h : Chg b o w w') (ob : Obj) : Chg b o w (w'.alloc ob) := h.below (B := w'.heap.size) ((Below.refl _ _).alloc (Nat.le_refl _) _) h.size
theorem Chg.new (h : Chg b o w w') {p : Addr} (hp : w.heap.size ≤ p.block) (u : Value) : Chg b o w (w'.setCell p u) := h.below (B := w.heap.size) ((Below.refl _ _).setCell hp _) (Nat.le_refl _)
theorem ty_setCell (w : World) (p : Addr) (u : Value) (g : Nat) : ty (w.setCell p u) g = ty w g := by
  unfold ty
  simp only [World.setCell, Array.getElem?_modify]
  by_cases e : p.block = g
  · rw [if_pos e]
    cases w.heap[g]? with
    | none => rfl
    | some ob => cases ob <;> rfl
  · rw [if_neg e]
theorem frozen_setCell (w : World) (p q : Addr) (u : Value) : (w.setCell p u).frozen? q = w.frozen? q := by simp
theorem Chg.set_ (h : Chg b o w w') (i : Nat) (hi : i = o ∨ i = o + 1) (u : Value) : Chg b o w (w'.setCell ⟨b, i, none⟩ u) := by
  obtain ⟨h1, h2, h3, h4, h5, h6, h7, h8, h9, h10⟩ := h
  refine ⟨h1, h2, h3, by simpa [World.setCell] using h4, fun g hg hb => (Below.heap_setCell _ _ _ _ hb).trans (h5 g hg hb), h6, h7, (ty_setCell _ _ _ _).trans h8, fun j a c => ?_, fun j => (frozen_setCell _ _ _ _).trans (h10 j)⟩
  rw [World.cell?_setCell_other _ _ _ _ (by intro e; injection e with _ e _; omega)]
  exact h9 j a c
theorem Chg.set0 (h : Chg b o w w') (u : Value) : Chg b o w (w'.setCell ⟨b, o, none⟩ u) := h.set_ o (.inl rfl) u
theorem Chg.set1 (h : Chg b o w w') (u : Value) : Chg b o w (w'.setCell ⟨b, o + 1, none⟩ u) := h.set_ (o + 1) (.inr rfl) u
/-- What is changed is itself new: nothing that was there has changed. -/
theorem Chg.to_below {B : Nat} (h : Chg b o w w') (hb : B ≤ b) : Below B w w' := by
  obtain ⟨h1, h2, h3, h4, h5, h6, _⟩ := h
  exact ⟨h1, h2, h3, h4, fun k hk => h5 k (by omega) (by omega)⟩
theorem Chg.row (h : Chg b o w w') {L : Nat} (r : Row w g L n) : Row w' g L n := by
  obtain ⟨cs, e, k⟩ := r
  have hg : g < w.heap.size := by
    rcases Nat.lt_or_ge g w.heap.size with h | h
    · exact h
    · rw [Array.getElem?_eq_none h] at e; cases e
  have hn : g ≠ b := by
    rintro rfl
    exact h.2.2.2.2.2.2.1 (by unfold ty; rw [e]; rfl)
  exact ⟨cs, (h.2.2.2.2.1 g hg hn).trans e, k⟩
theorem Row.lt {L : Nat} (r : Row w g L n) : g < w.heap.size := by
  obtain ⟨cs, e, k⟩ := r
  rcases Nat.lt_or_ge g w.heap.size with h | h
  · exact h
  · rw [Array.getElem?_eq_none h] at e; cases e
theorem Row.below {B L : Nat} (r : Row w g L n) (h : Below B w w') (hb : g < B) : Row w' g L n := by
  obtain ⟨cs, e, k⟩ := r
  exact ⟨cs, (h.block g hb).trans e, k⟩
theorem Row.cell {L k : Nat} (r : Row w g L n) (h : k < L) : w.cell? ⟨g, k, none⟩ = some (.int .u32 (dig n k)) := by
  obtain ⟨cs, e, f⟩ := r
  exact (cell_of_row w g k cs 87 (0, 0) e).trans (f k h)
theorem Row.set_ {L i : Nat} {b : Nat} (r : Row w g L n) (h : ty w b ≠ some 87) (u : Value) : Row (w.setCell ⟨b, i, none⟩ u) g L n := by
  obtain ⟨cs, e, k⟩ := r
  refine ⟨cs, (Below.heap_setCell _ _ _ _ ?_).trans e, k⟩
  rintro rfl
  exact h (by unfold ty; rw [e]; rfl)
theorem Digs.chg {v : Value} (h : Digs w v n) (c : Chg b o w w') : Digs w' v n := by
  obtain ⟨L, c', h1, h2, h3, h4⟩ := h
  refine ⟨L, c', h1, h2, h3, h4.imp id ?_⟩
  rintro ⟨g, e, r⟩
  exact ⟨g, e, c.row r⟩
theorem Digs.below {v : Value} (h : Digs w v n) (c : Below w.heap.size w w') : Digs w' v n := by
  obtain ⟨L, c', h1, h2, h3, h4⟩ := h
  refine ⟨L, c', h1, h2, h3, h4.imp id ?_⟩
  rintro ⟨g, e, r⟩
  exact ⟨g, e, r.below c r.lt⟩
theorem IntAt.below (h : IntAt w b o s n) (c : Below w.heap.size w w') : IntAt w' b o s n := by
  obtain ⟨h1, h2, h3, h4, h5, ⟨v, h6, h7⟩, h8⟩ := h
  have e := c.block b h1
  exact ⟨Nat.lt_of_lt_of_le h1 c.size, by rw [ty_of_block e]; exact h2, (c.frozen (p := ⟨b, o, none⟩) h1).trans h3, (c.frozen (p := ⟨b, o + 1, none⟩) h1).trans h4,
    (c.cell (p := ⟨b, o, none⟩) h1).trans h5, ⟨v, (c.cell (p := ⟨b, o + 1, none⟩) h1).trans h6, h7.below c⟩, h8⟩
/-- Another number's change leaves a number as it was. -/
theorem IntAt.chg {b' o' : Nat} (h : IntAt w b o s n) (c : Chg b' o' w w') (hne : b ≠ b' ∨ o + 1 < o' ∨ o' + 1 < o) : IntAt w' b o s n := by
  obtain ⟨h1, h2, h3, h4, h5, ⟨v, h6, h7⟩, h8⟩ := h
  by_cases e : b = b'
  · subst e
    have hne' : o + 1 < o' ∨ o' + 1 < o := by omega
    obtain ⟨c1, c2, c3, c4, c5, c6, c7, c8, c9, c10⟩ := id c
    exact ⟨Nat.lt_of_lt_of_le h1 c4, by rw [c8]; exact h2, (c10 o).trans h3, (c10 _).trans h4, (c9 o (by omega) (by omega)).trans h5, ⟨v, (c9 (o + 1) (by omega) (by omega)).trans h6, h7.chg c⟩, h8⟩
  · have e' := c.2.2.2.2.1 b h1 e
    exact ⟨Nat.lt_of_lt_of_le h1 c.size, by rw [ty_of_block e']; exact h2, (World.frozen?_of_block (a := ⟨b, o, none⟩) e').trans h3, (World.frozen?_of_block (a := ⟨b, o + 1, none⟩) e').trans h4,
      (World.cell?_of_block (a := ⟨b, o, none⟩) e').trans h5, ⟨v, (World.cell?_of_block (a := ⟨b, o + 1, none⟩) e').trans h6, h7.chg c⟩, h8⟩
theorem Hdr.below (h : Hdr w b o) (c : Below w.heap.size w w') : Hdr w' b o := by
  obtain ⟨h1, h2, h3, h4, ⟨u, h5⟩, ⟨v, h6⟩⟩ := h
  have e := c.block b h1
  exact ⟨Nat.lt_of_lt_of_le h1 c.size, by rw [ty_of_block e]; exact h2, (c.frozen (p := ⟨b, o, none⟩) h1).trans h3, (c.frozen (p := ⟨b, o + 1, none⟩) h1).trans h4,
    ⟨u, (c.cell (p := ⟨b, o, none⟩) h1).trans h5⟩, ⟨v, (c.cell (p := ⟨b, o + 1, none⟩) h1).trans h6⟩⟩
theorem Hdr.chg {b' o' : Nat} (h : Hdr w b o) (c : Chg b' o' w w') (hne : b ≠ b' ∨ o + 1 < o' ∨ o' + 1 < o) : Hdr w' b o := by
  obtain ⟨h1, h2, h3, h4, ⟨u, h5⟩, ⟨v, h6⟩⟩ := h
  by_cases e : b = b'
  · subst e
    have hne' : o + 1 < o' ∨ o' + 1 < o := by omega
    obtain ⟨c1, c2, c3, c4, c5, c6, c7, c8, c9, c10⟩ := c
    exact ⟨Nat.lt_of_lt_of_le h1 c4, by rw [c8]; exact h2, (c10 o).trans h3, (c10 _).trans h4, ⟨u, (c9 o (by omega) (by omega)).trans h5⟩, ⟨v, (c9 (o + 1) (by omega) (by omega)).trans h6⟩⟩
  · have e' := c.2.2.2.2.1 b h1 e
    exact ⟨Nat.lt_of_lt_of_le h1 c.size, by rw [ty_of_block e']; exact h2, (World.frozen?_of_block (a := ⟨b, o, none⟩) e').trans h3, (World.frozen?_of_block (a := ⟨b, o + 1, none⟩) e').trans h4,
      ⟨u, (World.cell?_of_block (a := ⟨b, o, none⟩) e').trans h5⟩, ⟨v, (World.cell?_of_block (a := ⟨b, o + 1, none⟩) e').trans h6⟩⟩
/-- A new number. -/
theorem hdr_new (w : World) : Hdr (w.alloc (.cells #[.bool false, .slice none 0 0] 55)) w.heap.size 0 := by
  refine ⟨by simp, ?_, by simp, by simp, ⟨.bool false, by simp⟩, ⟨.slice none 0 0, by simp⟩⟩
  unfold ty; rw [heap_alloc_new]; simp [tyO]
theorem Hdr.set_ (h : Hdr w b o) (i : Nat) (hi : i = o ∨ i = o + 1) (u : Value) : Hdr (w.setCell ⟨b, i, none⟩ u) b o := by
  obtain ⟨h1, h2, h3, h4, ⟨u1, h5⟩, ⟨u2, h6⟩⟩ := h
  refine ⟨by simpa [World.setCell] using h1, by rw [ty_setCell]; exact h2, (frozen_setCell _ _ _ _).trans h3, (frozen_setCell _ _ _ _).trans h4, ?_, ?_⟩
  · rcases hi with rfl | rfl
    · exact ⟨u, World.cell?_setCell_same _ _ _ h5⟩
    · exact ⟨u1, by rw [World.cell?_setCell_other _ _ _ _ (by intro e; injection e with _ e _; omega)]; exact h5⟩
  · rcases hi with rfl | rfl
    · exact ⟨u2, by rw [World.cell?_setCell_other _ _ _ _ (by intro e; injection e with _ e _; omega)]; exact h6⟩
    · exact ⟨u, World.cell?_setCell_same _ _ _ h6⟩
end

/-- A number whose digits may still end in noughts. -/
def Raw (w : World) (b o : Nat) (s : Bool) (L n : Nat) : Prop :=
  b < w.heap.size ∧ ty w b ≠ some 87 ∧ w.frozen? ⟨b, o, none⟩ = false ∧ w.frozen? ⟨b, o + 1, none⟩ = false ∧ w.cell? ⟨b, o, none⟩ = some (.bool s) ∧ n < 4294967296 ^ L ∧
    ∃ g c : Nat, w.cell? ⟨b, o + 1, none⟩ = some (.slice (some ⟨g, 0, none⟩) L c) ∧ L ≤ c ∧ Row w g L n
/-- The way in which a call that makes a number ends. -/
def GivesInt (b o : Nat) (s : Bool) (n : Nat) (w : World) (e : Ending) (w' : World) : Prop := e = .returned (.pointer (some ⟨b, o, none⟩)) ∧ IntAt w' b o s n ∧ Chg b o w w'
theorem int_of {w : World} {b o n : Nat} {s : Bool} {v : Value} (h : Hdr w b o) (c0 : w.cell? ⟨b, o, none⟩ = some (.bool s)) (c1 : w.cell? ⟨b, o + 1, none⟩ = some v) (d : Digs w v n) (z : n = 0 → s = false) : IntAt w b o s n :=
  ⟨h.1, h.2.1, h.2.2.1, h.2.2.2.1, c0, ⟨v, c1, d⟩, z⟩
theorem Digs.set_ {w : World} {b i n : Nat} {v : Value} (h : Digs w v n) (hb : ty w b ≠ some 87) (u : Value) : Digs (w.setCell ⟨b, i, none⟩ u) v n := by
  obtain ⟨L, c', h1, h2, h3, h4⟩ := h
  refine ⟨L, c', h1, h2, h3, h4.imp id ?_⟩
  rintro ⟨g, e, r⟩
  exact ⟨g, e, r.set_ hb u⟩
/-- The digits laid, the sign as it was. -/
theorem int_set1 {w : World} {b o n : Nat} {s : Bool} {v : Value} (h : Hdr w b o) (c : w.cell? ⟨b, o, none⟩ = some (.bool s)) (d : Digs w v n) (z : n = 0 → s = false) : IntAt (w.setCell ⟨b, o + 1, none⟩ v) b o s n := by
  obtain ⟨u, hu⟩ := h.2.2.2.2.2
  refine int_of (h.set_ _ (.inr rfl) _) ?_ (World.cell?_setCell_same _ _ _ hu) (d.set_ h.2.1 _) z
  rw [World.cell?_setCell_other _ _ _ _ (by intro e; injection e with _ e _; omega)]; exact c
/-- The sign laid, the digits as they were. -/
theorem int_set0 {w : World} {b o n : Nat} {v : Value} (s : Bool) (h : Hdr w b o) (c : w.cell? ⟨b, o + 1, none⟩ = some v) (d : Digs w v n) (z : n = 0 → s = false) : IntAt (w.setCell ⟨b, o, none⟩ (.bool s)) b o s n := by
  obtain ⟨u, hu⟩ := h.2.2.2.2.1
  refine int_of (h.set_ _ (.inl rfl) _) (World.cell?_setCell_same _ _ _ hu) ?_ (d.set_ h.2.1 _) z
  rw [World.cell?_setCell_other _ _ _ _ (by intro e; injection e with _ e _; omega)]; exact c
/-- Both laid, the digits first. -/
theorem int_set10 {w : World} {b o n : Nat} {v : Value} (s : Bool) (h : Hdr w b o) (d : Digs w v n) (z : n = 0 → s = false) : IntAt ((w.setCell ⟨b, o + 1, none⟩ v).setCell ⟨b, o, none⟩ (.bool s)) b o s n := by
  obtain ⟨u, hu⟩ := h.2.2.2.2.2
  exact int_set0 s (h.set_ _ (.inr rfl) _) (World.cell?_setCell_same _ _ _ hu) (d.set_ h.2.1 _) z
/-- Both laid, the sign first. -/
theorem int_set01 {w : World} {b o n : Nat} {v : Value} (s : Bool) (h : Hdr w b o) (d : Digs w v n) (z : n = 0 → s = false) : IntAt ((w.setCell ⟨b, o, none⟩ (.bool s)).setCell ⟨b, o + 1, none⟩ v) b o s n := by
  obtain ⟨u, hu⟩ := h.2.2.2.2.1
  exact int_set1 (h.set_ _ (.inl rfl) _) (World.cell?_setCell_same _ _ _ hu) (d.set_ h.2.1 _) z
theorem Raw.hdr {w : World} {b o L n : Nat} {s : Bool} (h : Raw w b o s L n) : Hdr w b o := by
  obtain ⟨h1, h2, h3, h4, h5, h6, g, c, h7, _⟩ := h
  exact ⟨h1, h2, h3, h4, ⟨_, h5⟩, ⟨_, h7⟩⟩
theorem digs_of {w : World} {g c L k n : Nat} (r : Row w g L n) (hk : k ≤ L) (hc : L ≤ c) (h : n < 4294967296 ^ k) (h' : 0 < k → 4294967296 ^ (k - 1) ≤ n) : Digs w (.slice (some ⟨g, 0, none⟩) k c) n := by
  obtain ⟨cs, e, f⟩ := r
  exact ⟨k, c, h, h', by omega, .inr ⟨g, rfl, cs, e, fun j hj => f j (by omega)⟩⟩
set_option maxHeartbeats 1000000 in
theorem trim_any (b o : Nat) (s s' : Bool) (L n : Nat) (w : World) (h : Raw w b o s L n) (hL : L ≤ 1073741824) (hs : n = 0 ∧ s' = false ∨ n ≠ 0 ∧ s' = s) :
    Calls Try.prog 80 #[.pointer (some ⟨b, o, none⟩)] w (GivesInt b o s' n w) := by
  obtain ⟨h1, h2, h3, h4, h5, h6, g, c, h7, h8, hr⟩ := id h
  have H6 := Lib.hid h6
  have H2 := Lib.hid h2
  have HR := Lib.hid hr
  have HS := Lib.hid hs
  have H := Lib.hid h
  clear h6 h2 hr hs h
  go_enter Try.func80, Try.ntmps80
  go_wp2
  go_loop [3] (fun i => ∃ k : Nat, k ≤ L ∧ Hid (n < 4294967296 ^ k) ∧ i = .int .i64 k) (fun i => (intOf i).toNat)
  case atStart => exact ⟨L, Nat.le_refl _, H6, rfl⟩
  case round =>
    obtain ⟨k, hk, hn, rfl⟩ := hrel
    rcases Nat.eq_zero_or_pos k with rfl | hp
    · obtain rfl : n = 0 := by have := hn.out; simp at this; exact this
      have hd := Lib.hid H.out.hdr
      have e : s' = false := by have := HS.out; simp at this; exact this
      subst e
      go_wp2
      go_ret
      exact ⟨rfl, int_set10 false hd.out (digs_of HR.out (by omega) h8 (by simp) (by simp)) (fun _ => rfl), ((Chg.refl hd.out).set1 _).set0 _⟩
    · obtain ⟨j, rfl⟩ : ∃ j, k = j + 1 := ⟨k - 1, by omega⟩
      have hc := HR.out.cell (k := j) (by omega)
      by_cases hz : dig n j = 0
      · rw [hz] at hc
        have hn' := Lib.hid (dig_none hn.out hz)
        clear hz
        go_wp2
        go_round
        case rel => exact ⟨j, by omega, hn', by go_num⟩
        case measure => simp [intOf]
      · have hz1 : ((dig n j : Int) == 0) = false := by simpa using hz
        have hn' := Lib.hid (dig_some hn.out hz)
        have hz2 := dig_lt n j
        have hd := Lib.hid H.out.hdr
        have e : s = s' := by
          rcases HS.out with ⟨rfl, _⟩ | ⟨_, e⟩
          · exact absurd hn'.out (by have := pow_pos' j; omega)
          · exact e.symm
        subst e
        clear hz
        go_wp2
        go_ret
        exact ⟨rfl, int_set1 hd.out h5 (digs_of HR.out (by omega) h8 hn.out (fun _ => hn'.out)) (fun z => absurd hn'.out (by have := pow_pos' j; omega)), (Chg.refl hd.out).set1 _⟩
end Go.Proofs.Ytkjollifghmkbaa
