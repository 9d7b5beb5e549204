/-
  Forests: what a slice of trees (a word, a truth, a slice of trees) that is handed in is in memory. Over any program.
-/
import Derived.Test.YtgkhkdohlbchoaaBas
import Derived.ProofKit
import Derived.Deep.Strs
import Derived.Lib.SmallJoins
namespace Go.Proofs.Ytgkhkdohlbchoaa
open Go.ChangeShapes Go.WideShapes Go.ChangeAt Go.RowKit Go.Joins Go.Deep

/-- Trees, one behind the other: a word, whether it is a list, what is in it; the rest. -/
inductive Fo where
  | nil : Fo
  | cons (word : ByteArray) (list : Bool) (kids rest : Fo) : Fo
instance : Inhabited Fo := ⟨.nil⟩
namespace Fo
def len : Fo → Nat
  | nil => 0
  | cons _ _ _ r => r.len + 1
def size : Fo → Nat
  | nil => 0
  | cons _ _ k r => k.size + r.size + 1
/-- The forest lies in a block from a place on. -/
def In (w : World) : Fo → Nat → Nat → Prop
  | nil, _, _ => True
  | cons s l k r, b, o => w.cell? ⟨b, o, none⟩ = some (.string s) ∧ w.cell? ⟨b, o + 1, none⟩ = some (.bool l) ∧ s.size ≤ maxLen ∧
      (∃ A c, w.cell? ⟨b, o + 2, none⟩ = some (.slice A k.len c) ∧ k.len ≤ c ∧ c ≤ maxLen ∧ (0 < k.len → ∃ b' o', A = some ⟨b', o', none⟩ ∧ b' < w.heap.size ∧ In w k b' o')) ∧ In w r b (o + 3)
/-- The forest lies at a slice's address. -/
def At (w : World) (A : Option Addr) (f : Fo) : Prop := 0 < f.len → ∃ b o, A = some ⟨b, o, none⟩ ∧ b < w.heap.size ∧ f.In w b o
theorem In.below {w w' : World} (hb : Below w.heap.size w w') (f : Fo) : ∀ b o, b < w.heap.size → f.In w b o → f.In w' b o := by
  induction f with
  | nil => intro _ _ _ _; trivial
  | cons s l k r ihk ihr =>
    intro b o hlt ⟨h0, h1, h2, ⟨A, c, h3, h4, h5, h6⟩, h7⟩
    refine ⟨(hb.cell (p := ⟨b, o, none⟩) hlt).trans h0, (hb.cell (p := ⟨b, o + 1, none⟩) hlt).trans h1, h2, ⟨A, c, (hb.cell (p := ⟨b, o + 2, none⟩) hlt).trans h3, h4, h5, fun z => ?_⟩, ihr b (o + 3) hlt h7⟩
    obtain ⟨b', o', e, l', q⟩ := h6 z
    exact ⟨b', o', e, Nat.lt_of_lt_of_le l' hb.size, ihk b' o' l' q⟩
theorem At.below {w w' : World} {A : Option Addr} {f : Fo} (h : At w A f) (hb : Below w.heap.size w w') : At w' A f := fun z => by
  obtain ⟨b, o, e, l, q⟩ := h z
  exact ⟨b, o, e, Nat.lt_of_lt_of_le l hb.size, In.below hb f b o l q⟩
theorem At.drew {w : World} {A : Option Addr} {f : Fo} (h : At w A f) : At w.drew A f := h.below (Below.refl _ _).drew
theorem At.drewN {w : World} {A : Option Addr} {f : Fo} (h : At w A f) (n : Nat) : At (w.drewN n) A f := h.below (below_dn (Below.refl _ _) n)
/-- What is left from a number on. -/
def drop : Fo → Nat → Fo
  | f, 0 => f
  | nil, _ + 1 => nil
  | cons _ _ _ r, n + 1 => r.drop n
theorem drop_zero (f : Fo) : f.drop 0 = f := by cases f <;> rfl
theorem len_drop (f : Fo) : ∀ n, n ≤ f.len → (f.drop n).len = f.len - n := by
  induction f with
  | nil => intro n hn; cases n with
    | zero => rfl
    | succ n => simp [len] at hn
  | cons s l k r _ ih =>
    intro n hn
    cases n with
    | zero => simp [drop, len]
    | succ n =>
      simp only [drop, len] at hn ⊢
      rw [ih n (by omega)]
      omega
theorem In.drop {w : World} (f : Fo) : ∀ b o n, f.In w b o → (f.drop n).In w b (o + n * 3) := by
  induction f with
  | nil => intro b o n _; cases n <;> trivial
  | cons s l k r _ ih =>
    intro b o n h
    cases n with
    | zero => rw [drop_zero, Nat.zero_mul]; exact h
    | succ n =>
      have := ih b (o + 3) n h.2.2.2.2
      have e : o + 3 + n * 3 = o + (n + 1) * 3 := by omega
      rw [e] at this
      exact this
/-- The tree of a number below the length. -/
theorem drop_cons (f : Fo) : ∀ n, n < f.len → ∃ s l k, f.drop n = cons s l k (f.drop (n + 1)) := by
  induction f with
  | nil => intro n hn; simp [len] at hn
  | cons s l k r _ ih =>
    intro n hn
    cases n with
    | zero => exact ⟨s, l, k, by cases r <;> rfl⟩
    | succ n =>
      simp only [len] at hn
      obtain ⟨s', l', k', e⟩ := ih n (by omega)
      exact ⟨s', l', k', e⟩
theorem drop_len (f : Fo) : f.drop f.len = nil := by
  induction f with
  | nil => rfl
  | cons s l k r _ ih => exact ih
theorem size_drop (f : Fo) : ∀ n, (f.drop n).size ≤ f.size := by
  induction f with
  | nil => intro n; cases n <;> simp [drop]
  | cons s l k r _ ih =>
    intro n
    cases n with
    | zero => simp [drop]
    | succ n => simp only [drop, size]; have := ih n; omega
theorem size_kids {f : Fo} {n : Nat} {s : ByteArray} {l : Bool} {k r : Fo} (h : f.drop n = cons s l k r) : k.size < f.size ∧ r.size < f.size := by
  have := size_drop f n
  rw [h] at this
  simp only [size] at this
  omega
theorem len_size (f : Fo) : f.len ≤ f.size := by
  induction f with
  | nil => exact Nat.le_refl _
  | cons s l k r _ ih => simp only [len, size]; omega
def of : List (ByteArray × Bool × Fo) → Fo
  | [] => nil
  | (s, l, k) :: r => cons s l k (of r)
theorem of_len (xs : List (ByteArray × Bool × Fo)) : (of xs).len = xs.length := by
  induction xs with
  | nil => rfl
  | cons x r ih => obtain ⟨s, l, k⟩ := x; simp [of, len, ih]
end Fo
section
variable {H : Type} {enc : TypeId × Value → H} {P : Program} {W : World}
theorem in_of (b : Nat) (xs : List (ByteArray × Bool × Fo)) : ∀ o, (∀ i x, xs[i]? = some x → W.cell? ⟨b, o + i * 3, none⟩ = some (.string x.1) ∧ W.cell? ⟨b, o + i * 3 + 1, none⟩ = some (.bool x.2.1) ∧ x.1.size ≤ maxLen ∧
    ∃ A c, W.cell? ⟨b, o + i * 3 + 2, none⟩ = some (.slice A x.2.2.len c) ∧ x.2.2.len ≤ c ∧ c ≤ maxLen ∧ x.2.2.At W A) → (Fo.of xs).In W b o := by
  induction xs with
  | nil => intro _ _; trivial
  | cons x r ih =>
    intro o h
    obtain ⟨s, l, k⟩ := x
    obtain ⟨h0, h1, h2, A, c, h3, h4, h5, h6⟩ := h 0 _ rfl
    refine ⟨by simpa using h0, by simpa using h1, h2, ⟨A, c, by simpa using h3, h4, h5, h6⟩, ih (o + 3) (fun i x hx => ?_)⟩
    have := h (i + 1) x (by simpa using hx)
    have e : o + (i + 1) * 3 = o + 3 + i * 3 := by omega
    rw [e] at this
    exact this
theorem open_fo {t e : TypeId} {f0 f1 f2 : Field} (ht : P.underlying t = some (.slice e)) (he : P.underlying e = some (.struct #[f0, f1, f2])) (ce : P.cellsOf e = 3) (o0 : f0.offset = 0) (o1 : f1.offset = 1) (o2 : f2.offset = 2)
    (c0 : P.cellsOf f0.type = 1) (c1 : P.cellsOf f1.type = 1) (c2 : P.cellsOf f2.type = 1) (h0 : P.underlying f0.type = some .string) (h1 : P.underlying f1.type = some .bool) (h2 : f2.type = t) :
    ∀ (fuel : Nat) (cs : List Value) (x : DataW H × List MemPlace), DataW.trod enc P W 0 (fun _ => true) true fuel t cs = some x → ∃ A c f, cs = [.slice A (Fo.len f) c] ∧ f.len ≤ c ∧ c ≤ maxLen ∧ f.At W A := by
  intro fuel
  induction fuel using Nat.strongRecOn with
  | ind fuel IH =>
    intro cs x h
    rcases DataW.trod_slice ht h with ⟨rfl, _⟩ | ⟨a, len, cap, elems, rest, n, rfl, rfl, _, _, hl, hm, hlen, hel, _, _⟩
    · exact ⟨none, 0, .nil, rfl, Nat.le_refl _, by unfold maxLen; omega, fun z => absurd z (by simp [Fo.len])⟩
    · have each : ∀ i, i < len → ∃ q : ByteArray × Bool × Fo, W.cell? (a.add (i * 3)) = some (.string q.1) ∧ W.cell? (a.add (i * 3 + 1)) = some (.bool q.2.1) ∧ q.1.size ≤ maxLen ∧ ∃ A c, W.cell? (a.add (i * 3 + 2)) = some (.slice A q.2.2.len c) ∧ q.2.2.len ≤ c ∧ c ≤ maxLen ∧ q.2.2.At W A := by
        intro i hi
        have hy : elems[i]? = some (elems[i]'(by omega)) := List.getElem?_eq_getElem (by omega)
        have hb := (hel i hi).trans hy
        rw [ce] at hb
        obtain ⟨cs', k1, k2⟩ := Option.bind_eq_some_iff.1 hb
        obtain ⟨_, hcl, hcc⟩ := World.cells?_some k1
        obtain ⟨xs, n', rfl, _, _, hxl, hf⟩ := DataW.trod_struct he k2
        match cs', hcl with
        | [v0, v1, v2], _ =>
          have q0 := hf 0 f0 rfl
          have q1 := hf 1 f1 rfl
          have q2 := hf 2 f2 rfl
          simp only [List.size_toArray, List.length_cons, List.length_nil] at hxl
          rw [o0, c0, List.getElem?_eq_getElem (by omega)] at q0
          rw [o1, c1, List.getElem?_eq_getElem (by omega)] at q1
          rw [o2, c2, List.getElem?_eq_getElem (by omega), h2] at q2
          obtain ⟨s, e0, _, l0⟩ := DataW.trod_string h0 q0
          obtain ⟨bb, e1, _⟩ := DataW.trod_bool h1 q1
          obtain ⟨A, c, f, e2, j1, j2, j3⟩ := IH n' (by omega) _ _ q2
          simp at e0 e1 e2
          subst e0 e1 e2
          have d0 := hcc 0 (by omega)
          have d1 := hcc 1 (by omega)
          have d2 := hcc 2 (by omega)
          rw [Addr.add_add] at d0 d1 d2
          exact ⟨(s, bb, f), by simpa using d0, by simpa using d1, l0, A, c, by simpa using d2, j1, j2, j3⟩
      obtain ⟨F, hF⟩ := choose_lt each
      refine ⟨some a, cap, Fo.of ((List.range len).map F), by rw [Fo.of_len]; simp, by rw [Fo.of_len]; simpa using hl, hm, fun z => ?_⟩
      rw [Fo.of_len] at z
      simp at z
      obtain ⟨b, off, spot⟩ := a
      have hspot : spot = none := by simpa [Addr.add] using World.cell?_spot (hF 0 z).1
      subst hspot
      have z0 := (hF 0 z).1
      rw [add_plain] at z0
      refine ⟨b, off, rfl, World.block_lt_of_cell? W _ z0, in_of b _ off (fun i x hx => ?_)⟩
      have hi : i < len := by
        rcases Nat.lt_or_ge i len with q | q
        · exact q
        · rw [List.getElem?_eq_none (by simpa using q)] at hx; cases hx
      have hxe : x = F i := by simpa [hi] using hx.symm
      subst hxe
      obtain ⟨g0, g1, g2, A, c, g3, g4⟩ := hF i hi
      rw [add_plain] at g0 g1 g3
      exact ⟨g0, by rw [Nat.add_assoc]; exact g1, g2, A, c, by rw [Nat.add_assoc]; exact g3, g4⟩
end
end Go.Proofs.Ytgkhkdohlbchoaa
