/-
  What the reader has in memory: rows of expressions of its own, level by level.
-/
import Derived.Test.YtgkhkdohlbchoaaSexJ
namespace Go.Proofs.Ytgkhkdohlbchoaa
open Go.RowKit

/-- Cells begin with the expressions of a forest; the rows of what is in them are none of S. -/
def Fo.Rel (w : World) (S : List Nat) : Fo → List Value → Prop
  | .nil, _ => True
  | .cons s l k r, cs => ∃ A c rest, cs = .string s :: .bool l :: .slice A k.len c :: rest ∧ s.size ≤ maxLen ∧ k.len ≤ c ∧ c ≤ maxLen ∧
      (0 < k.len → ∃ b cs', A = some ⟨b, 0, none⟩ ∧ b ∉ S ∧ HB w b 42 cs' ∧ Fo.Rel w S k cs'.toList) ∧ Fo.Rel w S r rest
/-- All rows of expressions stand. -/
def Ke (w w' : World) : Prop := ∀ b cs, HB w b 42 cs → HB w' b 42 cs
section
variable {w w' w'' : World} {S S' : List Nat} {B : Nat} {v : Value} {f : Fo}
theorem Ke.refl (w : World) : Ke w w := fun _ _ h => h
theorem Ke.trans (h : Ke w w') (k : Ke w' w'') : Ke w w'' := fun b cs h1 => k b cs (h b cs h1)
theorem Ke.alloc (h : Ke w w') (o : Obj) : Ke w (w'.alloc o) := fun b cs h1 => (h b cs h1).alloc o
theorem Ke.cell {g t i : Nat} {cs : Array Value} {u : Value} (h : Ke w w') (hg : HB w' g t cs) (ht : t ≠ 42) : Ke w (w'.setCell ⟨g, i, none⟩ u) := fun b cs' h1 => (h b cs' h1).far (fun e => by
  have h2 := h b cs' h1
  subst e
  unfold HB at h2 hg
  rw [h2] at hg
  injection hg with hg
  injection hg with _ hg
  exact ht hg.symm) u
theorem Ke.below (h : Below w.heap.size w w') : Ke w w' := fun _ _ h1 => h1.below h
theorem Fo.Rel.keep (hk : ∀ b cs, b ∉ S → HB w b 42 cs → HB w' b 42 cs ∧ b ∉ S') (f : Fo) : ∀ cs, f.Rel w S cs → f.Rel w' S' cs := by
  induction f with
  | nil => intro _ _; trivial
  | cons s l k r ihk ihr =>
    intro cs ⟨A, c, rest, e, h1, h2, h3, h4, h5⟩
    refine ⟨A, c, rest, e, h1, h2, h3, fun z => ?_, ihr rest h5⟩
    obtain ⟨b, cs', e1, hb, hh, hr⟩ := h4 z
    obtain ⟨q1, q2⟩ := hk b cs' hb hh
    exact ⟨b, cs', e1, q2, q1, ihk _ hr⟩
theorem Fo.Rel.more (f : Fo) : ∀ cs more, f.Rel w S cs → f.Rel w S (cs ++ more) := by
  induction f with
  | nil => intro _ _ _; trivial
  | cons s l k r _ ihr =>
    intro cs more ⟨A, c, rest, e, h1, h2, h3, h4, h5⟩
    exact ⟨A, c, rest ++ more, by rw [e]; rfl, h1, h2, h3, h4, ihr rest more h5⟩
theorem Fo.Rel.snoc (f : Fo) {s : ByteArray} {l : Bool} {k : Fo} {A : Option Addr} {c : Nat} (hs : s.size ≤ maxLen) (hc : k.len ≤ c) (hm : c ≤ maxLen) (hk : 0 < k.len → ∃ b cs', A = some ⟨b, 0, none⟩ ∧ b ∉ S ∧ HB w b 42 cs' ∧ k.Rel w S cs'.toList) :
    ∀ cs, cs.length = f.len * 3 → f.Rel w S cs → (f.snoc s l k).Rel w S (cs ++ [.string s, .bool l, .slice A k.len c]) := by
  induction f with
  | nil =>
    intro cs hl _
    have : cs = [] := by simpa [Fo.len] using hl
    subst this
    exact ⟨A, c, [], rfl, hs, hc, hm, hk, trivial⟩
  | cons s' l' k' r _ ihr =>
    intro cs hl ⟨A', c', rest, e, h1, h2, h3, h4, h5⟩
    refine ⟨A', c', rest ++ [.string s, .bool l, .slice A k.len c], by rw [e]; rfl, h1, h2, h3, h4, ihr rest ?_ h5⟩
    rw [e] at hl
    simp [Fo.len] at hl
    omega
theorem Fo.Rel.in_ (f : Fo) : ∀ b cs o, HB w b 42 cs → f.Rel w S (cs.toList.drop o) → f.In w b o := by
  induction f with
  | nil => intro _ _ _ _ _; trivial
  | cons s l k r ihk ihr =>
    intro b cs o hb ⟨A, c, rest, e, h1, h2, h3, h4, h5⟩
    have g : ∀ j : Nat, cs[o + j]? = (.string s :: .bool l :: .slice A k.len c :: rest : List Value)[j]? := fun j => by
      rw [← e, List.getElem?_drop]; simp
    have er : cs.toList.drop (o + 3) = rest := by
      rw [← List.drop_drop, e]; rfl
    refine ⟨(hb.cell o).trans (g 0), (hb.cell (o + 1)).trans (g 1), h1, ⟨A, c, (hb.cell (o + 2)).trans (g 2), h2, h3, fun z => ?_⟩, ihr b cs (o + 3) hb (by rw [er]; exact h5)⟩
    obtain ⟨b', cs', e1, _, hh, hr⟩ := h4 z
    exact ⟨b', 0, e1, hh.lt, ihk b' cs' 0 hh (by simpa using hr)⟩
/-- A row of the call's own that holds a forest. -/
def Lv (w : World) (B : Nat) (S : List Nat) (v : Value) (f : Fo) : Prop := ∃ xs, w.ownsRow B 42 3 v f.len xs ∧ f.Rel w S xs
theorem Lv.slice (h : Lv w B S v f) : ∃ A c, v = .slice A f.len c ∧ f.len ≤ c ∧ c ≤ maxLen ∧ (0 < f.len → ∃ b cs, A = some ⟨b, 0, none⟩ ∧ v.ownBlock = some b ∧ HB w b 42 cs ∧ f.Rel w S cs.toList) := by
  obtain ⟨xs, ⟨h1, h2⟩, h3⟩ := h
  rcases h2 with ⟨rfl, h0⟩ | ⟨g, cap, cur, rfl, hb, hh, hc, hm, hsz, htk⟩
  · exact ⟨none, 0, by rw [h0], by omega, by unfold maxLen; omega, fun z => absurd z (by omega)⟩
  · refine ⟨_, cap, rfl, hc, hm, fun _ => ⟨g, cur, rfl, rfl, hh, ?_⟩⟩
    have := Fo.Rel.more f xs (cur.toList.drop (f.len * 3)) h3
    rw [← htk, List.take_append_drop] at this
    exact this
theorem Lv.at (h : Lv w B S v f) : ∃ A c, v = .slice A f.len c ∧ f.len ≤ c ∧ c ≤ maxLen ∧ f.At w A := by
  obtain ⟨A, c, e, h1, h2, h3⟩ := h.slice
  refine ⟨A, c, e, h1, h2, fun z => ?_⟩
  obtain ⟨b, cs, e1, _, hb, hr⟩ := h3 z
  exact ⟨b, 0, e1, hb.lt, Fo.Rel.in_ f b cs 0 hb (by simpa using hr)⟩
theorem own_ke {x : List Value} {n : Nat} (h : w.ownsRow B 42 3 v n x) (hk : ∀ g cs, v.ownBlock = some g → HB w g 42 cs → HB w' g 42 cs) : w'.ownsRow B 42 3 v n x := by
  refine ⟨h.1, ?_⟩
  rcases h.2 with z | ⟨g, cap, cur, rfl, hb, hh, r⟩
  · exact .inl z
  · exact .inr ⟨g, cap, cur, rfl, hb, hk g cur rfl hh, r⟩
theorem Lv.keep (h : Lv w B S v f) (hk : ∀ b cs, b ∉ S → HB w b 42 cs → HB w' b 42 cs ∧ b ∉ S') (ho : ∀ g cs, v.ownBlock = some g → HB w g 42 cs → HB w' g 42 cs) : Lv w' B S' v f := by
  obtain ⟨xs, h1, h2⟩ := h
  exact ⟨xs, own_ke h1 ho, Fo.Rel.keep hk f xs h2⟩
theorem Lv.ke (h : Lv w B S v f) (k : Ke w w') : Lv w' B S v f := h.keep (fun b cs h1 h2 => ⟨k b cs h2, h1⟩) (fun g cs _ h2 => k g cs h2)
/-- Levels, the innermost first, and their rows. -/
def Stk (w : World) (B : Nat) (S : List Nat) : List Fo → List Value → Prop
  | [], [] => True
  | f :: st, v :: vs => Lv w B S v f ∧ Stk w B S st vs
  | _, _ => False
def act (vs : List Value) : List Nat := vs.filterMap Value.ownBlock
theorem Stk.len {st : List Fo} : ∀ {vs : List Value}, Stk w B S st vs → vs.length = st.length := by
  induction st with
  | nil => intro vs h; cases vs with
    | nil => rfl
    | cons _ _ => cases h
  | cons f st ih => intro vs h; cases vs with
    | nil => cases h
    | cons v vs => simp [ih h.2]
theorem Stk.keep {st : List Fo} : ∀ {vs : List Value}, Stk w B S st vs → (∀ b cs, b ∉ S → HB w b 42 cs → HB w' b 42 cs ∧ b ∉ S') → (∀ g cs, g ∈ act vs → HB w g 42 cs → HB w' g 42 cs) → Stk w' B S' st vs := by
  induction st with
  | nil => intro vs h _ _; cases vs with
    | nil => trivial
    | cons _ _ => cases h
  | cons f st ih => intro vs h hk ho; cases vs with
    | nil => cases h
    | cons v vs =>
      refine ⟨h.1.keep hk (fun g cs e h2 => ho g cs (by simp [act, e]) h2), ih h.2 hk (fun g cs e h2 => ho g cs ?_ h2)⟩
      unfold act at e ⊢
      rw [List.filterMap_cons]
      split
      · exact e
      · exact List.mem_cons_of_mem _ e
theorem Stk.ke {st : List Fo} {vs : List Value} (h : Stk w B S st vs) (k : Ke w w') : Stk w' B S st vs := h.keep (fun b cs h1 h2 => ⟨k b cs h2, h1⟩) (fun g cs _ h2 => k g cs h2)
/-- The reader in block p. -/
def PS (w : World) (B p : Nat) (s : ByteArray) (i : Nat) (st : List Fo) : Prop :=
  ∃ go cap vs, B ≤ p ∧ HB w p 55 #[.string s, .int .i64 i, .slice (some ⟨go, 0, none⟩) st.length cap] ∧ w.ownsRow B 23 1 (.slice (some ⟨go, 0, none⟩) st.length cap) st.length vs.reverse ∧ (act vs).Nodup ∧ Stk w B (act vs) st vs
end
end Go.Proofs.Ytgkhkdohlbchoaa
