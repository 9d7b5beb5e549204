/-
  Reading, by kinds of bytes; a row that grows.
-/
import Derived.Test.YtgkhkdohlbchoaaSexN
namespace Go.Proofs.Ytgkhkdohlbchoaa
open Go.RowKit
theorem inW_not {s : ByteArray} {j : Nat} (h : inW (bs s j) = true) : bs s j ≠ 40 ∧ bs s j ≠ 41 ∧ bs s j ≠ 59 ∧ 33 ≤ bs s j := by
  simp [inW] at h; omega
section
variable {s : ByteArray} {j : Nat} {st : List Fo} (hj : j < s.size)
include hj
theorem run_open (h : bs s j = 40) (hd : ¬ 40 < st.length - 1) : run s j st = run s (j + 1) (.nil :: st) := run_step hj (by unfold stepR; rw [if_pos h, if_neg hd])
theorem run_open_deep (h : bs s j = 40) (hd : 40 < st.length - 1) : run s j st = .bad 10 j := run_bad hj (by unfold stepR; rw [if_pos h, if_pos hd])
theorem run_close {k f : Fo} {st : List Fo} (h : bs s j = 41) : run s j (k :: f :: st) = run s (j + 1) (f.snoc ByteArray.empty true k :: st) := run_step hj (by unfold stepR; rw [if_neg (by rw [h]; decide), if_pos h])
theorem run_close_top {f : Fo} (h : bs s j = 41) : run s j [f] = .bad 1 j := run_bad hj (by unfold stepR; rw [if_neg (by rw [h]; decide), if_pos h])
theorem run_comment (h : bs s j = 59) : run s j st = run s (cEnd s j) st := run_step hj (by unfold stepR; rw [if_neg (by rw [h]; decide), if_neg (by rw [h]; decide), if_pos h])
theorem run_word_long (h : inW (bs s j) = true) (hl : 24 < wEnd s j - j) : run s j st = .bad 12 j := by
  obtain ⟨h1, h2, h3, _⟩ := inW_not h
  exact run_bad hj (by unfold stepR; rw [if_neg h1, if_neg h2, if_neg h3, if_pos h, if_pos hl])
theorem run_word_deep (h : inW (bs s j) = true) (hl : ¬ 24 < wEnd s j - j) (hd : 40 < st.length - 1) : run s j st = .bad 10 j := by
  obtain ⟨h1, h2, h3, _⟩ := inW_not h
  exact run_bad hj (by unfold stepR; rw [if_neg h1, if_neg h2, if_neg h3, if_pos h, if_neg hl, if_pos hd])
theorem run_word {f : Fo} {st : List Fo} (h : inW (bs s j) = true) (hl : ¬ 24 < wEnd s j - j) (hd : ¬ 40 < (f :: st).length - 1) : run s j (f :: st) = run s (wEnd s j) (f.snoc (cut s j (wEnd s j)) false .nil :: st) := by
  obtain ⟨h1, h2, h3, _⟩ := inW_not h
  exact run_step hj (by unfold stepR; rw [if_neg h1, if_neg h2, if_neg h3, if_pos h, if_neg hl, if_neg hd])
theorem run_blank (h : bs s j = 32 ∨ bs s j = 9 ∨ bs s j = 10 ∨ bs s j = 13) : run s j st = run s (j + 1) st := by
  have h4 : inW (bs s j) = false := by rcases h with z | z | z | z <;> rw [z] <;> decide
  exact run_step hj (by unfold stepR; rw [if_neg (by omega), if_neg (by omega), if_neg (by omega), if_neg (by rw [h4]; decide), if_pos h])
theorem run_other (h4 : inW (bs s j) = false) (h1 : bs s j ≠ 40) (h2 : bs s j ≠ 41) (h3 : bs s j ≠ 59) (h : ¬ (bs s j = 32 ∨ bs s j = 9 ∨ bs s j = 10 ∨ bs s j = 13)) : run s j st = .bad 1 j :=
  run_bad hj (by unfold stepR; rw [if_neg h1, if_neg h2, if_neg h3, if_neg (by rw [h4]; decide), if_neg h])
end
section
variable {P : Program} {w : World} {ops : Array Oper} {rest : List Oper} {o : Oper} {a : Act} {K : Act → World → Prop} {Q : Exit → Act → World → Prop} {E : Prop}
/-- An append of one element in a walk: the row's block is the old one, or new. -/
theorem wpl_app2 (t e : TypeId) (hut : P.underlying t = some (.slice e)) (z : Value) (sz by_ : Nat) (hinfo : (P.info? e).map (fun i => (i.zero, i.size, i.bytes)) = some (some z, sz, by_)) (hzs : z.cells.size = sz) (hsz : 0 < sz)
    (hgd : o.guard = none) (s x : Operand) (ho : o.op = .call { callee := .builtin .append, args := #[s, x], argTypes := #[t, t] })
    (base : Nat) (v : Value) (n : Nat) (xs : List Value) (hs : a.eval s = v) (hown : w.ownsRow base e sz v n xs) (gb : Nat) (news : Array Value) (hx : a.eval x = .slice (some ⟨gb, 0, none⟩) 1 1) (hnews : HB w gb e news) (hl : news.size = sz) (h1 : ∀ u ∈ news.toList, u.oneCell' = true)
    (hn : (n + 1) * by_ ≤ 140737488355328) (hn2 : n + 1 ≤ maxLen) (hbase : base ≤ w.heap.size)
    (h : ∀ g cap w', Hid (w'.ownsRow base e sz (.slice (some ⟨g, 0, none⟩) (n + 1) cap) (n + 1) (xs ++ news.toList)) → (∀ g t cs, some g ≠ v.ownBlock → HB w g t cs → HB w' g t cs) → (∀ W, Below base W w → Below base W w') → Hid (v.ownBlock = some g ∨ g = w.heap.size) → wpList P ops Q rest (a.put o.dst (.slice (some ⟨g, 0, none⟩) (n + 1) cap)) w') :
    wpList P ops Q (o :: rest) a w := by
  obtain ⟨i0, hi0, hz0, hz1, hz2⟩ := info_parts hinfo
  refine wpList_append_lies w hgd s x t ho base e i0 z sz by_ hut hi0 hz0 hz1 hz2 hzs hsz v n xs hs hown ⟨gb, 0, none⟩ 1 1 news.toList hx (by simp [hl]) (World.news_of_block (cs := news) hnews) h1 (by omega) hn2 hn hbase _ rfl ?_
  intro g cap w' hown' hg hf _
  exact h g cap w' (Lib.hid hown') (fun g' t cs hne hb => hb.grown hg hne) (fun W hW => bw_grown hbase hW hown hg) hf
end
/-- A row that holds a forest; what is in it lies in none of the blocks below B, and not in the row. -/
def Rw (w : World) (B : Nat) (v : Value) (f : Fo) : Prop := ∃ xs, w.ownsRow B 42 3 v f.len xs ∧ ∀ S : List Nat, (∀ g ∈ S, g < B) → f.Rel w (act [v] ++ S) xs
section
variable {w w' : World} {B B' : Nat} {v : Value} {f : Fo}
theorem Rw.nil (w : World) (B : Nat) : Rw w B (.slice none 0 0) .nil := ⟨[], own_nil _ _ _ _, fun _ _ => trivial⟩
theorem Rw.ke (h : Rw w B v f) (k : Ke w w') : Rw w' B v f := by
  obtain ⟨xs, h1, h2⟩ := h
  exact ⟨xs, own_ke h1 (fun g cs _ h => k g cs h), fun S hS => Fo.Rel.keep (fun b cs h1 h2 => ⟨k b cs h2, h1⟩) f xs (h2 S hS)⟩
theorem Rw.lv (h : Rw w B v f) (S : List Nat) (hS : ∀ g ∈ S, g < B) : Lv w B S v f := by
  obtain ⟨xs, h1, h2⟩ := h
  exact ⟨xs, h1, Fo.Rel.keep (fun b cs hb h => ⟨h, fun z => hb (List.mem_append_right _ z)⟩) f xs (h2 S hS)⟩
theorem Rw.kid (h : Rw w B v f) (S : List Nat) (hS : ∀ g ∈ S, g < B) : ∃ A c, v = .slice A f.len c ∧ Kid w S f A c := by
  obtain ⟨A, c, e, h1, h2, h3⟩ := (h.lv S hS).slice
  refine ⟨A, c, e, h1, h2, fun z => ?_⟩
  obtain ⟨b, cs, e1, e2, hb, hr⟩ := h3 z
  refine ⟨b, cs, e1, fun q => ?_, hb, hr⟩
  obtain ⟨xs, h4, _⟩ := h
  rcases h4.2 with ⟨rfl, _⟩ | ⟨g, cap, cur, rfl, hg, _⟩
  · simp [Value.ownBlock] at e2
  · simp [Value.ownBlock] at e2
    subst e2
    exact absurd (hS _ q) (by omega)
/-- One more is appended. -/
theorem Rw.app {w1 w3 : World} {x : ByteArray} {l : Bool} {k : Fo} {A : Option Addr} {c g cap : Nat} {xs : List Value} (hx : x.size ≤ maxLen) (h1 : w1.ownsRow B 42 3 v f.len xs) (h2 : ∀ S : List Nat, (∀ g ∈ S, g < B) → f.Rel w1 (act [v] ++ S) xs)
    (hkid : ∀ S : List Nat, (∀ g ∈ S, g < B) → Kid w1 (act [v] ++ S) k A c) (K3 : ∀ g t cs, some g ≠ v.ownBlock → HB w1 g t cs → HB w3 g t cs) (ho : w3.ownsRow B 42 3 (.slice (some ⟨g, 0, none⟩) (f.len + 1) cap) (f.len + 1) (xs ++ [.string x, .bool l, .slice A k.len c]))
    (hfr : v.ownBlock = some g ∨ w1.heap.size ≤ g) : Rw w3 B (.slice (some ⟨g, 0, none⟩) (f.len + 1) cap) (f.snoc x l k) := by
  refine ⟨_, by rw [Fo.len_snoc]; exact ho, fun S hS => ?_⟩
  have hkk : ∀ b cs, b ∉ act [v] ++ S → HB w1 b 42 cs → HB w3 b 42 cs ∧ b ∉ act [.slice (some ⟨g, 0, none⟩) (f.len + 1) cap] ++ S := fun b cs hb hh => by
    have hne : some b ≠ v.ownBlock := fun z => hb (by simp [act, ← z])
    refine ⟨K3 b 42 cs hne hh, fun z => ?_⟩
    rcases List.mem_append.1 z with z | z
    · have : b = g := by simpa [act, Value.ownBlock] using z
      subst this
      rcases hfr with e | e
      · exact hne e.symm
      · have := hh.lt; omega
    · exact hb (List.mem_append_right _ z)
  have hk := (hkid S hS).keep hkk
  exact Fo.Rel.snoc f hx hk.1 hk.2.1 hk.2.2 xs h1.1 (Fo.Rel.keep hkk f xs (h2 S hS))
end
/-- How a reading from a place on, within so many lists, ends. -/
def FromQ (s : ByteArray) (i deep : Nat) (w : World) (e : Ending) (w' : World) : Prop :=
  ∃ (v : Value) (j : Nat) (c a : Int), e = .returned (.tuple #[v, .int .i64 j, .agg #[.int .i64 c, .int .i64 a]]) ∧ Below w.heap.size w w' ∧
    ((c ≠ 0 ∧ v = .slice none 0 0 ∧ ∃ a' : Nat, a = a' ∧ ∀ outer : List Fo, outer.length = deep → run s i (.nil :: outer) = .bad c a') ∨
     (c = 0 ∧ a = 0 ∧ ∃ f : Fo, Rw w' w.heap.size v f ∧ f.len ≤ j ∧ i ≤ j ∧ j ≤ s.size ∧ (deep = 0 → run s i [.nil] = .good f) ∧ (0 < deep → j < s.size ∧ bs s j = 41 ∧ ∀ outer : List Fo, outer.length = deep → run s i (.nil :: outer) = run s j (f :: outer))))
end Go.Proofs.Ytgkhkdohlbchoaa
