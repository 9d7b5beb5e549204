/-
  What the texts of a seat lean on: blocks that are known whole, rows of the call's own, slices that read as lists. Over any program.
-/
import Derived.Test.YtibpgcdaommjeaaDoorRows
import Derived.WalkKit
import Derived.WalkSpells
import Derived.WalkLawsBesides
import Derived.Handy
import Derived.Deep.QuietTactic
import Derived.BigQuiet
import Derived.IntWalk
import Derived.Lib.Hide
import Derived.OwnWalk
import Derived.Deep.RegionHeld3
import Derived.Deep.AppendLies
import Derived.Deep.DeepCutAuto
import Derived.Laws.MakeOwn
import Derived.Laws.Tables
namespace Go.Proofs.YtibpgcdaommjeaaDoor
open Go.RowKit

theorem below_after {a b c : World} (h : Below a.heap.size a b) (k : Below b.heap.size b c) : Below a.heap.size a c := h.trans (k.mono h.size)
theorem below_dn {B : Nat} {a w : World} (h : Below B a w) (n : Nat) : Below B a (w.drewN n) := ⟨h.os, h.tape, h.output, h.size, h.block⟩
theorem new_below (w : World) (o : Obj) : Below w.heap.size w (w.alloc o) := (Below.refl _ _).alloc (Nat.le_refl _) _
/-- A block that is known whole. -/
def HB (w : World) (g : Nat) (t : TypeId) (cs : Array Value) : Prop := w.heap[g]? = some (.cells cs t (0, 0))
/-- Nothing but one block has changed. -/
structure Far (g : Nat) (w w' : World) : Prop where
  os : w'.os = w.os
  tape : w'.tape = w.tape
  output : w'.output = w.output
  size : w'.heap.size = w.heap.size
  block : ∀ k, k ≠ g → w'.heap[k]? = w.heap[k]?
section
variable {w w' w'' W : World} {g g' t n : Nat} {cs : Array Value}
theorem HB.lt (h : HB w g t cs) : g < w.heap.size := by
  rcases Nat.lt_or_ge g w.heap.size with hlt | hge
  · exact hlt
  · unfold HB at h; rw [Array.getElem?_eq_none hge] at h; cases h
theorem HB.cell (h : HB w g t cs) (i : Nat) : w.cell? ⟨g, i, none⟩ = cs[i]? := cell_of_row w g i cs t (0, 0) h
theorem HB.frozen (h : HB w g t cs) (i : Nat) : w.frozen? ⟨g, i, none⟩ = false := by unfold HB at h; simp [World.frozen?, h]
theorem HB.new (w : World) (t : TypeId) (cs : Array Value) : HB (w.alloc (.cells cs t)) w.heap.size t cs := heap_alloc_new w _
theorem HB.new1 (w : World) (o : Obj) (t : TypeId) (cs : Array Value) : HB ((w.alloc o).alloc (.cells cs t)) (w.heap.size + 1) t cs := by simpa using HB.new (w.alloc o) t cs
theorem HB.new2 (w : World) (o1 o2 : Obj) (t : TypeId) (cs : Array Value) : HB (((w.alloc o1).alloc o2).alloc (.cells cs t)) (w.heap.size + 1 + 1) t cs := by simpa using HB.new ((w.alloc o1).alloc o2) t cs
theorem HB.new3 (w : World) (o1 o2 o3 : Obj) (t : TypeId) (cs : Array Value) : HB ((((w.alloc o1).alloc o2).alloc o3).alloc (.cells cs t)) (w.heap.size + 1 + 1 + 1) t cs := by simpa using HB.new (((w.alloc o1).alloc o2).alloc o3) t cs
theorem HB.drew (h : HB w g t cs) : HB w.drew g t cs := h
theorem HB.drewN (h : HB w g t cs) (k : Nat) : HB (w.drewN k) g t cs := h
theorem HB.alloc (h : HB w g t cs) (o : Obj) : HB (w.alloc o) g t cs := (Below.heap_alloc w o g h.lt).trans h
theorem HB.below (h : HB w g t cs) (k : Below w.heap.size w w') : HB w' g t cs := (k.block g h.lt).trans h
theorem HB.far (h : HB w g t cs) {p : Addr} (hp : g ≠ p.block) (u : Value) : HB (w.setCell p u) g t cs := (Below.heap_setCell w p u g hp).trans h
theorem HB.far_ (h : HB w g t cs) (hg : g ≠ g') (f : Far g' w w') : HB w' g t cs := (f.block g hg).trans h
theorem HB.set_ (h : HB w g t cs) (i : Nat) (u : Value) : HB (w.setCell ⟨g, i, none⟩ u) g t (cs.setIfInBounds i u) := by
  unfold HB at h ⊢
  simp [World.setCell, Array.getElem?_modify, h]
theorem HB.grown {row : Option Nat} (h : HB w g t cs) (hb : w.grownBy w' row) (hg : some g ≠ row) : HB w' g t cs := (hb.block g h.lt hg).trans h
theorem HB.one {v1 : Value} (h : HB w g t #[v1]) : w.cell? ⟨g, 0, none⟩ = some v1 ∧ w.frozen? ⟨g, 0, none⟩ = false := ⟨h.cell 0, h.frozen 0⟩
theorem HB.two {v1 v2 : Value} (h : HB w g t #[v1, v2]) : w.cell? ⟨g, 0, none⟩ = some v1 ∧ w.cell? ⟨g, 1, none⟩ = some v2 ∧ w.frozen? ⟨g, 0, none⟩ = false ∧ w.frozen? ⟨g, 1, none⟩ = false := ⟨h.cell 0, h.cell 1, h.frozen 0, h.frozen 1⟩
theorem HB.three {v1 v2 v3 : Value} (h : HB w g t #[v1, v2, v3]) : w.cell? ⟨g, 0, none⟩ = some v1 ∧ w.cell? ⟨g, 1, none⟩ = some v2 ∧ w.cell? ⟨g, 2, none⟩ = some v3 ∧ w.frozen? ⟨g, 0, none⟩ = false ∧ w.frozen? ⟨g, 1, none⟩ = false ∧ w.frozen? ⟨g, 2, none⟩ = false :=
  ⟨h.cell 0, h.cell 1, h.cell 2, h.frozen 0, h.frozen 1, h.frozen 2⟩
theorem HB.four {v1 v2 v3 v4 : Value} (h : HB w g t #[v1, v2, v3, v4]) : w.cell? ⟨g, 0, none⟩ = some v1 ∧ w.cell? ⟨g, 1, none⟩ = some v2 ∧ w.cell? ⟨g, 2, none⟩ = some v3 ∧ w.cell? ⟨g, 3, none⟩ = some v4 ∧
    w.frozen? ⟨g, 0, none⟩ = false ∧ w.frozen? ⟨g, 1, none⟩ = false ∧ w.frozen? ⟨g, 2, none⟩ = false ∧ w.frozen? ⟨g, 3, none⟩ = false :=
  ⟨h.cell 0, h.cell 1, h.cell 2, h.cell 3, h.frozen 0, h.frozen 1, h.frozen 2, h.frozen 3⟩
theorem HB.five {v1 v2 v3 v4 v5 : Value} (h : HB w g t #[v1, v2, v3, v4, v5]) : w.cell? ⟨g, 0, none⟩ = some v1 ∧ w.cell? ⟨g, 1, none⟩ = some v2 ∧ w.cell? ⟨g, 2, none⟩ = some v3 ∧ w.cell? ⟨g, 3, none⟩ = some v4 ∧ w.cell? ⟨g, 4, none⟩ = some v5 :=
  ⟨h.cell 0, h.cell 1, h.cell 2, h.cell 3, h.cell 4⟩
theorem hb_set1 {a n : Value} (h : HB w g t #[a]) : HB (w.setCell ⟨g, 0, none⟩ n) g t #[n] := by simpa using h.set_ 0 n
theorem hb_set2 {a b n d : Value} (h : HB w g t #[a, b]) : HB ((w.setCell ⟨g, 0, none⟩ n).setCell ⟨g, 1, none⟩ d) g t #[n, d] := by
  have := (h.set_ 0 n).set_ 1 d
  simpa using this
theorem hb_set3 {a b c n d e : Value} (h : HB w g t #[a, b, c]) : HB (((w.setCell ⟨g, 0, none⟩ n).setCell ⟨g, 1, none⟩ d).setCell ⟨g, 2, none⟩ e) g t #[n, d, e] := by
  have := ((h.set_ 0 n).set_ 1 d).set_ 2 e
  simpa using this
theorem far_set (w : World) (g i : Nat) (u : Value) : Far g w (w.setCell ⟨g, i, none⟩ u) := ⟨rfl, rfl, rfl, by simp [World.setCell], fun k hk => Below.heap_setCell w ⟨g, i, none⟩ u k hk⟩
theorem Far.trans (h : Far g w w') (k : Far g w' w'') : Far g w w'' :=
  ⟨k.os.trans h.os, k.tape.trans h.tape, k.output.trans h.output, k.size.trans h.size, fun j hj => (k.block j hj).trans (h.block j hj)⟩
theorem far2 (w : World) (g : Nat) (v1 v2 : Value) : Far g w ((w.setCell ⟨g, 0, none⟩ v1).setCell ⟨g, 1, none⟩ v2) := (far_set w g 0 v1).trans (far_set _ g 1 v2)
theorem far3 (w : World) (g : Nat) (v1 v2 v3 : Value) : Far g w (((w.setCell ⟨g, 0, none⟩ v1).setCell ⟨g, 1, none⟩ v2).setCell ⟨g, 2, none⟩ v3) := ((far_set w g 0 v1).trans (far_set _ g 1 v2)).trans (far_set _ g 2 v3)
theorem bw_far {base : Nat} (h : Below base W w) (hg : base ≤ g) (f : Far g w w') : Below base W w' :=
  h.trans ⟨f.os, f.tape, f.output, by rw [f.size]; exact Nat.le_refl _, fun k hk => f.block k (by omega)⟩
theorem bw_below {base : Nat} (hb : base ≤ w.heap.size) (h : Below base w w') (k : Below w'.heap.size w' w'') : Below base w w'' := h.trans (k.mono (Nat.le_trans hb h.size))
end
-- rows of the call that are its own
section
variable {w w' : World} {base base' m sz g : Nat} {e t : TypeId} {v : Value} {xs : List Value} {cs : Array Value}
theorem own_nil (w : World) (base : Nat) (e : TypeId) (sz : Nat) : w.ownsRow base e sz (.slice none 0 0) 0 [] := ⟨by simp, .inl ⟨rfl, rfl⟩⟩
theorem own_below (h : w.ownsRow base e sz v m xs) (k : Below w.heap.size w w') : w'.ownsRow base e sz v m xs := by
  refine ⟨h.1, ?_⟩
  rcases h.2 with z | ⟨g, cap, cur, rfl, hb, hh, r⟩
  · exact .inl z
  · exact .inr ⟨g, cap, cur, rfl, hb, (k.block g (HB.lt hh)).trans hh, r⟩
theorem own_alloc (h : w.ownsRow base e sz v m xs) (o : Obj) : (w.alloc o).ownsRow base e sz v m xs := own_below h (new_below w o)
theorem own_drewN (h : w.ownsRow base e sz v m xs) (n : Nat) : (w.drewN n).ownsRow base e sz v m xs := own_below h (below_dn (Below.refl _ _) n)
theorem own_base (h : w.ownsRow base e sz v m xs) (hb : base' ≤ base) : w.ownsRow base' e sz v m xs := by
  refine ⟨h.1, ?_⟩
  rcases h.2 with z | ⟨g, cap, cur, e1, hb', r⟩
  · exact .inl z
  · exact .inr ⟨g, cap, cur, e1, by omega, r⟩
theorem own_ne (h : w.ownsRow base e sz v m xs) (k : HB w g t cs) (ht : t ≠ e) : some g ≠ v.ownBlock := by
  rcases h.2 with ⟨rfl, _⟩ | ⟨g', cap, cur, rfl, _, hh, _⟩
  · simp [Value.ownBlock]
  · simp [Value.ownBlock]
    rintro rfl
    unfold HB at k
    rw [hh] at k
    injection k with k
    injection k with _ k
    exact ht k.symm
theorem own_lt (h : w.ownsRow base e sz v m xs) (hg : g < base) : some g ≠ v.ownBlock := by
  rcases h.2 with ⟨rfl, _⟩ | ⟨g', cap, cur, rfl, hb, _⟩
  · simp [Value.ownBlock]
  · simp [Value.ownBlock]; omega
theorem own_far (h : w.ownsRow base e sz v m xs) (hg : some g ≠ v.ownBlock) (f : Far g w w') : w'.ownsRow base e sz v m xs := by
  refine ⟨h.1, ?_⟩
  rcases h.2 with z | ⟨g', cap, cur, rfl, hb, hh, r⟩
  · exact .inl z
  · refine .inr ⟨g', cap, cur, rfl, hb, (f.block g' (fun e2 => hg ?_)).trans hh, r⟩
    simp [Value.ownBlock, e2]
theorem bw_grown (hb : base ≤ w.heap.size) {W : World} (h : Below base W w) (ho : w.ownsRow base e sz v m xs) (k : w.grownBy w' v.ownBlock) : Below base W w' := by
  refine h.grown k hb (fun j hj => ?_)
  rcases ho.2 with ⟨rfl, _⟩ | ⟨g', cap, cur, rfl, hb', _⟩
  · simp [Value.ownBlock] at hj
  · simp [Value.ownBlock] at hj; omega
end
section
variable {P : Program} {w : World} {ops : Array Oper} {rest : List Oper} {o : Oper} {a : Act} {K : Act → World → Prop} {Q : Exit → Act → World → Prop} {E : Prop}
/-- An append of one element (out of a block of its own) to a row of the call's own, in a walk: what was known of blocks of other types, and of blocks that are not the row's, stays. -/
theorem wpl_app (t e : TypeId) (hut : P.underlying t = some (.slice e)) (z : Value) (sz by_ : Nat) (hinfo : (P.info? e).map (fun i => (i.zero, i.size, i.bytes)) = some (some z, sz, by_)) (hzs : z.cells.size = sz) (hsz : 0 < sz)
    (hgd : o.guard = none) (s x : Operand) (ho : o.op = .call { callee := .builtin .append, args := #[s, x], argTypes := #[t, t] })
    (base : Nat) (v : Value) (n : Nat) (xs : List Value) (hs : a.eval s = v) (hown : w.ownsRow base e sz v n xs) (gb : Nat) (news : Array Value) (hx : a.eval x = .slice (some ⟨gb, 0, none⟩) 1 1) (hnews : HB w gb e news) (hl : news.size = sz) (h1 : ∀ u ∈ news.toList, u.oneCell' = true)
    (hn : (n + 1) * by_ ≤ 140737488355328) (hn2 : n + 1 ≤ maxLen) (hbase : base ≤ w.heap.size)
    (h : ∀ g cap w', Hid (w'.ownsRow base e sz (.slice (some ⟨g, 0, none⟩) (n + 1) cap) (n + 1) (xs ++ news.toList)) → (∀ g t cs, some g ≠ v.ownBlock → HB w g t cs → HB w' g t cs) → (∀ W, Below base W w → Below base W w') → wpList P ops Q rest (a.put o.dst (.slice (some ⟨g, 0, none⟩) (n + 1) cap)) w') :
    wpList P ops Q (o :: rest) a w := by
  obtain ⟨i0, hi0, hz0, hz1, hz2⟩ := info_parts hinfo
  refine wpList_append_lies w hgd s x t ho base e i0 z sz by_ hut hi0 hz0 hz1 hz2 hzs hsz v n xs hs hown ⟨gb, 0, none⟩ 1 1 news.toList hx (by simp [hl]) (World.news_of_block (cs := news) hnews) h1 (by omega) hn2 hn hbase _ rfl ?_
  intro g cap w' hown' hg _ _
  exact h g cap w' (Lib.hid hown') (fun g' t cs hne hb => hb.grown hg hne) (fun W hW => bw_grown hbase hW hown hg)
/-- The same at a step of a region that draws its order. -/
theorem step_app (t e : TypeId) (hut : P.underlying t = some (.slice e)) (z : Value) (sz by_ : Nat) (hinfo : (P.info? e).map (fun i => (i.zero, i.size, i.bytes)) = some (some z, sz, by_)) (hzs : z.cells.size = sz) (hsz : 0 < sz)
    (hgd : o.guard = none) (s x : Operand) (ho : o.op = .call { callee := .builtin .append, args := #[s, x], argTypes := #[t, t] })
    (base : Nat) (v : Value) (n : Nat) (xs : List Value) (hs : a.eval s = v) (hown : w.ownsRow base e sz v n xs) (gb : Nat) (news : Array Value) (hx : a.eval x = .slice (some ⟨gb, 0, none⟩) 1 1) (hnews : HB w gb e news) (hl : news.size = sz) (h1 : ∀ u ∈ news.toList, u.oneCell' = true)
    (hn : (n + 1) * by_ ≤ 140737488355328) (hn2 : n + 1 ≤ maxLen) (hbase : base ≤ w.heap.size)
    (h : ∀ g cap w', Hid (w'.ownsRow base e sz (.slice (some ⟨g, 0, none⟩) (n + 1) cap) (n + 1) (xs ++ news.toList)) → (∀ g t cs, some g ≠ v.ownBlock → HB w g t cs → HB w' g t cs) → (∀ W, Below base W w → Below base W w') → K (a.put o.dst (.slice (some ⟨g, 0, none⟩) (n + 1) cap)) w') :
    if Region.wanted o (yielded ops a.tmps) = true then Oper.wp P o a w K Q else E := by
  obtain ⟨i0, hi0, hz0, hz1, hz2⟩ := info_parts hinfo
  refine step_append_lies w hgd s x t ho base e i0 z sz by_ hut hi0 hz0 hz1 hz2 hzs hsz v n xs hs hown ⟨gb, 0, none⟩ 1 1 news.toList hx (by simp [hl]) (World.news_of_block (cs := news) hnews) h1 (by omega) hn2 hn hbase _ rfl ?_
  intro g cap w' hown' hg _ _
  exact h g cap w' (Lib.hid hown') (fun g' t cs hne hb => hb.grown hg hne) (fun W hW => bw_grown hbase hW hown hg)
end
/-- A number of a list. -/
def nth (xs : List Int) (i : Nat) : Int := xs.getD i 0
/-- A slice of whole numbers that reads as a list. -/
def Is (w : World) (A : Option Addr) (xs : List Int) : Prop := 0 < xs.length → ∃ b o, A = some ⟨b, o, none⟩ ∧ b < w.heap.size ∧ ∀ k, k < xs.length → w.cell? ⟨b, o + k, none⟩ = some (.int .i64 (nth xs k))
/-- The same in a block from a number on. -/
def Isb (base : Nat) (w : World) (A : Option Addr) (xs : List Int) : Prop := 0 < xs.length → ∃ b o, A = some ⟨b, o, none⟩ ∧ base ≤ b ∧ b < w.heap.size ∧ ∀ k, k < xs.length → w.cell? ⟨b, o + k, none⟩ = some (.int .i64 (nth xs k))
/-- A slice of n elements of sz cells: cell j of element i holds f i j. -/
def Es (w : World) (A : Option Addr) (n sz : Nat) (f : Nat → Nat → Value) : Prop := 0 < n → ∃ b o, A = some ⟨b, o, none⟩ ∧ b < w.heap.size ∧ ∀ i j, i < n → j < sz → w.cell? ⟨b, o + i * sz + j, none⟩ = some (f i j)
section
variable {w w' : World} {A : Option Addr} {xs : List Int} {base base' g n sz : Nat} {f : Nat → Nat → Value}
theorem Is.below (h : Is w A xs) (hb : Below w.heap.size w w') : Is w' A xs := fun z => by
  obtain ⟨b, o, e, l, f⟩ := h z
  exact ⟨b, o, e, Nat.lt_of_lt_of_le l hb.size, fun k hk => (hb.cell (p := ⟨b, o + k, none⟩) l).trans (f k hk)⟩
theorem Is.drewN (h : Is w A xs) (n : Nat) : Is (w.drewN n) A xs := h
theorem Is.drew (h : Is w A xs) : Is w.drew A xs := h
theorem Isb.is (h : Isb base w A xs) : Is w A xs := fun z => by obtain ⟨b, o, e, _, l, f⟩ := h z; exact ⟨b, o, e, l, f⟩
theorem Isb.below (h : Isb base w A xs) (hb : Below w.heap.size w w') : Isb base w' A xs := fun z => by
  obtain ⟨b, o, e, q, l, f⟩ := h z
  exact ⟨b, o, e, q, Nat.lt_of_lt_of_le l hb.size, fun k hk => (hb.cell (p := ⟨b, o + k, none⟩) l).trans (f k hk)⟩
theorem Isb.mono (h : Isb base w A xs) (hb : base' ≤ base) : Isb base' w A xs := fun z => by
  obtain ⟨b, o, e, q, r⟩ := h z
  exact ⟨b, o, e, by omega, r⟩
theorem Isb.far_ (h : Isb base w A xs) (hg : g < base) (f : Far g w w') : Isb base w' A xs := fun z => by
  obtain ⟨b, o, e, q, l, k⟩ := h z
  exact ⟨b, o, e, q, by rw [f.size]; exact l, fun j hj => (World.cell?_of_block (w := w) (f.block b (by omega))).trans (k j hj)⟩
theorem is_nil (w : World) (A : Option Addr) : Is w A [] := fun z => absurd z (by simp)
theorem isb_nil (w : World) (base : Nat) (A : Option Addr) : Isb base w A [] := fun z => absurd z (by simp)
theorem is_row {t : TypeId} {cs : Array Value} (h : HB w g t cs) (hc : ∀ k, k < xs.length → cs[k]? = some (.int .i64 (nth xs k))) : Is w (some ⟨g, 0, none⟩) xs :=
  fun _ => ⟨g, 0, rfl, h.lt, fun k hk => by rw [Nat.zero_add, h.cell k]; exact hc k hk⟩
theorem Es.below (h : Es w A n sz f) (hb : Below w.heap.size w w') : Es w' A n sz f := fun z => by
  obtain ⟨b, o, e, l, k⟩ := h z
  exact ⟨b, o, e, Nat.lt_of_lt_of_le l hb.size, fun i j hi hj => (hb.cell (p := ⟨b, o + i * sz + j, none⟩) l).trans (k i j hi hj)⟩
theorem Es.drewN (h : Es w A n sz f) (k : Nat) : Es (w.drewN k) A n sz f := h
theorem Es.drew (h : Es w A n sz f) : Es w.drew A n sz f := h
theorem Es.take (h : Es w A n sz f) {k : Nat} (hk : k ≤ n) : Es w A k sz f := fun z => by
  obtain ⟨b, o, e, l, c⟩ := h (by omega)
  exact ⟨b, o, e, l, fun i j hi hj => c i j (by omega) hj⟩
theorem nth_of {i : Nat} (h : i < xs.length) : nth xs i = xs[i] := by simp [nth, List.getD, h]
theorem nth_past {i : Nat} (h : xs.length ≤ i) : nth xs i = 0 := by simp [nth, List.getD, h]
theorem nth_take {k j : Nat} (h : j < k) : nth (xs.take k) j = nth xs j := by simp [nth, List.getD_eq_getElem?_getD, List.getElem?_take_of_lt h]
theorem is_take (h : Is w A xs) (k : Nat) : Is w A (xs.take k) := fun z => by
  have l := List.length_take_le k xs
  have l2 := List.length_take_le' k xs
  obtain ⟨b, o, e, lt, c⟩ := h (by omega)
  refine ⟨b, o, e, lt, fun j hj => ?_⟩
  rw [nth_take (by omega)]
  exact c j (by omega)
theorem nth_app_lt {ys : List Int} {j : Nat} (h : j < xs.length) : nth (xs ++ ys) j = nth xs j := by simp [nth, List.getD_eq_getElem?_getD, List.getElem?_append_left h]
theorem nth_app_eq {y : Int} {j : Nat} (h : j = xs.length) : nth (xs ++ [y]) j = y := by subst h; simp [nth, List.getD_eq_getElem?_getD]
theorem list_same {xs ys : List Int} (hl : xs.length = ys.length) (h : ∀ j, j < xs.length → nth xs j = nth ys j) : xs = ys := by
  apply List.ext_getElem hl
  intro j h1 h2
  have := h j h1
  rwa [nth_of h1, nth_of h2] at this
end
/-- Whole numbers as values. -/
def intV (xs : List Int) : List Value := xs.map (.int .i64)
section
variable {w w' : World} {A : Option Addr} {xs : List Int} {base n c : Nat} {e : TypeId}
theorem intV_snoc (xs : List Int) (y : Int) : intV (xs ++ [y]) = intV xs ++ [.int .i64 y] := by simp [intV]
theorem own_isb (h : w.ownsRow base e 1 (.slice A n c) n (intV xs)) (hl : xs.length = n) : Isb base w A xs ∧ n ≤ c := by
  rcases h.2 with ⟨h0, h1⟩ | ⟨g, cap, cur, h0, hb, hh, hc, _, hsz, htk⟩
  · exact ⟨fun z => absurd z (by omega), by omega⟩
  · injection h0 with h0 _ h2
    refine ⟨fun z => ⟨g, 0, h0, hb, HB.lt hh, fun k hk => ?_⟩, by omega⟩
    have e1 : (intV xs)[k]? = some (.int .i64 (nth xs k)) := by simp [intV, nth, List.getD, hk]
    rw [← htk, Nat.mul_one, List.getElem?_take_of_lt (by omega)] at e1
    rw [Nat.zero_add, cell_of_row w g k cur e (0, 0) hh]
    simpa using e1
end
end Go.Proofs.YtibpgcdaommjeaaDoor
