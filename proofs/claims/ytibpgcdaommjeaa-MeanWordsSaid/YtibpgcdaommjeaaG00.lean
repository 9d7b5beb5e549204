/-
  What the texts of a seat lean on: blocks that are known whole, rows of the call's own, slices that read as lists. Over any program.
  Slices of structs that are handed in (an ask's names and nodes): what they are in memory, and how much they hold. Over any program.
  Asks: what slices of declared names and of nodes that are handed in are in memory. Over any program.
-/
import Derived.Test.YtibpgcdaommjeaaRows
import Derived.WalkKit
import Derived.WalkSpells
import Derived.WalkLawsBesides
import Derived.Handy
import Derived.Deep.QuietTactic
import Derived.BigQuiet
import Derived.IntWalk
import Derived.Lib.Hide
import Derived.OwnWalk
import Derived.Deep.RegionHeld3
import Derived.Deep.AppendLies
import Derived.Deep.DeepCutAuto
import Derived.Laws.MakeOwn
import Derived.Laws.Tables
import Derived.ProofKit
import Derived.Deep.Strs
import Derived.Lib.SmallJoins
namespace Go.Proofs.Ytibpgcdaommjeaa
open Go.RowKit

theorem below_after {a b c : World} (h : Below a.heap.size a b) (k : Below b.heap.size b c) : Below a.heap.size a c := h.trans (k.mono h.size)
theorem below_dn {B : Nat} {a w : World} (h : Below B a w) (n : Nat) : Below B a (w.drewN n) := ⟨h.os, h.tape, h.output, h.size, h.block⟩
theorem new_below (w : World) (o : Obj) : Below w.heap.size w (w.alloc o) := (Below.refl _ _).alloc (Nat.le_refl _) _
/-- A block that is known whole. -/
def HB (w : World) (g : Nat) (t : TypeId) (cs : Array Value) : Prop := w.heap[g]? = some (.cells cs t (0, 0))
/-- Nothing but one block has changed. -/
structure Far (g : Nat) (w w' : World) : Prop where
  os : w'.os = w.os
  tape : w'.tape = w.tape
  output : w'.output = w.output
  size : w'.heap.size = w.heap.size
  block : ∀ k, k ≠ g → w'.heap[k]? = w.heap[k]?
section
variable {w w' w'' W : World} {g g' t n : Nat} {cs : Array Value}
theorem HB.lt (h : HB w g t cs) : g < w.heap.size := by
  rcases Nat.lt_or_ge g w.heap.size with hlt | hge
  · exact hlt
  · unfold HB at h; rw [Array.getElem?_eq_none hge] at h; cases h
theorem HB.cell (h : HB w g t cs) (i : Nat) : w.cell? ⟨g, i, none⟩ = cs[i]? := cell_of_row w g i cs t (0, 0) h
theorem HB.frozen (h : HB w g t cs) (i : Nat) : w.frozen? ⟨g, i, none⟩ = false := by unfold HB at h; simp [World.frozen?, h]
theorem HB.new (w : World) (t : TypeId) (cs : Array Value) : HB (w.alloc (.cells cs t)) w.heap.size t cs := heap_alloc_new w _
theorem HB.new1 (w : World) (o : Obj) (t : TypeId) (cs : Array Value) : HB ((w.alloc o).alloc (.cells cs t)) (w.heap.size + 1) t cs := by simpa using HB.new (w.alloc o) t cs
theorem HB.new2 (w : World) (o1 o2 : Obj) (t : TypeId) (cs : Array Value) : HB (((w.alloc o1).alloc o2).alloc (.cells cs t)) (w.heap.size + 1 + 1) t cs := by simpa using HB.new ((w.alloc o1).alloc o2) t cs
theorem HB.new3 (w : World) (o1 o2 o3 : Obj) (t : TypeId) (cs : Array Value) : HB ((((w.alloc o1).alloc o2).alloc o3).alloc (.cells cs t)) (w.heap.size + 1 + 1 + 1) t cs := by simpa using HB.new (((w.alloc o1).alloc o2).alloc o3) t cs
theorem HB.drew (h : HB w g t cs) : HB w.drew g t cs := h
theorem HB.drewN (h : HB w g t cs) (k : Nat) : HB (w.drewN k) g t cs := h
theorem HB.alloc (h : HB w g t cs) (o : Obj) : HB (w.alloc o) g t cs := (Below.heap_alloc w o g h.lt).trans h
theorem HB.below (h : HB w g t cs) (k : Below w.heap.size w w') : HB w' g t cs := (k.block g h.lt).trans h
theorem HB.far (h : HB w g t cs) {p : Addr} (hp : g ≠ p.block) (u : Value) : HB (w.setCell p u) g t cs := (Below.heap_setCell w p u g hp).trans h
theorem HB.far_ (h : HB w g t cs) (hg : g ≠ g') (f : Far g' w w') : HB w' g t cs := (f.block g hg).trans h
theorem HB.set_ (h : HB w g t cs) (i : Nat) (u : Value) : HB (w.setCell ⟨g, i, none⟩ u) g t (cs.setIfInBounds i u) := by
  unfold HB at h ⊢
  simp [World.setCell, Array.getElem?_modify, h]
theorem HB.grown {row : Option Nat} (h : HB w g t cs) (hb : w.grownBy w' row) (hg : some g ≠ row) : HB w' g t cs := (hb.block g h.lt hg).trans h
theorem HB.one {v1 : Value} (h : HB w g t #[v1]) : w.cell? ⟨g, 0, none⟩ = some v1 ∧ w.frozen? ⟨g, 0, none⟩ = false := ⟨h.cell 0, h.frozen 0⟩
theorem HB.two {v1 v2 : Value} (h : HB w g t #[v1, v2]) : w.cell? ⟨g, 0, none⟩ = some v1 ∧ w.cell? ⟨g, 1, none⟩ = some v2 ∧ w.frozen? ⟨g, 0, none⟩ = false ∧ w.frozen? ⟨g, 1, none⟩ = false := ⟨h.cell 0, h.cell 1, h.frozen 0, h.frozen 1⟩
theorem HB.three {v1 v2 v3 : Value} (h : HB w g t #[v1, v2, v3]) : w.cell? ⟨g, 0, none⟩ = some v1 ∧ w.cell? ⟨g, 1, none⟩ = some v2 ∧ w.cell? ⟨g, 2, none⟩ = some v3 ∧ w.frozen? ⟨g, 0, none⟩ = false ∧ w.frozen? ⟨g, 1, none⟩ = false ∧ w.frozen? ⟨g, 2, none⟩ = false :=
  ⟨h.cell 0, h.cell 1, h.cell 2, h.frozen 0, h.frozen 1, h.frozen 2⟩
theorem HB.four {v1 v2 v3 v4 : Value} (h : HB w g t #[v1, v2, v3, v4]) : w.cell? ⟨g, 0, none⟩ = some v1 ∧ w.cell? ⟨g, 1, none⟩ = some v2 ∧ w.cell? ⟨g, 2, none⟩ = some v3 ∧ w.cell? ⟨g, 3, none⟩ = some v4 ∧
    w.frozen? ⟨g, 0, none⟩ = false ∧ w.frozen? ⟨g, 1, none⟩ = false ∧ w.frozen? ⟨g, 2, none⟩ = false ∧ w.frozen? ⟨g, 3, none⟩ = false :=
  ⟨h.cell 0, h.cell 1, h.cell 2, h.cell 3, h.frozen 0, h.frozen 1, h.frozen 2, h.frozen 3⟩
theorem HB.five {v1 v2 v3 v4 v5 : Value} (h : HB w g t #[v1, v2, v3, v4, v5]) : w.cell? ⟨g, 0, none⟩ = some v1 ∧ w.cell? ⟨g, 1, none⟩ = some v2 ∧ w.cell? ⟨g, 2, none⟩ = some v3 ∧ w.cell? ⟨g, 3, none⟩ = some v4 ∧ w.cell? ⟨g, 4, none⟩ = some v5 :=
  ⟨h.cell 0, h.cell 1, h.cell 2, h.cell 3, h.cell 4⟩
theorem hb_set1 {a n : Value} (h : HB w g t #[a]) : HB (w.setCell ⟨g, 0, none⟩ n) g t #[n] := by simpa using h.set_ 0 n
theorem hb_set2 {a b n d : Value} (h : HB w g t #[a, b]) : HB ((w.setCell ⟨g, 0, none⟩ n).setCell ⟨g, 1, none⟩ d) g t #[n, d] := by
  have := (h.set_ 0 n).set_ 1 d
  simpa using this
theorem hb_set3 {a b c n d e : Value} (h : HB w g t #[a, b, c]) : HB (((w.setCell ⟨g, 0, none⟩ n).setCell ⟨g, 1, none⟩ d).setCell ⟨g, 2, none⟩ e) g t #[n, d, e] := by
  have := ((h.set_ 0 n).set_ 1 d).set_ 2 e
  simpa using this
theorem far_set (w : World) (g i : Nat) (u : Value) : Far g w (w.setCell ⟨g, i, none⟩ u) := ⟨rfl, rfl, rfl, by simp [World.setCell], fun k hk => Below.heap_setCell w ⟨g, i, none⟩ u k hk⟩
theorem Far.trans (h : Far g w w') (k : Far g w' w'') : Far g w w'' :=
  ⟨k.os.trans h.os, k.tape.trans h.tape, k.output.trans h.output, k.size.trans h.size, fun j hj => (k.block j hj).trans (h.block j hj)⟩
theorem far2 (w : World) (g : Nat) (v1 v2 : Value) : Far g w ((w.setCell ⟨g, 0, none⟩ v1).setCell ⟨g, 1, none⟩ v2) := (far_set w g 0 v1).trans (far_set _ g 1 v2)
theorem far3 (w : World) (g : Nat) (v1 v2 v3 : Value) : Far g w (((w.setCell ⟨g, 0, none⟩ v1).setCell ⟨g, 1, none⟩ v2).setCell ⟨g, 2, none⟩ v3) := ((far_set w g 0 v1).trans (far_set _ g 1 v2)).trans (far_set _ g 2 v3)
theorem bw_far {base : Nat} (h : Below base W w) (hg : base ≤ g) (f : Far g w w') : Below base W w' :=
  h.trans ⟨f.os, f.tape, f.output, by rw [f.size]; exact Nat.le_refl _, fun k hk => f.block k (by omega)⟩
theorem bw_below {base : Nat} (hb : base ≤ w.heap.size) (h : Below base w w') (k : Below w'.heap.size w' w'') : Below base w w'' := h.trans (k.mono (Nat.le_trans hb h.size))
end
-- rows of the call that are its own
section
variable {w w' : World} {base base' m sz g : Nat} {e t : TypeId} {v : Value} {xs : List Value} {cs : Array Value}
theorem own_nil (w : World) (base : Nat) (e : TypeId) (sz : Nat) : w.ownsRow base e sz (.slice none 0 0) 0 [] := ⟨by simp, .inl ⟨rfl, rfl⟩⟩
theorem own_below (h : w.ownsRow base e sz v m xs) (k : Below w.heap.size w w') : w'.ownsRow base e sz v m xs := by
  refine ⟨h.1, ?_⟩
  rcases h.2 with z | ⟨g, cap, cur, rfl, hb, hh, r⟩
  · exact .inl z
  · exact .inr ⟨g, cap, cur, rfl, hb, (k.block g (HB.lt hh)).trans hh, r⟩
theorem own_alloc (h : w.ownsRow base e sz v m xs) (o : Obj) : (w.alloc o).ownsRow base e sz v m xs := own_below h (new_below w o)
theorem own_drewN (h : w.ownsRow base e sz v m xs) (n : Nat) : (w.drewN n).ownsRow base e sz v m xs := own_below h (below_dn (Below.refl _ _) n)
theorem own_base (h : w.ownsRow base e sz v m xs) (hb : base' ≤ base) : w.ownsRow base' e sz v m xs := by
  refine ⟨h.1, ?_⟩
  rcases h.2 with z | ⟨g, cap, cur, e1, hb', r⟩
  · exact .inl z
  · exact .inr ⟨g, cap, cur, e1, by omega, r⟩
theorem own_ne (h : w.ownsRow base e sz v m xs) (k : HB w g t cs) (ht : t ≠ e) : some g ≠ v.ownBlock := by
  rcases h.2 with ⟨rfl, _⟩ | ⟨g', cap, cur, rfl, _, hh, _⟩
  · simp [Value.ownBlock]
  · simp [Value.ownBlock]
    rintro rfl
    unfold HB at k
    rw [hh] at k
    injection k with k
    injection k with _ k
    exact ht k.symm
theorem own_lt (h : w.ownsRow base e sz v m xs) (hg : g < base) : some g ≠ v.ownBlock := by
  rcases h.2 with ⟨rfl, _⟩ | ⟨g', cap, cur, rfl, hb, _⟩
  · simp [Value.ownBlock]
  · simp [Value.ownBlock]; omega
theorem own_far (h : w.ownsRow base e sz v m xs) (hg : some g ≠ v.ownBlock) (f : Far g w w') : w'.ownsRow base e sz v m xs := by
  refine ⟨h.1, ?_⟩
  rcases h.2 with z | ⟨g', cap, cur, rfl, hb, hh, r⟩
  · exact .inl z
  · refine .inr ⟨g', cap, cur, rfl, hb, (f.block g' (fun e2 => hg ?_)).trans hh, r⟩
    simp [Value.ownBlock, e2]
theorem bw_grown (hb : base ≤ w.heap.size) {W : World} (h : Below base W w) (ho : w.ownsRow base e sz v m xs) (k : w.grownBy w' v.ownBlock) : Below base W w' := by
  refine h.grown k hb (fun j hj => ?_)
  rcases ho.2 with ⟨rfl, _⟩ | ⟨g', cap, cur, rfl, hb', _⟩
  · simp [Value.ownBlock] at hj
  · simp [Value.ownBlock] at hj; omega
end
section
variable {P : Program} {w : World} {ops : Array Oper} {rest : List Oper} {o : Oper} {a : Act} {K : Act → World → Prop} {Q : Exit → Act → World → Prop} {E : Prop}
/-- An append of one element (out of a block of its own) to a row of the call's own, in a walk: what was known of blocks of other types, and of blocks that are not the row's, stays. -/
theorem wpl_app (t e : TypeId) (hut : P.underlying t = some (.slice e)) (z : Value) (sz by_ : Nat) (hinfo : (P.info? e).map (fun i => (i.zero, i.size, i.bytes)) = some (some z, sz, by_)) (hzs : z.cells.size = sz) (hsz : 0 < sz)
    (hgd : o.guard = none) (s x : Operand) (ho : o.op = .call { callee := .builtin .append, args := #[s, x], argTypes := #[t, t] })
    (base : Nat) (v : Value) (n : Nat) (xs : List Value) (hs : a.eval s = v) (hown : w.ownsRow base e sz v n xs) (gb : Nat) (news : Array Value) (hx : a.eval x = .slice (some ⟨gb, 0, none⟩) 1 1) (hnews : HB w gb e news) (hl : news.size = sz) (h1 : ∀ u ∈ news.toList, u.oneCell' = true)
    (hn : (n + 1) * by_ ≤ 140737488355328) (hn2 : n + 1 ≤ maxLen) (hbase : base ≤ w.heap.size)
    (h : ∀ g cap w', Hid (w'.ownsRow base e sz (.slice (some ⟨g, 0, none⟩) (n + 1) cap) (n + 1) (xs ++ news.toList)) → (∀ g t cs, some g ≠ v.ownBlock → HB w g t cs → HB w' g t cs) → (∀ W, Below base W w → Below base W w') → wpList P ops Q rest (a.put o.dst (.slice (some ⟨g, 0, none⟩) (n + 1) cap)) w') :
    wpList P ops Q (o :: rest) a w := by
  obtain ⟨i0, hi0, hz0, hz1, hz2⟩ := info_parts hinfo
  refine wpList_append_lies w hgd s x t ho base e i0 z sz by_ hut hi0 hz0 hz1 hz2 hzs hsz v n xs hs hown ⟨gb, 0, none⟩ 1 1 news.toList hx (by simp [hl]) (World.news_of_block (cs := news) hnews) h1 (by omega) hn2 hn hbase _ rfl ?_
  intro g cap w' hown' hg _ _
  exact h g cap w' (Lib.hid hown') (fun g' t cs hne hb => hb.grown hg hne) (fun W hW => bw_grown hbase hW hown hg)
/-- The same at a step of a region that draws its order. -/
theorem step_app (t e : TypeId) (hut : P.underlying t = some (.slice e)) (z : Value) (sz by_ : Nat) (hinfo : (P.info? e).map (fun i => (i.zero, i.size, i.bytes)) = some (some z, sz, by_)) (hzs : z.cells.size = sz) (hsz : 0 < sz)
    (hgd : o.guard = none) (s x : Operand) (ho : o.op = .call { callee := .builtin .append, args := #[s, x], argTypes := #[t, t] })
    (base : Nat) (v : Value) (n : Nat) (xs : List Value) (hs : a.eval s = v) (hown : w.ownsRow base e sz v n xs) (gb : Nat) (news : Array Value) (hx : a.eval x = .slice (some ⟨gb, 0, none⟩) 1 1) (hnews : HB w gb e news) (hl : news.size = sz) (h1 : ∀ u ∈ news.toList, u.oneCell' = true)
    (hn : (n + 1) * by_ ≤ 140737488355328) (hn2 : n + 1 ≤ maxLen) (hbase : base ≤ w.heap.size)
    (h : ∀ g cap w', Hid (w'.ownsRow base e sz (.slice (some ⟨g, 0, none⟩) (n + 1) cap) (n + 1) (xs ++ news.toList)) → (∀ g t cs, some g ≠ v.ownBlock → HB w g t cs → HB w' g t cs) → (∀ W, Below base W w → Below base W w') → K (a.put o.dst (.slice (some ⟨g, 0, none⟩) (n + 1) cap)) w') :
    if Region.wanted o (yielded ops a.tmps) = true then Oper.wp P o a w K Q else E := by
  obtain ⟨i0, hi0, hz0, hz1, hz2⟩ := info_parts hinfo
  refine step_append_lies w hgd s x t ho base e i0 z sz by_ hut hi0 hz0 hz1 hz2 hzs hsz v n xs hs hown ⟨gb, 0, none⟩ 1 1 news.toList hx (by simp [hl]) (World.news_of_block (cs := news) hnews) h1 (by omega) hn2 hn hbase _ rfl ?_
  intro g cap w' hown' hg _ _
  exact h g cap w' (Lib.hid hown') (fun g' t cs hne hb => hb.grown hg hne) (fun W hW => bw_grown hbase hW hown hg)
end
/-- A number of a list. -/
def nth (xs : List Int) (i : Nat) : Int := xs.getD i 0
/-- A slice of whole numbers that reads as a list. -/
def Is (w : World) (A : Option Addr) (xs : List Int) : Prop := 0 < xs.length → ∃ b o, A = some ⟨b, o, none⟩ ∧ b < w.heap.size ∧ ∀ k, k < xs.length → w.cell? ⟨b, o + k, none⟩ = some (.int .i64 (nth xs k))
/-- The same in a block from a number on. -/
def Isb (base : Nat) (w : World) (A : Option Addr) (xs : List Int) : Prop := 0 < xs.length → ∃ b o, A = some ⟨b, o, none⟩ ∧ base ≤ b ∧ b < w.heap.size ∧ ∀ k, k < xs.length → w.cell? ⟨b, o + k, none⟩ = some (.int .i64 (nth xs k))
/-- A slice of n elements of sz cells: cell j of element i holds f i j. -/
def Es (w : World) (A : Option Addr) (n sz : Nat) (f : Nat → Nat → Value) : Prop := 0 < n → ∃ b o, A = some ⟨b, o, none⟩ ∧ b < w.heap.size ∧ ∀ i j, i < n → j < sz → w.cell? ⟨b, o + i * sz + j, none⟩ = some (f i j)
section
variable {w w' : World} {A : Option Addr} {xs : List Int} {base base' g n sz : Nat} {f : Nat → Nat → Value}
theorem Is.below (h : Is w A xs) (hb : Below w.heap.size w w') : Is w' A xs := fun z => by
  obtain ⟨b, o, e, l, f⟩ := h z
  exact ⟨b, o, e, Nat.lt_of_lt_of_le l hb.size, fun k hk => (hb.cell (p := ⟨b, o + k, none⟩) l).trans (f k hk)⟩
theorem Is.drewN (h : Is w A xs) (n : Nat) : Is (w.drewN n) A xs := h
theorem Is.drew (h : Is w A xs) : Is w.drew A xs := h
theorem Isb.is (h : Isb base w A xs) : Is w A xs := fun z => by obtain ⟨b, o, e, _, l, f⟩ := h z; exact ⟨b, o, e, l, f⟩
theorem Isb.below (h : Isb base w A xs) (hb : Below w.heap.size w w') : Isb base w' A xs := fun z => by
  obtain ⟨b, o, e, q, l, f⟩ := h z
  exact ⟨b, o, e, q, Nat.lt_of_lt_of_le l hb.size, fun k hk => (hb.cell (p := ⟨b, o + k, none⟩) l).trans (f k hk)⟩
theorem Isb.mono (h : Isb base w A xs) (hb : base' ≤ base) : Isb base' w A xs := fun z => by
  obtain ⟨b, o, e, q, r⟩ := h z
  exact ⟨b, o, e, by omega, r⟩
theorem Isb.far_ (h : Isb base w A xs) (hg : g < base) (f : Far g w w') : Isb base w' A xs := fun z => by
  obtain ⟨b, o, e, q, l, k⟩ := h z
  exact ⟨b, o, e, q, by rw [f.size]; exact l, fun j hj => (World.cell?_of_block (w := w) (f.block b (by omega))).trans (k j hj)⟩
theorem is_nil (w : World) (A : Option Addr) : Is w A [] := fun z => absurd z (by simp)
theorem isb_nil (w : World) (base : Nat) (A : Option Addr) : Isb base w A [] := fun z => absurd z (by simp)
theorem is_row {t : TypeId} {cs : Array Value} (h : HB w g t cs) (hc : ∀ k, k < xs.length → cs[k]? = some (.int .i64 (nth xs k))) : Is w (some ⟨g, 0, none⟩) xs :=
  fun _ => ⟨g, 0, rfl, h.lt, fun k hk => by rw [Nat.zero_add, h.cell k]; exact hc k hk⟩
theorem Es.below (h : Es w A n sz f) (hb : Below w.heap.size w w') : Es w' A n sz f := fun z => by
  obtain ⟨b, o, e, l, k⟩ := h z
  exact ⟨b, o, e, Nat.lt_of_lt_of_le l hb.size, fun i j hi hj => (hb.cell (p := ⟨b, o + i * sz + j, none⟩) l).trans (k i j hi hj)⟩
theorem Es.drewN (h : Es w A n sz f) (k : Nat) : Es (w.drewN k) A n sz f := h
theorem Es.drew (h : Es w A n sz f) : Es w.drew A n sz f := h
theorem Es.take (h : Es w A n sz f) {k : Nat} (hk : k ≤ n) : Es w A k sz f := fun z => by
  obtain ⟨b, o, e, l, c⟩ := h (by omega)
  exact ⟨b, o, e, l, fun i j hi hj => c i j (by omega) hj⟩
theorem nth_of {i : Nat} (h : i < xs.length) : nth xs i = xs[i] := by simp [nth, List.getD, h]
theorem nth_past {i : Nat} (h : xs.length ≤ i) : nth xs i = 0 := by simp [nth, List.getD, h]
theorem nth_take {k j : Nat} (h : j < k) : nth (xs.take k) j = nth xs j := by simp [nth, List.getD_eq_getElem?_getD, List.getElem?_take_of_lt h]
theorem is_take (h : Is w A xs) (k : Nat) : Is w A (xs.take k) := fun z => by
  have l := List.length_take_le k xs
  have l2 := List.length_take_le' k xs
  obtain ⟨b, o, e, lt, c⟩ := h (by omega)
  refine ⟨b, o, e, lt, fun j hj => ?_⟩
  rw [nth_take (by omega)]
  exact c j (by omega)
theorem nth_app_lt {ys : List Int} {j : Nat} (h : j < xs.length) : nth (xs ++ ys) j = nth xs j := by simp [nth, List.getD_eq_getElem?_getD, List.getElem?_append_left h]
theorem nth_app_eq {y : Int} {j : Nat} (h : j = xs.length) : nth (xs ++ [y]) j = y := by subst h; simp [nth, List.getD_eq_getElem?_getD]
theorem list_same {xs ys : List Int} (hl : xs.length = ys.length) (h : ∀ j, j < xs.length → nth xs j = nth ys j) : xs = ys := by
  apply List.ext_getElem hl
  intro j h1 h2
  have := h j h1
  rwa [nth_of h1, nth_of h2] at this
end
/-- Whole numbers as values. -/
def intV (xs : List Int) : List Value := xs.map (.int .i64)
section
variable {w w' : World} {A : Option Addr} {xs : List Int} {base n c : Nat} {e : TypeId}
theorem intV_snoc (xs : List Int) (y : Int) : intV (xs ++ [y]) = intV xs ++ [.int .i64 y] := by simp [intV]
theorem own_isb (h : w.ownsRow base e 1 (.slice A n c) n (intV xs)) (hl : xs.length = n) : Isb base w A xs ∧ n ≤ c := by
  rcases h.2 with ⟨h0, h1⟩ | ⟨g, cap, cur, h0, hb, hh, hc, _, hsz, htk⟩
  · exact ⟨fun z => absurd z (by omega), by omega⟩
  · injection h0 with h0 _ h2
    refine ⟨fun z => ⟨g, 0, h0, hb, HB.lt hh, fun k hk => ?_⟩, by omega⟩
    have e1 : (intV xs)[k]? = some (.int .i64 (nth xs k)) := by simp [intV, nth, List.getD, hk]
    rw [← htk, Nat.mul_one, List.getElem?_take_of_lt (by omega)] at e1
    rw [Nat.zero_add, cell_of_row w g k cur e (0, 0) hh]
    simpa using e1
end
end Go.Proofs.Ytibpgcdaommjeaa
namespace Go.Proofs.Ytibpgcdaommjeaa
open Go.ChangeShapes Go.WideShapes Go.ChangeAt Go.RowKit Go.Joins Go.Deep

theorem bulk_nth {H : Type} {ds : List (DataW H)} {d : DataW H} (i : Nat) (h : ds[i]? = some d) : Rows.uptoBulk d ≤ Rows.uptoBulkAll ds := by
  induction ds generalizing i with
  | nil => simp at h
  | cons x r ih =>
    rw [Rows.uptoBulkAll]
    cases i with
    | zero => simp at h; subst h; omega
    | succ i => have := ih i (by simpa using h); omega
theorem bulk_ints {H : Type} (zs : List Int) : Rows.uptoBulkAll (lits (H := H) .i64 zs) = zs.length := by
  induction zs with
  | nil => rfl
  | cons z zs ih =>
    have : lits (H := H) .i64 (z :: zs) = .lit (.int .i64 z) :: lits .i64 zs := rfl
    have b1 : Rows.uptoBulk (DataW.lit (H := H) (.int .i64 z)) = 1 := by simp [Rows.uptoBulk]
    rw [this, Rows.uptoBulkAll, ih, b1, List.length_cons]
    omega
section
variable {H : Type} {enc : TypeId × Value → H} {P : Program} {W : World}
/-- A slice of whole numbers at any place. -/
theorem open_isP {t e : TypeId} (ht : P.underlying t = some (.slice e)) (he : P.underlying e = some (.int .i64)) (ce : P.cellsOf e = 1) {v : Value} {n : Nat} {y : DataW H × List MemPlace} (h : DataW.trod enc P W 0 (fun _ => true) true n t [v] = some y) :
    ∃ A c zs, v = .slice A (List.length zs) c ∧ zs.length ≤ c ∧ c ≤ maxLen ∧ Is W A zs ∧ (∀ x ∈ zs, (Lit.int .i64 x).wf = true) ∧ zs.length ≤ Rows.uptoBulk y.1 := by
  rcases open_ints ht he ce h with ⟨hcs, _⟩ | ⟨a, len, cap, zs, hcs, _, hl, hm, hz, hx, hcell, hw⟩
  · obtain rfl : v = .slice none 0 0 := by simpa using hcs
    exact ⟨none, 0, [], rfl, Nat.le_refl _, by unfold maxLen; omega, is_nil _ _, (fun x hx => absurd hx (by simp)), by simp⟩
  · obtain rfl : v = .slice (some a) len cap := by simpa using hcs
    simp only [if_true] at hz
    have hlen : (zs.take len).length = len := by rw [List.length_take]; omega
    refine ⟨some a, cap, zs.take len, by rw [hlen], by rw [hlen]; exact hl, hm, fun z => ?_, fun x hx => hw x (List.mem_of_mem_take hx), ?_⟩
    · rw [hlen] at z
      obtain ⟨b, off, spot⟩ := a
      have hspot : spot = none := by simpa [Addr.add] using World.cell?_spot (hcell 0 (by omega))
      subst hspot
      have hc : ∀ j, j < zs.length → W.cell? ⟨b, off + j, none⟩ = some (.int .i64 (zs.getD j 0)) := fun j hj => by rw [← add_plain]; exact hcell j hj
      refine ⟨b, off, rfl, World.block_lt_of_cell? W _ (hc 0 (by omega)), fun k hk => ?_⟩
      rw [hc k (by omega)]
      have : nth (zs.take len) k = zs.getD k 0 := nth_take (by omega)
      rw [this]
    · rw [hlen, hx, Rows.uptoBulk, bulk_ints, bulk_ints, List.length_take, List.length_drop]
      omega
/-- A slice of anything: what holds of each element that is read holds of each element. -/
theorem open_els {α : Type} [Inhabited α] {t e : TypeId} {k : Nat} (ht : P.underlying t = some (.slice e)) (ce : P.cellsOf e = k) (hk : 0 < k) (E : α → List Value → DataW H → Prop)
    (hE : ∀ (n : Nat) (cs : List Value) (y : DataW H × List MemPlace), cs.length = k → DataW.trod enc P W 0 (fun _ => true) true n e cs = some y → ∃ q, E q cs y.1)
    {fuel : Nat} {cs : List Value} {x : DataW H × List MemPlace} (h : DataW.trod enc P W 0 (fun _ => true) true fuel t cs = some x) :
    ∃ (A : Option Addr) (c : Nat) (qs : List α) (ds : List (DataW H)), cs = [.slice A qs.length c] ∧ qs.length ≤ c ∧ c ≤ maxLen ∧ ds.length = qs.length ∧ Rows.uptoBulkAll ds ≤ Rows.uptoBulk x.1 ∧
      (0 < qs.length → ∃ b o, A = some ⟨b, o, none⟩ ∧ b < W.heap.size ∧ ∀ (i : Nat) (q : α), qs[i]? = some q → ∃ vs d, ds[i]? = some d ∧ E q vs d ∧ vs.length = k ∧ ∀ (j : Nat) (v : Value), vs[j]? = some v → W.cell? ⟨b, o + i * k + j, none⟩ = some v) := by
  rcases DataW.trod_slice ht h with ⟨rfl, _⟩ | ⟨a, len, cap, elems, rest, n, rfl, rfl, hx0, _, hl, hm, hlen, hel, _, _⟩
  · exact ⟨none, 0, [], [], rfl, Nat.le_refl _, by unfold maxLen; omega, rfl, by simp [Rows.uptoBulkAll], fun z => absurd z (by simp)⟩
  · have each : ∀ i, i < len → ∃ q : α, ∃ vs y, elems[i]? = some y ∧ E q vs y.1 ∧ vs.length = k ∧ ∀ (j : Nat) (v : Value), vs[j]? = some v → W.cell? (a.add (i * k + j)) = some v := by
      intro i hi
      have hy : elems[i]? = some (elems[i]'(by omega)) := List.getElem?_eq_getElem (by omega)
      have hb := (hel i hi).trans hy
      rw [ce] at hb
      obtain ⟨cs', k1, k2⟩ := Option.bind_eq_some_iff.1 hb
      obtain ⟨_, hcl, hcc⟩ := World.cells?_some k1
      obtain ⟨q, hq⟩ := hE n cs' _ hcl k2
      refine ⟨q, cs', _, hy, hq, hcl, fun j v hj => ?_⟩
      have hjl : j < k := by
        rcases Nat.lt_or_ge j k with z | z
        · exact z
        · rw [List.getElem?_eq_none (by omega)] at hj; cases hj
      have d := hcc j hjl
      rw [Addr.add_add, hj] at d
      exact d
    obtain ⟨F, hF⟩ := choose_lt each
    refine ⟨some a, cap, (List.range len).map F, elems.map (·.1), by simp, by simpa using hl, hm, by simp [hlen], ?_, fun z => ?_⟩
    · rw [hx0]
      show _ ≤ Rows.uptoBulk (.slice (elems.map (·.1)) (rest.map (·.1)))
      rw [Rows.uptoBulk]
      omega
    · simp at z
      obtain ⟨b, off, spot⟩ := a
      obtain ⟨vs0, _, _, _, hv0, hc0⟩ := hF 0 z
      have hg : vs0[0]? = some (vs0[0]'(by omega)) := List.getElem?_eq_getElem (by omega)
      have z0 := hc0 0 _ hg
      have hspot : spot = none := by simpa [Addr.add] using World.cell?_spot z0
      subst hspot
      rw [add_plain] at z0
      refine ⟨b, off, rfl, World.block_lt_of_cell? W _ z0, fun i q hq => ?_⟩
      have hi : i < len := by
        rcases Nat.lt_or_ge i len with z | z
        · exact z
        · rw [List.getElem?_eq_none (by simpa using z)] at hq; cases hq
      have hqe : q = F i := by simpa [hi] using hq.symm
      subst hqe
      obtain ⟨vs, y, hy, g1, g2, g3⟩ := hF i hi
      refine ⟨vs, y.1, by rw [List.getElem?_map, hy]; rfl, g1, g2, fun j v hj => ?_⟩
      have := g3 j v hj
      rw [add_plain] at this
      rw [Nat.add_assoc]
      exact this
end
end Go.Proofs.Ytibpgcdaommjeaa
namespace Go.Proofs.Ytibpgcdaommjeaa
open Go.ChangeShapes Go.WideShapes Go.ChangeAt Go.RowKit Go.Joins Go.Deep

/-- A declared name: the name, what it wants, what it is. -/
structure Dc where
  name : ByteArray
  args : List Int
  sort : Int
instance : Inhabited Dc := ⟨⟨ByteArray.empty, [], 0⟩⟩
/-- A node. -/
structure Nd where
  op : Int
  kids : List Int
  n : Int
  d : Int
  name : ByteArray
instance : Inhabited Nd := ⟨⟨0, [], 0, 0, ByteArray.empty⟩⟩
/-- The declared name lies in a block from a place on. -/
def Dc.In (w : World) (q : Dc) (b o : Nat) : Prop := w.cell? ⟨b, o, none⟩ = some (.string q.name) ∧ w.cell? ⟨b, o + 2, none⟩ = some (.int .i64 q.sort) ∧ q.name.size ≤ maxLen ∧
  ∃ A c, w.cell? ⟨b, o + 1, none⟩ = some (.slice A q.args.length c) ∧ q.args.length ≤ c ∧ c ≤ maxLen ∧ Is w A q.args
/-- The node lies in a block from a place on. -/
def Nd.In (w : World) (q : Nd) (b o : Nat) : Prop := w.cell? ⟨b, o, none⟩ = some (.int .i64 q.op) ∧ w.cell? ⟨b, o + 2, none⟩ = some (.int .i64 q.n) ∧ w.cell? ⟨b, o + 3, none⟩ = some (.int .i64 q.d) ∧ w.cell? ⟨b, o + 4, none⟩ = some (.string q.name) ∧ q.name.size ≤ maxLen ∧
  ∃ A c, w.cell? ⟨b, o + 1, none⟩ = some (.slice A q.kids.length c) ∧ q.kids.length ≤ c ∧ c ≤ maxLen ∧ Is w A q.kids
theorem Dc.In.below {w w' : World} {q : Dc} {b o : Nat} (h : q.In w b o) (hb : Below w.heap.size w w') (hl : b < w.heap.size) : q.In w' b o := by
  obtain ⟨h0, h2, h3, A, c, h1, h4, h5, h6⟩ := h
  exact ⟨(hb.cell (p := ⟨b, o, none⟩) hl).trans h0, (hb.cell (p := ⟨b, o + 2, none⟩) hl).trans h2, h3, A, c, (hb.cell (p := ⟨b, o + 1, none⟩) hl).trans h1, h4, h5, h6.below hb⟩
theorem Nd.In.below {w w' : World} {q : Nd} {b o : Nat} (h : q.In w b o) (hb : Below w.heap.size w w') (hl : b < w.heap.size) : q.In w' b o := by
  obtain ⟨h0, h2, h3, h4, h5, A, c, h1, h6, h7, h8⟩ := h
  exact ⟨(hb.cell (p := ⟨b, o, none⟩) hl).trans h0, (hb.cell (p := ⟨b, o + 2, none⟩) hl).trans h2, (hb.cell (p := ⟨b, o + 3, none⟩) hl).trans h3, (hb.cell (p := ⟨b, o + 4, none⟩) hl).trans h4, h5, A, c, (hb.cell (p := ⟨b, o + 1, none⟩) hl).trans h1, h6, h7, h8.below hb⟩
/-- Declared names at a slice's address. -/
def DsAt (w : World) (A : Option Addr) (qs : List Dc) : Prop := 0 < qs.length → ∃ b o, A = some ⟨b, o, none⟩ ∧ b < w.heap.size ∧ ∀ (i : Nat) (q : Dc), qs[i]? = some q → q.In w b (o + i * 3)
/-- Nodes at a slice's address. -/
def NsAt (w : World) (A : Option Addr) (qs : List Nd) : Prop := 0 < qs.length → ∃ b o, A = some ⟨b, o, none⟩ ∧ b < w.heap.size ∧ ∀ (i : Nat) (q : Nd), qs[i]? = some q → q.In w b (o + i * 5)
theorem DsAt.below {w w' : World} {A : Option Addr} {qs : List Dc} (h : DsAt w A qs) (hb : Below w.heap.size w w') : DsAt w' A qs := fun z => by
  obtain ⟨b, o, e, l, q⟩ := h z
  exact ⟨b, o, e, Nat.lt_of_lt_of_le l hb.size, fun i x hx => (q i x hx).below hb l⟩
theorem NsAt.below {w w' : World} {A : Option Addr} {qs : List Nd} (h : NsAt w A qs) (hb : Below w.heap.size w w') : NsAt w' A qs := fun z => by
  obtain ⟨b, o, e, l, q⟩ := h z
  exact ⟨b, o, e, Nat.lt_of_lt_of_le l hb.size, fun i x hx => (q i x hx).below hb l⟩
theorem DsAt.take {w : World} {A : Option Addr} {qs : List Dc} (h : DsAt w A qs) (k : Nat) : DsAt w A (qs.take k) := fun z => by
  obtain ⟨b, o, e, l, q⟩ := h (by rw [List.length_take] at z; omega)
  refine ⟨b, o, e, l, fun i x hx => q i x ?_⟩
  rw [List.getElem?_take] at hx
  split at hx
  · exact hx
  · cases hx
theorem NsAt.take {w : World} {A : Option Addr} {qs : List Nd} (h : NsAt w A qs) (k : Nat) : NsAt w A (qs.take k) := fun z => by
  obtain ⟨b, o, e, l, q⟩ := h (by rw [List.length_take] at z; omega)
  refine ⟨b, o, e, l, fun i x hx => q i x ?_⟩
  rw [List.getElem?_take] at hx
  split at hx
  · exact hx
  · cases hx
theorem bulk_len {H : Type} {ds : List (DataW H)} (h : ∀ (i : Nat) d, ds[i]? = some d → 1 ≤ Rows.uptoBulk d) : ds.length ≤ Rows.uptoBulkAll ds := by
  induction ds with
  | nil => simp
  | cons x r ih =>
    rw [Rows.uptoBulkAll, List.length_cons]
    have := h 0 x rfl
    have := ih (fun i d hd => h (i + 1) d (by simpa using hd))
    omega
section
variable {H : Type} {enc : TypeId × Value → H} {P : Program} {W : World}
/-- Declared names that are handed in: so many; each wants no more than the bulk. -/
theorem open_ds {t e ti ei : TypeId} {f0 f1 f2 : Field} (ht : P.underlying t = some (.slice e)) (he : P.underlying e = some (.struct #[f0, f1, f2])) (ce : P.cellsOf e = 3) (o0 : f0.offset = 0) (o1 : f1.offset = 1) (o2 : f2.offset = 2)
    (c0 : P.cellsOf f0.type = 1) (c1 : P.cellsOf f1.type = 1) (c2 : P.cellsOf f2.type = 1) (h0 : P.underlying f0.type = some .string) (h1 : f1.type = ti) (h2 : f2.type = ei)
    (hti : P.underlying ti = some (.slice ei)) (hei : P.underlying ei = some (.int .i64)) (cei : P.cellsOf ei = 1)
    {fuel : Nat} {cs : List Value} {x : DataW H × List MemPlace} (h : DataW.trod enc P W 0 (fun _ => true) true fuel t cs = some x) :
    ∃ (A : Option Addr) (c : Nat) (qs : List Dc), cs = [.slice A qs.length c] ∧ qs.length ≤ c ∧ c ≤ maxLen ∧ DsAt W A qs ∧ qs.length ≤ Rows.uptoBulk x.1 ∧ (∀ q ∈ qs, (Lit.int .i64 q.sort).wf = true ∧ (∀ z ∈ q.args, (Lit.int .i64 z).wf = true) ∧ q.args.length ≤ Rows.uptoBulk x.1) := by
  obtain ⟨A, c, qs, ds, e1, e2, e3, e4, e5, e6⟩ := open_els (α := Dc) (k := 3) ht ce (by omega) (fun q vs d => (∃ A c, vs = [.string q.name, .slice A q.args.length c, .int .i64 q.sort] ∧ q.name.size ≤ maxLen ∧ q.args.length ≤ c ∧ c ≤ maxLen ∧ Is W A q.args) ∧ (Lit.int .i64 q.sort).wf = true ∧ (∀ z ∈ q.args, (Lit.int .i64 z).wf = true) ∧ q.args.length + 1 ≤ Rows.uptoBulk d) (by
    intro n cs y hcl hy
    obtain ⟨xs, n', rfl, hx2, _, hxl, hf⟩ := DataW.trod_struct he hy
    match cs, hcl with
    | [v0, v1, v2], _ =>
      have q0 := hf 0 f0 rfl
      have q1 := hf 1 f1 rfl
      have q2 := hf 2 f2 rfl
      simp only [List.size_toArray, List.length_cons, List.length_nil] at hxl
      rw [o0, c0, List.getElem?_eq_getElem (by omega)] at q0
      rw [o1, c1, List.getElem?_eq_getElem (by omega), h1] at q1
      rw [o2, c2, List.getElem?_eq_getElem (by omega), h2] at q2
      obtain ⟨s, e0, _, l0⟩ := DataW.trod_string h0 q0
      obtain ⟨A, c, zs, e1, j1, j2, j3, j4, j5⟩ := open_isP hti hei cei (v := v1) q1
      obtain ⟨m, e2, _, w2⟩ := DataW.trod_int hei q2
      simp at e0 e2
      subst e0 e1 e2
      refine ⟨⟨s, zs, m⟩, ⟨A, c, rfl, l0, j1, j2, j3⟩, w2, j4, ?_⟩
      rw [hx2]
      show zs.length + 1 ≤ Rows.uptoBulk (.agg (xs.map (·.1)))
      rw [Rows.uptoBulk]
      have := bulk_nth (H := H) (ds := xs.map (·.1)) (d := (xs[1]'(by omega)).1) 1 (by simp [show 1 < xs.length by omega])
      omega) h
  have hget : ∀ (i : Nat) (q : Dc), qs[i]? = some q → i < qs.length := fun i q hq => by
    rcases Nat.lt_or_ge i qs.length with z | z
    · exact z
    · rw [List.getElem?_eq_none z] at hq; cases hq
  refine ⟨A, c, qs, e1, e2, e3, fun z => ?_, ?_, ?_⟩
  · obtain ⟨b, o, g1, g2, g3⟩ := e6 z
    refine ⟨b, o, g1, g2, fun i q hq => ?_⟩
    obtain ⟨vs, d, _, ⟨⟨A', c', rfl, k1, k2, k3, k4⟩, _⟩, _, k5⟩ := g3 i q hq
    exact ⟨k5 0 _ rfl, k5 2 _ rfl, k1, A', c', k5 1 _ rfl, k2, k3, k4⟩
  · have := bulk_len (H := H) (ds := ds) (fun i d hd => by
      have hi : i < ds.length := by
        rcases Nat.lt_or_ge i ds.length with z | z
        · exact z
        · rw [List.getElem?_eq_none z] at hd; cases hd
      obtain ⟨b, o, _, _, g3⟩ := e6 (by omega)
      obtain ⟨vs, d', hd', ⟨_, _, _, k⟩, _⟩ := g3 i (qs[i]'(by omega)) (List.getElem?_eq_getElem (by omega))
      rw [hd] at hd'
      cases hd'
      omega)
    omega
  · intro q hq
    obtain ⟨i, hi, rfl⟩ := List.getElem_of_mem hq
    obtain ⟨b, o, _, _, g3⟩ := e6 (by omega)
    obtain ⟨vs, d', hd', ⟨_, k1, k2, k3⟩, _⟩ := g3 i (qs[i]'(by omega)) (List.getElem?_eq_getElem (by omega))
    have := bulk_nth i hd'
    exact ⟨k1, k2, by omega⟩
/-- Nodes that are handed in. -/
theorem open_ns {t e ti ei : TypeId} {f0 f1 f2 f3 f4 : Field} (ht : P.underlying t = some (.slice e)) (he : P.underlying e = some (.struct #[f0, f1, f2, f3, f4])) (ce : P.cellsOf e = 5) (o0 : f0.offset = 0) (o1 : f1.offset = 1) (o2 : f2.offset = 2) (o3 : f3.offset = 3) (o4 : f4.offset = 4)
    (c0 : P.cellsOf f0.type = 1) (c1 : P.cellsOf f1.type = 1) (c2 : P.cellsOf f2.type = 1) (c3 : P.cellsOf f3.type = 1) (c4 : P.cellsOf f4.type = 1) (h4 : P.underlying f4.type = some .string) (h0 : f0.type = ei) (h1 : f1.type = ti) (h2 : f2.type = ei) (h3 : f3.type = ei)
    (hti : P.underlying ti = some (.slice ei)) (hei : P.underlying ei = some (.int .i64)) (cei : P.cellsOf ei = 1)
    {fuel : Nat} {cs : List Value} {x : DataW H × List MemPlace} (h : DataW.trod enc P W 0 (fun _ => true) true fuel t cs = some x) :
    ∃ (A : Option Addr) (c : Nat) (qs : List Nd), cs = [.slice A qs.length c] ∧ qs.length ≤ c ∧ c ≤ maxLen ∧ NsAt W A qs ∧ qs.length ≤ Rows.uptoBulk x.1 ∧ (∀ q ∈ qs, (Lit.int .i64 q.op).wf = true ∧ (Lit.int .i64 q.n).wf = true ∧ (Lit.int .i64 q.d).wf = true ∧ (∀ z ∈ q.kids, (Lit.int .i64 z).wf = true) ∧ q.kids.length ≤ Rows.uptoBulk x.1) := by
  obtain ⟨A, c, qs, ds, e1, e2, e3, e4, e5, e6⟩ := open_els (α := Nd) (k := 5) ht ce (by omega) (fun q vs d => (∃ A c, vs = [.int .i64 q.op, .slice A q.kids.length c, .int .i64 q.n, .int .i64 q.d, .string q.name] ∧ q.name.size ≤ maxLen ∧ q.kids.length ≤ c ∧ c ≤ maxLen ∧ Is W A q.kids) ∧ (Lit.int .i64 q.op).wf = true ∧ (Lit.int .i64 q.n).wf = true ∧ (Lit.int .i64 q.d).wf = true ∧ (∀ z ∈ q.kids, (Lit.int .i64 z).wf = true) ∧ q.kids.length + 1 ≤ Rows.uptoBulk d) (by
    intro n cs y hcl hy
    obtain ⟨xs, n', rfl, hx2, _, hxl, hf⟩ := DataW.trod_struct he hy
    match cs, hcl with
    | [v0, v1, v2, v3, v4], _ =>
      have q0 := hf 0 f0 rfl
      have q1 := hf 1 f1 rfl
      have q2 := hf 2 f2 rfl
      have q3 := hf 3 f3 rfl
      have q4 := hf 4 f4 rfl
      simp only [List.size_toArray, List.length_cons, List.length_nil] at hxl
      rw [o0, c0, List.getElem?_eq_getElem (by omega), h0] at q0
      rw [o1, c1, List.getElem?_eq_getElem (by omega), h1] at q1
      rw [o2, c2, List.getElem?_eq_getElem (by omega), h2] at q2
      rw [o3, c3, List.getElem?_eq_getElem (by omega), h3] at q3
      rw [o4, c4, List.getElem?_eq_getElem (by omega)] at q4
      obtain ⟨m0, e0, _, w0⟩ := DataW.trod_int hei q0
      obtain ⟨A, c, zs, e1, j1, j2, j3, j4, j5⟩ := open_isP hti hei cei (v := v1) q1
      obtain ⟨m2, e2, _, w2⟩ := DataW.trod_int hei q2
      obtain ⟨m3, e3, _, w3⟩ := DataW.trod_int hei q3
      obtain ⟨s, e4, _, l4⟩ := DataW.trod_string h4 q4
      simp at e0 e2 e3 e4
      subst e0 e1 e2 e3 e4
      refine ⟨⟨m0, zs, m2, m3, s⟩, ⟨A, c, rfl, l4, j1, j2, j3⟩, w0, w2, w3, j4, ?_⟩
      rw [hx2]
      show zs.length + 1 ≤ Rows.uptoBulk (.agg (xs.map (·.1)))
      rw [Rows.uptoBulk]
      have := bulk_nth (H := H) (ds := xs.map (·.1)) (d := (xs[1]'(by omega)).1) 1 (by simp [show 1 < xs.length by omega])
      omega) h
  refine ⟨A, c, qs, e1, e2, e3, fun z => ?_, ?_, ?_⟩
  · obtain ⟨b, o, g1, g2, g3⟩ := e6 z
    refine ⟨b, o, g1, g2, fun i q hq => ?_⟩
    obtain ⟨vs, d, _, ⟨⟨A', c', rfl, k1, k2, k3, k4⟩, _⟩, _, k5⟩ := g3 i q hq
    exact ⟨k5 0 _ rfl, k5 2 _ rfl, k5 3 _ rfl, k5 4 _ rfl, k1, A', c', k5 1 _ rfl, k2, k3, k4⟩
  · have := bulk_len (H := H) (ds := ds) (fun i d hd => by
      have hi : i < ds.length := by
        rcases Nat.lt_or_ge i ds.length with z | z
        · exact z
        · rw [List.getElem?_eq_none z] at hd; cases hd
      obtain ⟨b, o, _, _, g3⟩ := e6 (by omega)
      obtain ⟨vs, d', hd', ⟨_, _, _, _, _, k⟩, _⟩ := g3 i (qs[i]'(by omega)) (List.getElem?_eq_getElem (by omega))
      rw [hd] at hd'
      cases hd'
      omega)
    omega
  · intro q hq
    obtain ⟨i, hi, rfl⟩ := List.getElem_of_mem hq
    obtain ⟨b, o, _, _, g3⟩ := e6 (by omega)
    obtain ⟨vs, d', hd', ⟨_, k0, k1, k2, k3, k4⟩, _⟩ := g3 i (qs[i]'(by omega)) (List.getElem?_eq_getElem (by omega))
    have := bulk_nth i hd'
    exact ⟨k0, k1, k2, k3, by omega⟩
end
end Go.Proofs.Ytibpgcdaommjeaa
