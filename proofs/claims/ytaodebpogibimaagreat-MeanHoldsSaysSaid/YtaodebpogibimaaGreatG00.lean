/-
  What the texts of a seat lean on: blocks that are known whole, rows of the call's own, slices that read as lists. Over any program.
  Slices of structs that are handed in (an ask's names and nodes): what they are in memory, and how much they hold. Over any program.
  Asks: what slices of declared names and of nodes that are handed in are in memory. Over any program.
  Worlds: what values, rows of tables and meanings that are handed in are in memory. Over any program.
  Asks: sorts, letters of names, as the program tells them and as the reference does.
  Asks: every number of a list is as a function value tells.
  The contracts of frac's small functions: divisor is the greatest common divisor, size is the magnitude, valid tells whether a fraction is in lowest terms and within the bounds.
  The contracts of frac.Check and frac.Make: Make reduces by the greatest common divisor and tells the faults of its chapter.
-/
import Derived.Test.YtaodebpogibimaaGreatRows
import Derived.WalkKit
import Derived.WalkSpells
import Derived.WalkLawsBesides
import Derived.Handy
import Derived.Deep.QuietTactic
import Derived.BigQuiet
import Derived.IntWalk
import Derived.Lib.Hide
import Derived.OwnWalk
import Derived.Deep.RegionHeld3
import Derived.Deep.AppendLies
import Derived.Deep.DeepCutAuto
import Derived.Laws.MakeOwn
import Derived.Laws.Tables
import Derived.ProofKit
import Derived.Deep.Strs
import Derived.Lib.SmallJoins
namespace Go.Proofs.YtaodebpogibimaaGreat
open Go.RowKit

theorem below_after {a b c : World} (h : Below a.heap.size a b) (k : Below b.heap.size b c) : Below a.heap.size a c := h.trans (k.mono h.size)
theorem below_dn {B : Nat} {a w : World} (h : Below B a w) (n : Nat) : Below B a (w.drewN n) := ⟨h.os, h.tape, h.output, h.size, h.block⟩
theorem new_below (w : World) (o : Obj) : Below w.heap.size w (w.alloc o) := (Below.refl _ _).alloc (Nat.le_refl _) _
/-- A block that is known whole. -/
def HB (w : World) (g : Nat) (t : TypeId) (cs : Array Value) : Prop := w.heap[g]? = some (.cells cs t (0, 0))
/-- Nothing but one block has changed. -/
structure Far (g : Nat) (w w' : World) : Prop where
  os : w'.os = w.os
  tape : w'.tape = w.tape
  output : w'.output = w.output
  size : w'.heap.size = w.heap.size
  block : ∀ k, k ≠ g → w'.heap[k]? = w.heap[k]?
section
variable {w w' w'' W : World} {g g' t n : Nat} {cs : Array Value}
theorem HB.lt (h : HB w g t cs) : g < w.heap.size := by
  rcases Nat.lt_or_ge g w.heap.size with hlt | hge
  · exact hlt
  · unfold HB at h; rw [Array.getElem?_eq_none hge] at h; cases h
theorem HB.cell (h : HB w g t cs) (i : Nat) : w.cell? ⟨g, i, none⟩ = cs[i]? := cell_of_row w g i cs t (0, 0) h
theorem HB.frozen (h : HB w g t cs) (i : Nat) : w.frozen? ⟨g, i, none⟩ = false := by unfold HB at h; simp [World.frozen?, h]
theorem HB.new (w : World) (t : TypeId) (cs : Array Value) : HB (w.alloc (.cells cs t)) w.heap.size t cs := heap_alloc_new w _
theorem HB.new1 (w : World) (o : Obj) (t : TypeId) (cs : Array Value) : HB ((w.alloc o).alloc (.cells cs t)) (w.heap.size + 1) t cs := by simpa using HB.new (w.alloc o) t cs
theorem HB.new2 (w : World) (o1 o2 : Obj) (t : TypeId) (cs : Array Value) : HB (((w.alloc o1).alloc o2).alloc (.cells cs t)) (w.heap.size + 1 + 1) t cs := by simpa using HB.new ((w.alloc o1).alloc o2) t cs
theorem HB.new3 (w : World) (o1 o2 o3 : Obj) (t : TypeId) (cs : Array Value) : HB ((((w.alloc o1).alloc o2).alloc o3).alloc (.cells cs t)) (w.heap.size + 1 + 1 + 1) t cs := by simpa using HB.new (((w.alloc o1).alloc o2).alloc o3) t cs
theorem HB.drew (h : HB w g t cs) : HB w.drew g t cs := h
theorem HB.drewN (h : HB w g t cs) (k : Nat) : HB (w.drewN k) g t cs := h
theorem HB.alloc (h : HB w g t cs) (o : Obj) : HB (w.alloc o) g t cs := (Below.heap_alloc w o g h.lt).trans h
theorem HB.below (h : HB w g t cs) (k : Below w.heap.size w w') : HB w' g t cs := (k.block g h.lt).trans h
theorem HB.far (h : HB w g t cs) {p : Addr} (hp : g ≠ p.block) (u : Value) : HB (w.setCell p u) g t cs := (Below.heap_setCell w p u g hp).trans h
theorem HB.far_ (h : HB w g t cs) (hg : g ≠ g') (f : Far g' w w') : HB w' g t cs := (f.block g hg).trans h
theorem HB.set_ (h : HB w g t cs) (i : Nat) (u : Value) : HB (w.setCell ⟨g, i, none⟩ u) g t (cs.setIfInBounds i u) := by
  unfold HB at h ⊢
  simp [World.setCell, Array.getElem?_modify, h]
theorem HB.grown {row : Option Nat} (h : HB w g t cs) (hb : w.grownBy w' row) (hg : some g ≠ row) : HB w' g t cs := (hb.block g h.lt hg).trans h
theorem HB.one {v1 : Value} (h : HB w g t #[v1]) : w.cell? ⟨g, 0, none⟩ = some v1 ∧ w.frozen? ⟨g, 0, none⟩ = false := ⟨h.cell 0, h.frozen 0⟩
theorem HB.two {v1 v2 : Value} (h : HB w g t #[v1, v2]) : w.cell? ⟨g, 0, none⟩ = some v1 ∧ w.cell? ⟨g, 1, none⟩ = some v2 ∧ w.frozen? ⟨g, 0, none⟩ = false ∧ w.frozen? ⟨g, 1, none⟩ = false := ⟨h.cell 0, h.cell 1, h.frozen 0, h.frozen 1⟩
theorem HB.three {v1 v2 v3 : Value} (h : HB w g t #[v1, v2, v3]) : w.cell? ⟨g, 0, none⟩ = some v1 ∧ w.cell? ⟨g, 1, none⟩ = some v2 ∧ w.cell? ⟨g, 2, none⟩ = some v3 ∧ w.frozen? ⟨g, 0, none⟩ = false ∧ w.frozen? ⟨g, 1, none⟩ = false ∧ w.frozen? ⟨g, 2, none⟩ = false :=
  ⟨h.cell 0, h.cell 1, h.cell 2, h.frozen 0, h.frozen 1, h.frozen 2⟩
theorem HB.four {v1 v2 v3 v4 : Value} (h : HB w g t #[v1, v2, v3, v4]) : w.cell? ⟨g, 0, none⟩ = some v1 ∧ w.cell? ⟨g, 1, none⟩ = some v2 ∧ w.cell? ⟨g, 2, none⟩ = some v3 ∧ w.cell? ⟨g, 3, none⟩ = some v4 ∧
    w.frozen? ⟨g, 0, none⟩ = false ∧ w.frozen? ⟨g, 1, none⟩ = false ∧ w.frozen? ⟨g, 2, none⟩ = false ∧ w.frozen? ⟨g, 3, none⟩ = false :=
  ⟨h.cell 0, h.cell 1, h.cell 2, h.cell 3, h.frozen 0, h.frozen 1, h.frozen 2, h.frozen 3⟩
theorem HB.five {v1 v2 v3 v4 v5 : Value} (h : HB w g t #[v1, v2, v3, v4, v5]) : w.cell? ⟨g, 0, none⟩ = some v1 ∧ w.cell? ⟨g, 1, none⟩ = some v2 ∧ w.cell? ⟨g, 2, none⟩ = some v3 ∧ w.cell? ⟨g, 3, none⟩ = some v4 ∧ w.cell? ⟨g, 4, none⟩ = some v5 :=
  ⟨h.cell 0, h.cell 1, h.cell 2, h.cell 3, h.cell 4⟩
theorem hb_set1 {a n : Value} (h : HB w g t #[a]) : HB (w.setCell ⟨g, 0, none⟩ n) g t #[n] := by simpa using h.set_ 0 n
theorem hb_set2 {a b n d : Value} (h : HB w g t #[a, b]) : HB ((w.setCell ⟨g, 0, none⟩ n).setCell ⟨g, 1, none⟩ d) g t #[n, d] := by
  have := (h.set_ 0 n).set_ 1 d
  simpa using this
theorem hb_set3 {a b c n d e : Value} (h : HB w g t #[a, b, c]) : HB (((w.setCell ⟨g, 0, none⟩ n).setCell ⟨g, 1, none⟩ d).setCell ⟨g, 2, none⟩ e) g t #[n, d, e] := by
  have := ((h.set_ 0 n).set_ 1 d).set_ 2 e
  simpa using this
theorem far_set (w : World) (g i : Nat) (u : Value) : Far g w (w.setCell ⟨g, i, none⟩ u) := ⟨rfl, rfl, rfl, by simp [World.setCell], fun k hk => Below.heap_setCell w ⟨g, i, none⟩ u k hk⟩
theorem Far.trans (h : Far g w w') (k : Far g w' w'') : Far g w w'' :=
  ⟨k.os.trans h.os, k.tape.trans h.tape, k.output.trans h.output, k.size.trans h.size, fun j hj => (k.block j hj).trans (h.block j hj)⟩
theorem far2 (w : World) (g : Nat) (v1 v2 : Value) : Far g w ((w.setCell ⟨g, 0, none⟩ v1).setCell ⟨g, 1, none⟩ v2) := (far_set w g 0 v1).trans (far_set _ g 1 v2)
theorem far3 (w : World) (g : Nat) (v1 v2 v3 : Value) : Far g w (((w.setCell ⟨g, 0, none⟩ v1).setCell ⟨g, 1, none⟩ v2).setCell ⟨g, 2, none⟩ v3) := ((far_set w g 0 v1).trans (far_set _ g 1 v2)).trans (far_set _ g 2 v3)
theorem bw_far {base : Nat} (h : Below base W w) (hg : base ≤ g) (f : Far g w w') : Below base W w' :=
  h.trans ⟨f.os, f.tape, f.output, by rw [f.size]; exact Nat.le_refl _, fun k hk => f.block k (by omega)⟩
theorem bw_below {base : Nat} (hb : base ≤ w.heap.size) (h : Below base w w') (k : Below w'.heap.size w' w'') : Below base w w'' := h.trans (k.mono (Nat.le_trans hb h.size))
end
-- rows of the call that are its own
section
variable {w w' : World} {base base' m sz g : Nat} {e t : TypeId} {v : Value} {xs : List Value} {cs : Array Value}
theorem own_nil (w : World) (base : Nat) (e : TypeId) (sz : Nat) : w.ownsRow base e sz (.slice none 0 0) 0 [] := ⟨by simp, .inl ⟨rfl, rfl⟩⟩
theorem own_below (h : w.ownsRow base e sz v m xs) (k : Below w.heap.size w w') : w'.ownsRow base e sz v m xs := by
  refine ⟨h.1, ?_⟩
  rcases h.2 with z | ⟨g, cap, cur, rfl, hb, hh, r⟩
  · exact .inl z
  · exact .inr ⟨g, cap, cur, rfl, hb, (k.block g (HB.lt hh)).trans hh, r⟩
theorem own_alloc (h : w.ownsRow base e sz v m xs) (o : Obj) : (w.alloc o).ownsRow base e sz v m xs := own_below h (new_below w o)
theorem own_drewN (h : w.ownsRow base e sz v m xs) (n : Nat) : (w.drewN n).ownsRow base e sz v m xs := own_below h (below_dn (Below.refl _ _) n)
theorem own_base (h : w.ownsRow base e sz v m xs) (hb : base' ≤ base) : w.ownsRow base' e sz v m xs := by
  refine ⟨h.1, ?_⟩
  rcases h.2 with z | ⟨g, cap, cur, e1, hb', r⟩
  · exact .inl z
  · exact .inr ⟨g, cap, cur, e1, by omega, r⟩
theorem own_ne (h : w.ownsRow base e sz v m xs) (k : HB w g t cs) (ht : t ≠ e) : some g ≠ v.ownBlock := by
  rcases h.2 with ⟨rfl, _⟩ | ⟨g', cap, cur, rfl, _, hh, _⟩
  · simp [Value.ownBlock]
  · simp [Value.ownBlock]
    rintro rfl
    unfold HB at k
    rw [hh] at k
    injection k with k
    injection k with _ k
    exact ht k.symm
theorem own_lt (h : w.ownsRow base e sz v m xs) (hg : g < base) : some g ≠ v.ownBlock := by
  rcases h.2 with ⟨rfl, _⟩ | ⟨g', cap, cur, rfl, hb, _⟩
  · simp [Value.ownBlock]
  · simp [Value.ownBlock]; omega
theorem own_far (h : w.ownsRow base e sz v m xs) (hg : some g ≠ v.ownBlock) (f : Far g w w') : w'.ownsRow base e sz v m xs := by
  refine ⟨h.1, ?_⟩
  rcases h.2 with z | ⟨g', cap, cur, rfl, hb, hh, r⟩
  · exact .inl z
  · refine .inr ⟨g', cap, cur, rfl, hb, (f.block g' (fun e2 => hg ?_)).trans hh, r⟩
    simp [Value.ownBlock, e2]
theorem bw_grown (hb : base ≤ w.heap.size) {W : World} (h : Below base W w) (ho : w.ownsRow base e sz v m xs) (k : w.grownBy w' v.ownBlock) : Below base W w' := by
  refine h.grown k hb (fun j hj => ?_)
  rcases ho.2 with ⟨rfl, _⟩ | ⟨g', cap, cur, rfl, hb', _⟩
  · simp [Value.ownBlock] at hj
  · simp [Value.ownBlock] at hj; omega
end
section
variable {P : Program} {w : World} {ops : Array Oper} {rest : List Oper} {o : Oper} {a : Act} {K : Act → World → Prop} {Q : Exit → Act → World → Prop} {E : Prop}
/-- An append of one element (out of a block of its own) to a row of the call's own, in a walk: what was known of blocks of other types, and of blocks that are not the row's, stays. -/
theorem wpl_app (t e : TypeId) (hut : P.underlying t = some (.slice e)) (z : Value) (sz by_ : Nat) (hinfo : (P.info? e).map (fun i => (i.zero, i.size, i.bytes)) = some (some z, sz, by_)) (hzs : z.cells.size = sz) (hsz : 0 < sz)
    (hgd : o.guard = none) (s x : Operand) (ho : o.op = .call { callee := .builtin .append, args := #[s, x], argTypes := #[t, t] })
    (base : Nat) (v : Value) (n : Nat) (xs : List Value) (hs : a.eval s = v) (hown : w.ownsRow base e sz v n xs) (gb : Nat) (news : Array Value) (hx : a.eval x = .slice (some ⟨gb, 0, none⟩) 1 1) (hnews : HB w gb e news) (hl : news.size = sz) (h1 : ∀ u ∈ news.toList, u.oneCell' = true)
    (hn : (n + 1) * by_ ≤ 140737488355328) (hn2 : n + 1 ≤ maxLen) (hbase : base ≤ w.heap.size)
    (h : ∀ g cap w', Hid (w'.ownsRow base e sz (.slice (some ⟨g, 0, none⟩) (n + 1) cap) (n + 1) (xs ++ news.toList)) → (∀ g t cs, some g ≠ v.ownBlock → HB w g t cs → HB w' g t cs) → (∀ W, Below base W w → Below base W w') → wpList P ops Q rest (a.put o.dst (.slice (some ⟨g, 0, none⟩) (n + 1) cap)) w') :
    wpList P ops Q (o :: rest) a w := by
  obtain ⟨i0, hi0, hz0, hz1, hz2⟩ := info_parts hinfo
  refine wpList_append_lies w hgd s x t ho base e i0 z sz by_ hut hi0 hz0 hz1 hz2 hzs hsz v n xs hs hown ⟨gb, 0, none⟩ 1 1 news.toList hx (by simp [hl]) (World.news_of_block (cs := news) hnews) h1 (by omega) hn2 hn hbase _ rfl ?_
  intro g cap w' hown' hg _ _
  exact h g cap w' (Lib.hid hown') (fun g' t cs hne hb => hb.grown hg hne) (fun W hW => bw_grown hbase hW hown hg)
/-- The same at a step of a region that draws its order. -/
theorem step_app (t e : TypeId) (hut : P.underlying t = some (.slice e)) (z : Value) (sz by_ : Nat) (hinfo : (P.info? e).map (fun i => (i.zero, i.size, i.bytes)) = some (some z, sz, by_)) (hzs : z.cells.size = sz) (hsz : 0 < sz)
    (hgd : o.guard = none) (s x : Operand) (ho : o.op = .call { callee := .builtin .append, args := #[s, x], argTypes := #[t, t] })
    (base : Nat) (v : Value) (n : Nat) (xs : List Value) (hs : a.eval s = v) (hown : w.ownsRow base e sz v n xs) (gb : Nat) (news : Array Value) (hx : a.eval x = .slice (some ⟨gb, 0, none⟩) 1 1) (hnews : HB w gb e news) (hl : news.size = sz) (h1 : ∀ u ∈ news.toList, u.oneCell' = true)
    (hn : (n + 1) * by_ ≤ 140737488355328) (hn2 : n + 1 ≤ maxLen) (hbase : base ≤ w.heap.size)
    (h : ∀ g cap w', Hid (w'.ownsRow base e sz (.slice (some ⟨g, 0, none⟩) (n + 1) cap) (n + 1) (xs ++ news.toList)) → (∀ g t cs, some g ≠ v.ownBlock → HB w g t cs → HB w' g t cs) → (∀ W, Below base W w → Below base W w') → K (a.put o.dst (.slice (some ⟨g, 0, none⟩) (n + 1) cap)) w') :
    if Region.wanted o (yielded ops a.tmps) = true then Oper.wp P o a w K Q else E := by
  obtain ⟨i0, hi0, hz0, hz1, hz2⟩ := info_parts hinfo
  refine step_append_lies w hgd s x t ho base e i0 z sz by_ hut hi0 hz0 hz1 hz2 hzs hsz v n xs hs hown ⟨gb, 0, none⟩ 1 1 news.toList hx (by simp [hl]) (World.news_of_block (cs := news) hnews) h1 (by omega) hn2 hn hbase _ rfl ?_
  intro g cap w' hown' hg _ _
  exact h g cap w' (Lib.hid hown') (fun g' t cs hne hb => hb.grown hg hne) (fun W hW => bw_grown hbase hW hown hg)
end
/-- A number of a list. -/
def nth (xs : List Int) (i : Nat) : Int := xs.getD i 0
/-- A slice of whole numbers that reads as a list. -/
def Is (w : World) (A : Option Addr) (xs : List Int) : Prop := 0 < xs.length → ∃ b o, A = some ⟨b, o, none⟩ ∧ b < w.heap.size ∧ ∀ k, k < xs.length → w.cell? ⟨b, o + k, none⟩ = some (.int .i64 (nth xs k))
/-- The same in a block from a number on. -/
def Isb (base : Nat) (w : World) (A : Option Addr) (xs : List Int) : Prop := 0 < xs.length → ∃ b o, A = some ⟨b, o, none⟩ ∧ base ≤ b ∧ b < w.heap.size ∧ ∀ k, k < xs.length → w.cell? ⟨b, o + k, none⟩ = some (.int .i64 (nth xs k))
/-- A slice of n elements of sz cells: cell j of element i holds f i j. -/
def Es (w : World) (A : Option Addr) (n sz : Nat) (f : Nat → Nat → Value) : Prop := 0 < n → ∃ b o, A = some ⟨b, o, none⟩ ∧ b < w.heap.size ∧ ∀ i j, i < n → j < sz → w.cell? ⟨b, o + i * sz + j, none⟩ = some (f i j)
section
variable {w w' : World} {A : Option Addr} {xs : List Int} {base base' g n sz : Nat} {f : Nat → Nat → Value}
theorem Is.below (h : Is w A xs) (hb : Below w.heap.size w w') : Is w' A xs := fun z => by
  obtain ⟨b, o, e, l, f⟩ := h z
  exact ⟨b, o, e, Nat.lt_of_lt_of_le l hb.size, fun k hk => (hb.cell (p := ⟨b, o + k, none⟩) l).trans (f k hk)⟩
theorem Is.drewN (h : Is w A xs) (n : Nat) : Is (w.drewN n) A xs := h
theorem Is.drew (h : Is w A xs) : Is w.drew A xs := h
theorem Isb.is (h : Isb base w A xs) : Is w A xs := fun z => by obtain ⟨b, o, e, _, l, f⟩ := h z; exact ⟨b, o, e, l, f⟩
theorem Isb.below (h : Isb base w A xs) (hb : Below w.heap.size w w') : Isb base w' A xs := fun z => by
  obtain ⟨b, o, e, q, l, f⟩ := h z
  exact ⟨b, o, e, q, Nat.lt_of_lt_of_le l hb.size, fun k hk => (hb.cell (p := ⟨b, o + k, none⟩) l).trans (f k hk)⟩
theorem Isb.mono (h : Isb base w A xs) (hb : base' ≤ base) : Isb base' w A xs := fun z => by
  obtain ⟨b, o, e, q, r⟩ := h z
  exact ⟨b, o, e, by omega, r⟩
theorem Isb.far_ (h : Isb base w A xs) (hg : g < base) (f : Far g w w') : Isb base w' A xs := fun z => by
  obtain ⟨b, o, e, q, l, k⟩ := h z
  exact ⟨b, o, e, q, by rw [f.size]; exact l, fun j hj => (World.cell?_of_block (w := w) (f.block b (by omega))).trans (k j hj)⟩
theorem is_nil (w : World) (A : Option Addr) : Is w A [] := fun z => absurd z (by simp)
theorem isb_nil (w : World) (base : Nat) (A : Option Addr) : Isb base w A [] := fun z => absurd z (by simp)
theorem is_row {t : TypeId} {cs : Array Value} (h : HB w g t cs) (hc : ∀ k, k < xs.length → cs[k]? = some (.int .i64 (nth xs k))) : Is w (some ⟨g, 0, none⟩) xs :=
  fun _ => ⟨g, 0, rfl, h.lt, fun k hk => by rw [Nat.zero_add, h.cell k]; exact hc k hk⟩
theorem Es.below (h : Es w A n sz f) (hb : Below w.heap.size w w') : Es w' A n sz f := fun z => by
  obtain ⟨b, o, e, l, k⟩ := h z
  exact ⟨b, o, e, Nat.lt_of_lt_of_le l hb.size, fun i j hi hj => (hb.cell (p := ⟨b, o + i * sz + j, none⟩) l).trans (k i j hi hj)⟩
theorem Es.drewN (h : Es w A n sz f) (k : Nat) : Es (w.drewN k) A n sz f := h
theorem Es.drew (h : Es w A n sz f) : Es w.drew A n sz f := h
theorem Es.take (h : Es w A n sz f) {k : Nat} (hk : k ≤ n) : Es w A k sz f := fun z => by
  obtain ⟨b, o, e, l, c⟩ := h (by omega)
  exact ⟨b, o, e, l, fun i j hi hj => c i j (by omega) hj⟩
theorem nth_of {i : Nat} (h : i < xs.length) : nth xs i = xs[i] := by simp [nth, List.getD, h]
theorem nth_past {i : Nat} (h : xs.length ≤ i) : nth xs i = 0 := by simp [nth, List.getD, h]
theorem nth_take {k j : Nat} (h : j < k) : nth (xs.take k) j = nth xs j := by simp [nth, List.getD_eq_getElem?_getD, List.getElem?_take_of_lt h]
theorem is_take (h : Is w A xs) (k : Nat) : Is w A (xs.take k) := fun z => by
  have l := List.length_take_le k xs
  have l2 := List.length_take_le' k xs
  obtain ⟨b, o, e, lt, c⟩ := h (by omega)
  refine ⟨b, o, e, lt, fun j hj => ?_⟩
  rw [nth_take (by omega)]
  exact c j (by omega)
theorem nth_app_lt {ys : List Int} {j : Nat} (h : j < xs.length) : nth (xs ++ ys) j = nth xs j := by simp [nth, List.getD_eq_getElem?_getD, List.getElem?_append_left h]
theorem nth_app_eq {y : Int} {j : Nat} (h : j = xs.length) : nth (xs ++ [y]) j = y := by subst h; simp [nth, List.getD_eq_getElem?_getD]
theorem list_same {xs ys : List Int} (hl : xs.length = ys.length) (h : ∀ j, j < xs.length → nth xs j = nth ys j) : xs = ys := by
  apply List.ext_getElem hl
  intro j h1 h2
  have := h j h1
  rwa [nth_of h1, nth_of h2] at this
end
/-- Whole numbers as values. -/
def intV (xs : List Int) : List Value := xs.map (.int .i64)
section
variable {w w' : World} {A : Option Addr} {xs : List Int} {base n c : Nat} {e : TypeId}
theorem intV_snoc (xs : List Int) (y : Int) : intV (xs ++ [y]) = intV xs ++ [.int .i64 y] := by simp [intV]
theorem own_isb (h : w.ownsRow base e 1 (.slice A n c) n (intV xs)) (hl : xs.length = n) : Isb base w A xs ∧ n ≤ c := by
  rcases h.2 with ⟨h0, h1⟩ | ⟨g, cap, cur, h0, hb, hh, hc, _, hsz, htk⟩
  · exact ⟨fun z => absurd z (by omega), by omega⟩
  · injection h0 with h0 _ h2
    refine ⟨fun z => ⟨g, 0, h0, hb, HB.lt hh, fun k hk => ?_⟩, by omega⟩
    have e1 : (intV xs)[k]? = some (.int .i64 (nth xs k)) := by simp [intV, nth, List.getD, hk]
    rw [← htk, Nat.mul_one, List.getElem?_take_of_lt (by omega)] at e1
    rw [Nat.zero_add, cell_of_row w g k cur e (0, 0) hh]
    simpa using e1
end
end Go.Proofs.YtaodebpogibimaaGreat
namespace Go.Proofs.YtaodebpogibimaaGreat
open Go.ChangeShapes Go.WideShapes Go.ChangeAt Go.RowKit Go.Joins Go.Deep

theorem bulk_nth {H : Type} {ds : List (DataW H)} {d : DataW H} (i : Nat) (h : ds[i]? = some d) : Rows.uptoBulk d ≤ Rows.uptoBulkAll ds := by
  induction ds generalizing i with
  | nil => simp at h
  | cons x r ih =>
    rw [Rows.uptoBulkAll]
    cases i with
    | zero => simp at h; subst h; omega
    | succ i => have := ih i (by simpa using h); omega
theorem bulk_ints {H : Type} (zs : List Int) : Rows.uptoBulkAll (lits (H := H) .i64 zs) = zs.length := by
  induction zs with
  | nil => rfl
  | cons z zs ih =>
    have : lits (H := H) .i64 (z :: zs) = .lit (.int .i64 z) :: lits .i64 zs := rfl
    have b1 : Rows.uptoBulk (DataW.lit (H := H) (.int .i64 z)) = 1 := by simp [Rows.uptoBulk]
    rw [this, Rows.uptoBulkAll, ih, b1, List.length_cons]
    omega
section
variable {H : Type} {enc : TypeId × Value → H} {P : Program} {W : World}
/-- A slice of whole numbers at any place. -/
theorem open_isP {t e : TypeId} (ht : P.underlying t = some (.slice e)) (he : P.underlying e = some (.int .i64)) (ce : P.cellsOf e = 1) {v : Value} {n : Nat} {y : DataW H × List MemPlace} (h : DataW.trod enc P W 0 (fun _ => true) true n t [v] = some y) :
    ∃ A c zs, v = .slice A (List.length zs) c ∧ zs.length ≤ c ∧ c ≤ maxLen ∧ Is W A zs ∧ (∀ x ∈ zs, (Lit.int .i64 x).wf = true) ∧ zs.length ≤ Rows.uptoBulk y.1 := by
  rcases open_ints ht he ce h with ⟨hcs, _⟩ | ⟨a, len, cap, zs, hcs, _, hl, hm, hz, hx, hcell, hw⟩
  · obtain rfl : v = .slice none 0 0 := by simpa using hcs
    exact ⟨none, 0, [], rfl, Nat.le_refl _, by unfold maxLen; omega, is_nil _ _, (fun x hx => absurd hx (by simp)), by simp⟩
  · obtain rfl : v = .slice (some a) len cap := by simpa using hcs
    simp only [if_true] at hz
    have hlen : (zs.take len).length = len := by rw [List.length_take]; omega
    refine ⟨some a, cap, zs.take len, by rw [hlen], by rw [hlen]; exact hl, hm, fun z => ?_, fun x hx => hw x (List.mem_of_mem_take hx), ?_⟩
    · rw [hlen] at z
      obtain ⟨b, off, spot⟩ := a
      have hspot : spot = none := by simpa [Addr.add] using World.cell?_spot (hcell 0 (by omega))
      subst hspot
      have hc : ∀ j, j < zs.length → W.cell? ⟨b, off + j, none⟩ = some (.int .i64 (zs.getD j 0)) := fun j hj => by rw [← add_plain]; exact hcell j hj
      refine ⟨b, off, rfl, World.block_lt_of_cell? W _ (hc 0 (by omega)), fun k hk => ?_⟩
      rw [hc k (by omega)]
      have : nth (zs.take len) k = zs.getD k 0 := nth_take (by omega)
      rw [this]
    · rw [hlen, hx, Rows.uptoBulk, bulk_ints, bulk_ints, List.length_take, List.length_drop]
      omega
/-- A slice of anything: what holds of each element that is read holds of each element. -/
theorem open_els {α : Type} [Inhabited α] {t e : TypeId} {k : Nat} (ht : P.underlying t = some (.slice e)) (ce : P.cellsOf e = k) (hk : 0 < k) (E : α → List Value → DataW H → Prop)
    (hE : ∀ (n : Nat) (cs : List Value) (y : DataW H × List MemPlace), cs.length = k → DataW.trod enc P W 0 (fun _ => true) true n e cs = some y → ∃ q, E q cs y.1)
    {fuel : Nat} {cs : List Value} {x : DataW H × List MemPlace} (h : DataW.trod enc P W 0 (fun _ => true) true fuel t cs = some x) :
    ∃ (A : Option Addr) (c : Nat) (qs : List α) (ds : List (DataW H)), cs = [.slice A qs.length c] ∧ qs.length ≤ c ∧ c ≤ maxLen ∧ ds.length = qs.length ∧ Rows.uptoBulkAll ds ≤ Rows.uptoBulk x.1 ∧
      (0 < qs.length → ∃ b o, A = some ⟨b, o, none⟩ ∧ b < W.heap.size ∧ ∀ (i : Nat) (q : α), qs[i]? = some q → ∃ vs d, ds[i]? = some d ∧ E q vs d ∧ vs.length = k ∧ ∀ (j : Nat) (v : Value), vs[j]? = some v → W.cell? ⟨b, o + i * k + j, none⟩ = some v) := by
  rcases DataW.trod_slice ht h with ⟨rfl, _⟩ | ⟨a, len, cap, elems, rest, n, rfl, rfl, hx0, _, hl, hm, hlen, hel, _, _⟩
  · exact ⟨none, 0, [], [], rfl, Nat.le_refl _, by unfold maxLen; omega, rfl, by simp [Rows.uptoBulkAll], fun z => absurd z (by simp)⟩
  · have each : ∀ i, i < len → ∃ q : α, ∃ vs y, elems[i]? = some y ∧ E q vs y.1 ∧ vs.length = k ∧ ∀ (j : Nat) (v : Value), vs[j]? = some v → W.cell? (a.add (i * k + j)) = some v := by
      intro i hi
      have hy : elems[i]? = some (elems[i]'(by omega)) := List.getElem?_eq_getElem (by omega)
      have hb := (hel i hi).trans hy
      rw [ce] at hb
      obtain ⟨cs', k1, k2⟩ := Option.bind_eq_some_iff.1 hb
      obtain ⟨_, hcl, hcc⟩ := World.cells?_some k1
      obtain ⟨q, hq⟩ := hE n cs' _ hcl k2
      refine ⟨q, cs', _, hy, hq, hcl, fun j v hj => ?_⟩
      have hjl : j < k := by
        rcases Nat.lt_or_ge j k with z | z
        · exact z
        · rw [List.getElem?_eq_none (by omega)] at hj; cases hj
      have d := hcc j hjl
      rw [Addr.add_add, hj] at d
      exact d
    obtain ⟨F, hF⟩ := choose_lt each
    refine ⟨some a, cap, (List.range len).map F, elems.map (·.1), by simp, by simpa using hl, hm, by simp [hlen], ?_, fun z => ?_⟩
    · rw [hx0]
      show _ ≤ Rows.uptoBulk (.slice (elems.map (·.1)) (rest.map (·.1)))
      rw [Rows.uptoBulk]
      omega
    · simp at z
      obtain ⟨b, off, spot⟩ := a
      obtain ⟨vs0, _, _, _, hv0, hc0⟩ := hF 0 z
      have hg : vs0[0]? = some (vs0[0]'(by omega)) := List.getElem?_eq_getElem (by omega)
      have z0 := hc0 0 _ hg
      have hspot : spot = none := by simpa [Addr.add] using World.cell?_spot z0
      subst hspot
      rw [add_plain] at z0
      refine ⟨b, off, rfl, World.block_lt_of_cell? W _ z0, fun i q hq => ?_⟩
      have hi : i < len := by
        rcases Nat.lt_or_ge i len with z | z
        · exact z
        · rw [List.getElem?_eq_none (by simpa using z)] at hq; cases hq
      have hqe : q = F i := by simpa [hi] using hq.symm
      subst hqe
      obtain ⟨vs, y, hy, g1, g2, g3⟩ := hF i hi
      refine ⟨vs, y.1, by rw [List.getElem?_map, hy]; rfl, g1, g2, fun j v hj => ?_⟩
      have := g3 j v hj
      rw [add_plain] at this
      rw [Nat.add_assoc]
      exact this
end
end Go.Proofs.YtaodebpogibimaaGreat
namespace Go.Proofs.YtaodebpogibimaaGreat
open Go.ChangeShapes Go.WideShapes Go.ChangeAt Go.RowKit Go.Joins Go.Deep

/-- A declared name: the name, what it wants, what it is. -/
structure Dc where
  name : ByteArray
  args : List Int
  sort : Int
instance : Inhabited Dc := ⟨⟨ByteArray.empty, [], 0⟩⟩
/-- A node. -/
structure Nd where
  op : Int
  kids : List Int
  n : Int
  d : Int
  name : ByteArray
instance : Inhabited Nd := ⟨⟨0, [], 0, 0, ByteArray.empty⟩⟩
/-- The declared name lies in a block from a place on. -/
def Dc.In (w : World) (q : Dc) (b o : Nat) : Prop := w.cell? ⟨b, o, none⟩ = some (.string q.name) ∧ w.cell? ⟨b, o + 2, none⟩ = some (.int .i64 q.sort) ∧ q.name.size ≤ maxLen ∧
  ∃ A c, w.cell? ⟨b, o + 1, none⟩ = some (.slice A q.args.length c) ∧ q.args.length ≤ c ∧ c ≤ maxLen ∧ Is w A q.args
/-- The node lies in a block from a place on. -/
def Nd.In (w : World) (q : Nd) (b o : Nat) : Prop := w.cell? ⟨b, o, none⟩ = some (.int .i64 q.op) ∧ w.cell? ⟨b, o + 2, none⟩ = some (.int .i64 q.n) ∧ w.cell? ⟨b, o + 3, none⟩ = some (.int .i64 q.d) ∧ w.cell? ⟨b, o + 4, none⟩ = some (.string q.name) ∧ q.name.size ≤ maxLen ∧
  ∃ A c, w.cell? ⟨b, o + 1, none⟩ = some (.slice A q.kids.length c) ∧ q.kids.length ≤ c ∧ c ≤ maxLen ∧ Is w A q.kids
theorem Dc.In.below {w w' : World} {q : Dc} {b o : Nat} (h : q.In w b o) (hb : Below w.heap.size w w') (hl : b < w.heap.size) : q.In w' b o := by
  obtain ⟨h0, h2, h3, A, c, h1, h4, h5, h6⟩ := h
  exact ⟨(hb.cell (p := ⟨b, o, none⟩) hl).trans h0, (hb.cell (p := ⟨b, o + 2, none⟩) hl).trans h2, h3, A, c, (hb.cell (p := ⟨b, o + 1, none⟩) hl).trans h1, h4, h5, h6.below hb⟩
theorem Nd.In.below {w w' : World} {q : Nd} {b o : Nat} (h : q.In w b o) (hb : Below w.heap.size w w') (hl : b < w.heap.size) : q.In w' b o := by
  obtain ⟨h0, h2, h3, h4, h5, A, c, h1, h6, h7, h8⟩ := h
  exact ⟨(hb.cell (p := ⟨b, o, none⟩) hl).trans h0, (hb.cell (p := ⟨b, o + 2, none⟩) hl).trans h2, (hb.cell (p := ⟨b, o + 3, none⟩) hl).trans h3, (hb.cell (p := ⟨b, o + 4, none⟩) hl).trans h4, h5, A, c, (hb.cell (p := ⟨b, o + 1, none⟩) hl).trans h1, h6, h7, h8.below hb⟩
/-- Declared names at a slice's address. -/
def DsAt (w : World) (A : Option Addr) (qs : List Dc) : Prop := 0 < qs.length → ∃ b o, A = some ⟨b, o, none⟩ ∧ b < w.heap.size ∧ ∀ (i : Nat) (q : Dc), qs[i]? = some q → q.In w b (o + i * 3)
/-- Nodes at a slice's address. -/
def NsAt (w : World) (A : Option Addr) (qs : List Nd) : Prop := 0 < qs.length → ∃ b o, A = some ⟨b, o, none⟩ ∧ b < w.heap.size ∧ ∀ (i : Nat) (q : Nd), qs[i]? = some q → q.In w b (o + i * 5)
theorem DsAt.below {w w' : World} {A : Option Addr} {qs : List Dc} (h : DsAt w A qs) (hb : Below w.heap.size w w') : DsAt w' A qs := fun z => by
  obtain ⟨b, o, e, l, q⟩ := h z
  exact ⟨b, o, e, Nat.lt_of_lt_of_le l hb.size, fun i x hx => (q i x hx).below hb l⟩
theorem NsAt.below {w w' : World} {A : Option Addr} {qs : List Nd} (h : NsAt w A qs) (hb : Below w.heap.size w w') : NsAt w' A qs := fun z => by
  obtain ⟨b, o, e, l, q⟩ := h z
  exact ⟨b, o, e, Nat.lt_of_lt_of_le l hb.size, fun i x hx => (q i x hx).below hb l⟩
theorem DsAt.take {w : World} {A : Option Addr} {qs : List Dc} (h : DsAt w A qs) (k : Nat) : DsAt w A (qs.take k) := fun z => by
  obtain ⟨b, o, e, l, q⟩ := h (by rw [List.length_take] at z; omega)
  refine ⟨b, o, e, l, fun i x hx => q i x ?_⟩
  rw [List.getElem?_take] at hx
  split at hx
  · exact hx
  · cases hx
theorem NsAt.take {w : World} {A : Option Addr} {qs : List Nd} (h : NsAt w A qs) (k : Nat) : NsAt w A (qs.take k) := fun z => by
  obtain ⟨b, o, e, l, q⟩ := h (by rw [List.length_take] at z; omega)
  refine ⟨b, o, e, l, fun i x hx => q i x ?_⟩
  rw [List.getElem?_take] at hx
  split at hx
  · exact hx
  · cases hx
theorem bulk_len {H : Type} {ds : List (DataW H)} (h : ∀ (i : Nat) d, ds[i]? = some d → 1 ≤ Rows.uptoBulk d) : ds.length ≤ Rows.uptoBulkAll ds := by
  induction ds with
  | nil => simp
  | cons x r ih =>
    rw [Rows.uptoBulkAll, List.length_cons]
    have := h 0 x rfl
    have := ih (fun i d hd => h (i + 1) d (by simpa using hd))
    omega
section
variable {H : Type} {enc : TypeId × Value → H} {P : Program} {W : World}
/-- Declared names that are handed in: so many; each wants no more than the bulk. -/
theorem open_ds {t e ti ei : TypeId} {f0 f1 f2 : Field} (ht : P.underlying t = some (.slice e)) (he : P.underlying e = some (.struct #[f0, f1, f2])) (ce : P.cellsOf e = 3) (o0 : f0.offset = 0) (o1 : f1.offset = 1) (o2 : f2.offset = 2)
    (c0 : P.cellsOf f0.type = 1) (c1 : P.cellsOf f1.type = 1) (c2 : P.cellsOf f2.type = 1) (h0 : P.underlying f0.type = some .string) (h1 : f1.type = ti) (h2 : f2.type = ei)
    (hti : P.underlying ti = some (.slice ei)) (hei : P.underlying ei = some (.int .i64)) (cei : P.cellsOf ei = 1)
    {fuel : Nat} {cs : List Value} {x : DataW H × List MemPlace} (h : DataW.trod enc P W 0 (fun _ => true) true fuel t cs = some x) :
    ∃ (A : Option Addr) (c : Nat) (qs : List Dc), cs = [.slice A qs.length c] ∧ qs.length ≤ c ∧ c ≤ maxLen ∧ DsAt W A qs ∧ qs.length ≤ Rows.uptoBulk x.1 ∧ (∀ q ∈ qs, (Lit.int .i64 q.sort).wf = true ∧ (∀ z ∈ q.args, (Lit.int .i64 z).wf = true) ∧ q.args.length ≤ Rows.uptoBulk x.1) := by
  obtain ⟨A, c, qs, ds, e1, e2, e3, e4, e5, e6⟩ := open_els (α := Dc) (k := 3) ht ce (by omega) (fun q vs d => (∃ A c, vs = [.string q.name, .slice A q.args.length c, .int .i64 q.sort] ∧ q.name.size ≤ maxLen ∧ q.args.length ≤ c ∧ c ≤ maxLen ∧ Is W A q.args) ∧ (Lit.int .i64 q.sort).wf = true ∧ (∀ z ∈ q.args, (Lit.int .i64 z).wf = true) ∧ q.args.length + 1 ≤ Rows.uptoBulk d) (by
    intro n cs y hcl hy
    obtain ⟨xs, n', rfl, hx2, _, hxl, hf⟩ := DataW.trod_struct he hy
    match cs, hcl with
    | [v0, v1, v2], _ =>
      have q0 := hf 0 f0 rfl
      have q1 := hf 1 f1 rfl
      have q2 := hf 2 f2 rfl
      simp only [List.size_toArray, List.length_cons, List.length_nil] at hxl
      rw [o0, c0, List.getElem?_eq_getElem (by omega)] at q0
      rw [o1, c1, List.getElem?_eq_getElem (by omega), h1] at q1
      rw [o2, c2, List.getElem?_eq_getElem (by omega), h2] at q2
      obtain ⟨s, e0, _, l0⟩ := DataW.trod_string h0 q0
      obtain ⟨A, c, zs, e1, j1, j2, j3, j4, j5⟩ := open_isP hti hei cei (v := v1) q1
      obtain ⟨m, e2, _, w2⟩ := DataW.trod_int hei q2
      simp at e0 e2
      subst e0 e1 e2
      refine ⟨⟨s, zs, m⟩, ⟨A, c, rfl, l0, j1, j2, j3⟩, w2, j4, ?_⟩
      rw [hx2]
      show zs.length + 1 ≤ Rows.uptoBulk (.agg (xs.map (·.1)))
      rw [Rows.uptoBulk]
      have := bulk_nth (H := H) (ds := xs.map (·.1)) (d := (xs[1]'(by omega)).1) 1 (by simp [show 1 < xs.length by omega])
      omega) h
  have hget : ∀ (i : Nat) (q : Dc), qs[i]? = some q → i < qs.length := fun i q hq => by
    rcases Nat.lt_or_ge i qs.length with z | z
    · exact z
    · rw [List.getElem?_eq_none z] at hq; cases hq
  refine ⟨A, c, qs, e1, e2, e3, fun z => ?_, ?_, ?_⟩
  · obtain ⟨b, o, g1, g2, g3⟩ := e6 z
    refine ⟨b, o, g1, g2, fun i q hq => ?_⟩
    obtain ⟨vs, d, _, ⟨⟨A', c', rfl, k1, k2, k3, k4⟩, _⟩, _, k5⟩ := g3 i q hq
    exact ⟨k5 0 _ rfl, k5 2 _ rfl, k1, A', c', k5 1 _ rfl, k2, k3, k4⟩
  · have := bulk_len (H := H) (ds := ds) (fun i d hd => by
      have hi : i < ds.length := by
        rcases Nat.lt_or_ge i ds.length with z | z
        · exact z
        · rw [List.getElem?_eq_none z] at hd; cases hd
      obtain ⟨b, o, _, _, g3⟩ := e6 (by omega)
      obtain ⟨vs, d', hd', ⟨_, _, _, k⟩, _⟩ := g3 i (qs[i]'(by omega)) (List.getElem?_eq_getElem (by omega))
      rw [hd] at hd'
      cases hd'
      omega)
    omega
  · intro q hq
    obtain ⟨i, hi, rfl⟩ := List.getElem_of_mem hq
    obtain ⟨b, o, _, _, g3⟩ := e6 (by omega)
    obtain ⟨vs, d', hd', ⟨_, k1, k2, k3⟩, _⟩ := g3 i (qs[i]'(by omega)) (List.getElem?_eq_getElem (by omega))
    have := bulk_nth i hd'
    exact ⟨k1, k2, by omega⟩
/-- Nodes that are handed in. -/
theorem open_ns {t e ti ei : TypeId} {f0 f1 f2 f3 f4 : Field} (ht : P.underlying t = some (.slice e)) (he : P.underlying e = some (.struct #[f0, f1, f2, f3, f4])) (ce : P.cellsOf e = 5) (o0 : f0.offset = 0) (o1 : f1.offset = 1) (o2 : f2.offset = 2) (o3 : f3.offset = 3) (o4 : f4.offset = 4)
    (c0 : P.cellsOf f0.type = 1) (c1 : P.cellsOf f1.type = 1) (c2 : P.cellsOf f2.type = 1) (c3 : P.cellsOf f3.type = 1) (c4 : P.cellsOf f4.type = 1) (h4 : P.underlying f4.type = some .string) (h0 : f0.type = ei) (h1 : f1.type = ti) (h2 : f2.type = ei) (h3 : f3.type = ei)
    (hti : P.underlying ti = some (.slice ei)) (hei : P.underlying ei = some (.int .i64)) (cei : P.cellsOf ei = 1)
    {fuel : Nat} {cs : List Value} {x : DataW H × List MemPlace} (h : DataW.trod enc P W 0 (fun _ => true) true fuel t cs = some x) :
    ∃ (A : Option Addr) (c : Nat) (qs : List Nd), cs = [.slice A qs.length c] ∧ qs.length ≤ c ∧ c ≤ maxLen ∧ NsAt W A qs ∧ qs.length ≤ Rows.uptoBulk x.1 ∧ (∀ q ∈ qs, (Lit.int .i64 q.op).wf = true ∧ (Lit.int .i64 q.n).wf = true ∧ (Lit.int .i64 q.d).wf = true ∧ (∀ z ∈ q.kids, (Lit.int .i64 z).wf = true) ∧ q.kids.length ≤ Rows.uptoBulk x.1) := by
  obtain ⟨A, c, qs, ds, e1, e2, e3, e4, e5, e6⟩ := open_els (α := Nd) (k := 5) ht ce (by omega) (fun q vs d => (∃ A c, vs = [.int .i64 q.op, .slice A q.kids.length c, .int .i64 q.n, .int .i64 q.d, .string q.name] ∧ q.name.size ≤ maxLen ∧ q.kids.length ≤ c ∧ c ≤ maxLen ∧ Is W A q.kids) ∧ (Lit.int .i64 q.op).wf = true ∧ (Lit.int .i64 q.n).wf = true ∧ (Lit.int .i64 q.d).wf = true ∧ (∀ z ∈ q.kids, (Lit.int .i64 z).wf = true) ∧ q.kids.length + 1 ≤ Rows.uptoBulk d) (by
    intro n cs y hcl hy
    obtain ⟨xs, n', rfl, hx2, _, hxl, hf⟩ := DataW.trod_struct he hy
    match cs, hcl with
    | [v0, v1, v2, v3, v4], _ =>
      have q0 := hf 0 f0 rfl
      have q1 := hf 1 f1 rfl
      have q2 := hf 2 f2 rfl
      have q3 := hf 3 f3 rfl
      have q4 := hf 4 f4 rfl
      simp only [List.size_toArray, List.length_cons, List.length_nil] at hxl
      rw [o0, c0, List.getElem?_eq_getElem (by omega), h0] at q0
      rw [o1, c1, List.getElem?_eq_getElem (by omega), h1] at q1
      rw [o2, c2, List.getElem?_eq_getElem (by omega), h2] at q2
      rw [o3, c3, List.getElem?_eq_getElem (by omega), h3] at q3
      rw [o4, c4, List.getElem?_eq_getElem (by omega)] at q4
      obtain ⟨m0, e0, _, w0⟩ := DataW.trod_int hei q0
      obtain ⟨A, c, zs, e1, j1, j2, j3, j4, j5⟩ := open_isP hti hei cei (v := v1) q1
      obtain ⟨m2, e2, _, w2⟩ := DataW.trod_int hei q2
      obtain ⟨m3, e3, _, w3⟩ := DataW.trod_int hei q3
      obtain ⟨s, e4, _, l4⟩ := DataW.trod_string h4 q4
      simp at e0 e2 e3 e4
      subst e0 e1 e2 e3 e4
      refine ⟨⟨m0, zs, m2, m3, s⟩, ⟨A, c, rfl, l4, j1, j2, j3⟩, w0, w2, w3, j4, ?_⟩
      rw [hx2]
      show zs.length + 1 ≤ Rows.uptoBulk (.agg (xs.map (·.1)))
      rw [Rows.uptoBulk]
      have := bulk_nth (H := H) (ds := xs.map (·.1)) (d := (xs[1]'(by omega)).1) 1 (by simp [show 1 < xs.length by omega])
      omega) h
  refine ⟨A, c, qs, e1, e2, e3, fun z => ?_, ?_, ?_⟩
  · obtain ⟨b, o, g1, g2, g3⟩ := e6 z
    refine ⟨b, o, g1, g2, fun i q hq => ?_⟩
    obtain ⟨vs, d, _, ⟨⟨A', c', rfl, k1, k2, k3, k4⟩, _⟩, _, k5⟩ := g3 i q hq
    exact ⟨k5 0 _ rfl, k5 2 _ rfl, k5 3 _ rfl, k5 4 _ rfl, k1, A', c', k5 1 _ rfl, k2, k3, k4⟩
  · have := bulk_len (H := H) (ds := ds) (fun i d hd => by
      have hi : i < ds.length := by
        rcases Nat.lt_or_ge i ds.length with z | z
        · exact z
        · rw [List.getElem?_eq_none z] at hd; cases hd
      obtain ⟨b, o, _, _, g3⟩ := e6 (by omega)
      obtain ⟨vs, d', hd', ⟨_, _, _, _, _, k⟩, _⟩ := g3 i (qs[i]'(by omega)) (List.getElem?_eq_getElem (by omega))
      rw [hd] at hd'
      cases hd'
      omega)
    omega
  · intro q hq
    obtain ⟨i, hi, rfl⟩ := List.getElem_of_mem hq
    obtain ⟨b, o, _, _, g3⟩ := e6 (by omega)
    obtain ⟨vs, d', hd', ⟨_, k0, k1, k2, k3, k4⟩, _⟩ := g3 i (qs[i]'(by omega)) (List.getElem?_eq_getElem (by omega))
    have := bulk_nth i hd'
    exact ⟨k0, k1, k2, k3, by omega⟩
end
end Go.Proofs.YtaodebpogibimaaGreat
namespace Go.Proofs.YtaodebpogibimaaGreat
open Go.ChangeShapes Go.WideShapes Go.ChangeAt Go.RowKit Go.Joins Go.Deep

/-- A value: a number, or an array: its cells, and what it has elsewhere. -/
structure Vl where
  num : Int
  den : Int
  cells : List (Int × Int)
  rest : Int
instance : Inhabited Vl := ⟨⟨0, 0, [], 0⟩⟩
/-- A row of a table. -/
structure En where
  args : List Int
  too : Vl
instance : Inhabited En := ⟨⟨[], default⟩⟩
/-- A meaning. -/
structure Mg where
  rows : List En
  rest : Vl
instance : Inhabited Mg := ⟨⟨[], default⟩⟩
/-- Cells of an array at a slice's address. -/
def CsAt (w : World) (A : Option Addr) (cs : List (Int × Int)) : Prop := 0 < cs.length → ∃ b o, A = some ⟨b, o, none⟩ ∧ b < w.heap.size ∧ ∀ (i : Nat) (q : Int × Int), cs[i]? = some q → w.cell? ⟨b, o + i * 2, none⟩ = some (.int .i64 q.1) ∧ w.cell? ⟨b, o + i * 2 + 1, none⟩ = some (.int .i64 q.2)
/-- The value lies in a block from a place on. -/
def Vl.In (w : World) (q : Vl) (b o k : Nat) : Prop := w.cell? ⟨b, o + k, none⟩ = some (.int .i64 q.num) ∧ w.cell? ⟨b, o + (k + 1), none⟩ = some (.int .i64 q.den) ∧ w.cell? ⟨b, o + (k + 3), none⟩ = some (.int .i64 q.rest) ∧
  ∃ A c, w.cell? ⟨b, o + (k + 2), none⟩ = some (.slice A q.cells.length c) ∧ q.cells.length ≤ c ∧ c ≤ maxLen ∧ CsAt w A q.cells
/-- The row lies in a block from a place on. -/
def En.In (w : World) (q : En) (b o : Nat) : Prop := (∃ A c, w.cell? ⟨b, o, none⟩ = some (.slice A q.args.length c) ∧ q.args.length ≤ c ∧ c ≤ maxLen ∧ Is w A q.args) ∧ q.too.In w b o 1
/-- Rows at a slice's address. -/
def EsAt (w : World) (A : Option Addr) (qs : List En) : Prop := 0 < qs.length → ∃ b o, A = some ⟨b, o, none⟩ ∧ b < w.heap.size ∧ ∀ (i : Nat) (q : En), qs[i]? = some q → q.In w b (o + i * 5)
/-- The meaning lies in a block from a place on. -/
def Mg.In (w : World) (q : Mg) (b o : Nat) : Prop := (∃ A c, w.cell? ⟨b, o, none⟩ = some (.slice A q.rows.length c) ∧ q.rows.length ≤ c ∧ c ≤ maxLen ∧ EsAt w A q.rows) ∧ q.rest.In w b o 1
/-- Meanings at a slice's address. -/
def MsAt (w : World) (A : Option Addr) (qs : List Mg) : Prop := 0 < qs.length → ∃ b o, A = some ⟨b, o, none⟩ ∧ b < w.heap.size ∧ ∀ (i : Nat) (q : Mg), qs[i]? = some q → q.In w b (o + i * 5)
/-- Values at a slice's address. -/
def VsAt (w : World) (A : Option Addr) (qs : List Vl) : Prop := 0 < qs.length → ∃ b o, A = some ⟨b, o, none⟩ ∧ b < w.heap.size ∧ ∀ (i : Nat) (q : Vl), qs[i]? = some q → q.In w b (o + i * 4) 0
section
variable {w w' : World} {A : Option Addr} {b o k : Nat}
theorem CsAt.below {cs : List (Int × Int)} (h : CsAt w A cs) (hb : Below w.heap.size w w') : CsAt w' A cs := fun z => by
  obtain ⟨b, o, e, l, q⟩ := h z
  exact ⟨b, o, e, Nat.lt_of_lt_of_le l hb.size, fun i x hx => ⟨(hb.cell (p := ⟨b, o + i * 2, none⟩) l).trans (q i x hx).1, (hb.cell (p := ⟨b, o + i * 2 + 1, none⟩) l).trans (q i x hx).2⟩⟩
theorem Vl.In.below {q : Vl} (h : q.In w b o k) (hb : Below w.heap.size w w') (hl : b < w.heap.size) : q.In w' b o k := by
  obtain ⟨h0, h1, h3, A, c, h2, h4, h5, h6⟩ := h
  exact ⟨(hb.cell (p := ⟨b, o + k, none⟩) hl).trans h0, (hb.cell (p := ⟨b, o + (k + 1), none⟩) hl).trans h1, (hb.cell (p := ⟨b, o + (k + 3), none⟩) hl).trans h3, A, c, (hb.cell (p := ⟨b, o + (k + 2), none⟩) hl).trans h2, h4, h5, h6.below hb⟩
theorem En.In.below {q : En} (h : q.In w b o) (hb : Below w.heap.size w w') (hl : b < w.heap.size) : q.In w' b o := by
  obtain ⟨⟨A, c, h1, h2, h3, h4⟩, h5⟩ := h
  exact ⟨⟨A, c, (hb.cell (p := ⟨b, o, none⟩) hl).trans h1, h2, h3, h4.below hb⟩, h5.below hb hl⟩
theorem EsAt.below {qs : List En} (h : EsAt w A qs) (hb : Below w.heap.size w w') : EsAt w' A qs := fun z => by
  obtain ⟨b, o, e, l, q⟩ := h z
  exact ⟨b, o, e, Nat.lt_of_lt_of_le l hb.size, fun i x hx => (q i x hx).below hb l⟩
theorem Mg.In.below {q : Mg} (h : q.In w b o) (hb : Below w.heap.size w w') (hl : b < w.heap.size) : q.In w' b o := by
  obtain ⟨⟨A, c, h1, h2, h3, h4⟩, h5⟩ := h
  exact ⟨⟨A, c, (hb.cell (p := ⟨b, o, none⟩) hl).trans h1, h2, h3, h4.below hb⟩, h5.below hb hl⟩
theorem MsAt.below {qs : List Mg} (h : MsAt w A qs) (hb : Below w.heap.size w w') : MsAt w' A qs := fun z => by
  obtain ⟨b, o, e, l, q⟩ := h z
  exact ⟨b, o, e, Nat.lt_of_lt_of_le l hb.size, fun i x hx => (q i x hx).below hb l⟩
theorem VsAt.below {qs : List Vl} (h : VsAt w A qs) (hb : Below w.heap.size w w') : VsAt w' A qs := fun z => by
  obtain ⟨b, o, e, l, q⟩ := h z
  exact ⟨b, o, e, Nat.lt_of_lt_of_le l hb.size, fun i x hx => (q i x hx).below hb l⟩
theorem cs_nil (w : World) (A : Option Addr) : CsAt w A [] := fun z => absurd z (by simp)
theorem es_nil (w : World) (A : Option Addr) : EsAt w A [] := fun z => absurd z (by simp)
theorem ms_nil (w : World) (A : Option Addr) : MsAt w A [] := fun z => absurd z (by simp)
theorem vs_nil (w : World) (A : Option Addr) : VsAt w A [] := fun z => absurd z (by simp)
/-- An element of each list. -/
def cn (cs : List (Int × Int)) (i : Nat) : Int × Int := cs.getD i (0, 0)
def en (es : List En) (i : Nat) : En := es.getD i default
def mn (ms : List Mg) (i : Nat) : Mg := ms.getD i default
def vn (vs : List Vl) (i : Nat) : Vl := vs.getD i default
theorem getD_of {α : Type} {l : List α} {d : α} {i : Nat} (h : i < l.length) : l[i]? = some (l.getD i d) := by simp [List.getD, h]
theorem cs_at {cs : List (Int × Int)} {i : Nat} (h : CsAt w A cs) (hi : i < cs.length) : ∃ b o, A = some ⟨b, o, none⟩ ∧ b < w.heap.size ∧ w.cell? ⟨b, o + i * 2, none⟩ = some (.int .i64 (cn cs i).1) ∧ w.cell? ⟨b, o + i * 2 + 1, none⟩ = some (.int .i64 (cn cs i).2) := by
  obtain ⟨b, o, e, l, q⟩ := h (by omega)
  exact ⟨b, o, e, l, q i _ (getD_of (l := cs) (d := (0, 0)) hi)⟩
theorem es_at {qs : List En} {i : Nat} (h : EsAt w A qs) (hi : i < qs.length) : ∃ b o, A = some ⟨b, o, none⟩ ∧ b < w.heap.size ∧ (en qs i).In w b (o + i * 5) := by
  obtain ⟨b, o, e, l, q⟩ := h (by omega)
  exact ⟨b, o, e, l, q i _ (getD_of (l := qs) (d := default) hi)⟩
theorem ms_at {qs : List Mg} {i : Nat} (h : MsAt w A qs) (hi : i < qs.length) : ∃ b o, A = some ⟨b, o, none⟩ ∧ b < w.heap.size ∧ (mn qs i).In w b (o + i * 5) := by
  obtain ⟨b, o, e, l, q⟩ := h (by omega)
  exact ⟨b, o, e, l, q i _ (getD_of (l := qs) (d := default) hi)⟩
theorem vs_at {qs : List Vl} {i : Nat} (h : VsAt w A qs) (hi : i < qs.length) : ∃ b o, A = some ⟨b, o, none⟩ ∧ b < w.heap.size ∧ (vn qs i).In w b (o + i * 4) 0 := by
  obtain ⟨b, o, e, l, q⟩ := h (by omega)
  exact ⟨b, o, e, l, q i _ (getD_of (l := qs) (d := default) hi)⟩
end
/-- What a type that is a value's must be. -/
structure VlT (P : Program) (t ei : TypeId) : Prop where
  ex : ∃ (tf tc te : TypeId) (f0 f1 f2 g0 g1 k0 k1 : Field), P.underlying t = some (.struct #[f0, f1, f2]) ∧ P.cellsOf t = 4 ∧ f0.offset = 0 ∧ f1.offset = 2 ∧ f2.offset = 3 ∧ P.cellsOf f0.type = 2 ∧ P.cellsOf f1.type = 1 ∧ P.cellsOf f2.type = 1 ∧ f0.type = tf ∧ f1.type = tc ∧ f2.type = ei ∧
    P.underlying tf = some (.struct #[g0, g1]) ∧ g0.offset = 0 ∧ g1.offset = 1 ∧ g0.type = ei ∧ g1.type = ei ∧ P.underlying tc = some (.slice te) ∧ P.underlying te = some (.struct #[k0, k1]) ∧ P.cellsOf te = 2 ∧ k0.offset = 0 ∧ k1.offset = 1 ∧ k0.type = ei ∧ k1.type = ei ∧ P.underlying ei = some (.int .i64) ∧ P.cellsOf ei = 1
/-- A whole number of 64 bits. -/
def wf64 (z : Int) : Prop := (Lit.int .i64 z).wf = true
def Vl.wf (q : Vl) : Prop := wf64 q.num ∧ wf64 q.den ∧ wf64 q.rest ∧ ∀ c ∈ q.cells, wf64 c.1 ∧ wf64 c.2
def En.wf (q : En) : Prop := (∀ z ∈ q.args, wf64 z) ∧ q.too.wf
def Mg.wf (q : Mg) : Prop := (∀ e ∈ q.rows, e.wf) ∧ q.rest.wf
section
variable {H : Type} {enc : TypeId × Value → H} {P : Program} {W : World}
theorem mem_get {α : Type} {l : List α} {x : α} (h : x ∈ l) : ∃ i : Nat, l[i]? = some x := by
  obtain ⟨i, hi, rfl⟩ := List.getElem_of_mem h
  exact ⟨i, List.getElem?_eq_getElem hi⟩
/-- Cells that are handed in. -/
theorem open_cs {t e ei : TypeId} {k0 k1 : Field} (ht : P.underlying t = some (.slice e)) (he : P.underlying e = some (.struct #[k0, k1])) (ce : P.cellsOf e = 2) (o0 : k0.offset = 0) (o1 : k1.offset = 1) (h0 : k0.type = ei) (h1 : k1.type = ei) (hei : P.underlying ei = some (.int .i64)) (cei : P.cellsOf ei = 1)
    {fuel : Nat} {cs : List Value} {x : DataW H × List MemPlace} (h : DataW.trod enc P W 0 (fun _ => true) true fuel t cs = some x) :
    ∃ (A : Option Addr) (c : Nat) (qs : List (Int × Int)), cs = [.slice A qs.length c] ∧ qs.length ≤ c ∧ c ≤ maxLen ∧ CsAt W A qs ∧ ∀ q ∈ qs, wf64 q.1 ∧ wf64 q.2 := by
  obtain ⟨A, c, qs, ds, e1, e2, e3, e4, e5, e6⟩ := open_els (α := Int × Int) (k := 2) ht ce (by omega) (fun q vs d => vs = [.int .i64 q.1, .int .i64 q.2] ∧ wf64 q.1 ∧ wf64 q.2) (by
    intro n cs y hcl hy
    obtain ⟨xs, n', rfl, hx2, _, hxl, hf⟩ := DataW.trod_struct he hy
    match cs, hcl with
    | [v0, v1], _ =>
      have q0 := hf 0 k0 rfl
      have q1 := hf 1 k1 rfl
      simp only [List.size_toArray, List.length_cons, List.length_nil] at hxl
      rw [o0, h0, cei, List.getElem?_eq_getElem (by omega)] at q0
      rw [o1, h1, cei, List.getElem?_eq_getElem (by omega)] at q1
      obtain ⟨m0, e0, _, w0⟩ := DataW.trod_int hei q0
      obtain ⟨m1, e1, _, w1⟩ := DataW.trod_int hei q1
      simp at e0 e1
      subst e0 e1
      exact ⟨(m0, m1), rfl, w0, w1⟩) h
  refine ⟨A, c, qs, e1, e2, e3, fun z => ?_, fun q hq => ?_⟩
  · obtain ⟨b, o, g1, g2, g3⟩ := e6 z
    refine ⟨b, o, g1, g2, fun i q hq => ?_⟩
    obtain ⟨vs, d, _, ⟨rfl, _⟩, _, k5⟩ := g3 i q hq
    exact ⟨k5 0 _ rfl, k5 1 _ rfl⟩
  · obtain ⟨i, hi⟩ := mem_get hq
    have hl : 0 < qs.length := by
      rcases Nat.lt_or_ge 0 qs.length with z | z
      · exact z
      · rw [List.getElem?_eq_none (by omega)] at hi; cases hi
    obtain ⟨b, o, g1, g2, g3⟩ := e6 hl
    obtain ⟨vs, d, _, ⟨_, k⟩, _⟩ := g3 i q hi
    exact k
/-- A value's four cells. -/
def Vl.Cells (W : World) (q : Vl) (vs : List Value) : Prop := ∃ A c, vs = [.int .i64 q.num, .int .i64 q.den, .slice A q.cells.length c, .int .i64 q.rest] ∧ q.cells.length ≤ c ∧ c ≤ maxLen ∧ CsAt W A q.cells
/-- A value that is handed in. -/
theorem open_vl {t ei : TypeId} (T : VlT P t ei) {fuel : Nat} {cs : List Value} (hcl : cs.length = 4) {x : DataW H × List MemPlace} (h : DataW.trod enc P W 0 (fun _ => true) true fuel t cs = some x) :
    ∃ q : Vl, q.Cells W cs ∧ q.wf := by
  obtain ⟨tf, tc, te, f0, f1, f2, g0, g1, k0, k1, ht, ct, o0, o1, o2, c0, c1, c2, t0, t1, t2, hf2, p0, p1, r0, r1, hc, he, ce, u0, u1, s0, s1, hei, cei⟩ := T.ex
  obtain ⟨xs, n', rfl, hx2, _, hxl, hf⟩ := DataW.trod_struct ht h
  match cs, hcl with
  | [v0, v1, v2, v3], _ =>
    have q0 := hf 0 f0 rfl
    have q1 := hf 1 f1 rfl
    have q2 := hf 2 f2 rfl
    simp only [List.size_toArray, List.length_cons, List.length_nil] at hxl
    rw [o0, c0, List.getElem?_eq_getElem (by omega), t0] at q0
    rw [o1, c1, List.getElem?_eq_getElem (by omega), t1] at q1
    rw [o2, c2, List.getElem?_eq_getElem (by omega), t2] at q2
    obtain ⟨ys, n2, rfl, hy2, _, hyl, hg⟩ := DataW.trod_struct hf2 q0
    have a0 := hg 0 g0 rfl
    have a1 := hg 1 g1 rfl
    simp only [List.size_toArray, List.length_cons, List.length_nil] at hyl
    rw [p0, r0, cei, List.getElem?_eq_getElem (by omega)] at a0
    rw [p1, r1, cei, List.getElem?_eq_getElem (by omega)] at a1
    obtain ⟨m0, e0, _, w0⟩ := DataW.trod_int hei a0
    obtain ⟨m1, e1, _, w1⟩ := DataW.trod_int hei a1
    obtain ⟨A, c, qs, e2, j1, j2, j3, j4⟩ := open_cs hc he ce u0 u1 s0 s1 hei cei q1
    obtain ⟨m3, e3, _, w3⟩ := DataW.trod_int hei q2
    simp at e0 e1 e2 e3
    subst e0 e1 e2 e3
    exact ⟨⟨m0, m1, qs, m3⟩, ⟨A, c, rfl, j1, j2, j3⟩, w0, w1, w3, j4⟩
theorem Vl.Cells.in {q : Vl} {vs : List Value} (h : q.Cells W vs) {b o k : Nat} (hc : ∀ (j : Nat) (v : Value), vs[j]? = some v → W.cell? ⟨b, o + (k + j), none⟩ = some v) : q.In W b o k := by
  obtain ⟨A, c, rfl, h1, h2, h3⟩ := h
  exact ⟨hc 0 _ rfl, hc 1 _ rfl, hc 3 _ rfl, A, c, hc 2 _ rfl, h1, h2, h3⟩
/-- Rows of a table that are handed in. -/
theorem open_es {t e tv ti ei : TypeId} {f0 f1 : Field} (T : VlT P tv ei) (ht : P.underlying t = some (.slice e)) (he : P.underlying e = some (.struct #[f0, f1])) (ce : P.cellsOf e = 5) (o0 : f0.offset = 0) (o1 : f1.offset = 1) (c0 : P.cellsOf f0.type = 1) (c1 : P.cellsOf f1.type = 4) (h0 : f0.type = ti) (h1 : f1.type = tv)
    (hti : P.underlying ti = some (.slice ei)) (hei : P.underlying ei = some (.int .i64)) (cei : P.cellsOf ei = 1)
    {fuel : Nat} {cs : List Value} {x : DataW H × List MemPlace} (h : DataW.trod enc P W 0 (fun _ => true) true fuel t cs = some x) :
    ∃ (A : Option Addr) (c : Nat) (qs : List En), cs = [.slice A qs.length c] ∧ qs.length ≤ c ∧ c ≤ maxLen ∧ EsAt W A qs ∧ ∀ q ∈ qs, q.wf := by
  obtain ⟨A, c, qs, ds, e1, e2, e3, e4, e5, e6⟩ := open_els (α := En) (k := 5) ht ce (by omega) (fun q vs d => ∃ A c us, vs = .slice A q.args.length c :: us ∧ q.args.length ≤ c ∧ c ≤ maxLen ∧ Is W A q.args ∧ q.too.Cells W us ∧ q.wf) (by
    intro n cs y hcl hy
    obtain ⟨xs, n', rfl, hx2, _, hxl, hf⟩ := DataW.trod_struct he hy
    match cs, hcl with
    | [v0, v1, v2, v3, v4], _ =>
      have q0 := hf 0 f0 rfl
      have q1 := hf 1 f1 rfl
      simp only [List.size_toArray, List.length_cons, List.length_nil] at hxl
      rw [o0, c0, List.getElem?_eq_getElem (by omega), h0] at q0
      rw [o1, c1, List.getElem?_eq_getElem (by omega), h1] at q1
      obtain ⟨A, c, zs, e1, j1, j2, j3, j4, j5⟩ := open_isP hti hei cei (v := v0) q0
      obtain ⟨q, hq, hw⟩ := open_vl T (by simp) q1
      subst e1
      exact ⟨⟨zs, q⟩, A, c, _, rfl, j1, j2, j3, hq, j4, hw⟩) h
  refine ⟨A, c, qs, e1, e2, e3, fun z => ?_, fun q hq => ?_⟩
  · obtain ⟨b, o, g1, g2, g3⟩ := e6 z
    refine ⟨b, o, g1, g2, fun i q hq => ?_⟩
    obtain ⟨vs, d, _, ⟨A', c', us, rfl, y1, y2, y3, y4, _⟩, _, k5⟩ := g3 i q hq
    exact ⟨⟨A', c', k5 0 _ rfl, y1, y2, y3⟩, y4.in (fun j v hv => by
      have := k5 (j + 1) v (by simpa using hv)
      rw [Nat.add_comm 1 j]
      exact this)⟩
  · obtain ⟨i, hi⟩ := mem_get hq
    have hl : 0 < qs.length := by
      rcases Nat.lt_or_ge 0 qs.length with z | z
      · exact z
      · rw [List.getElem?_eq_none (by omega)] at hi; cases hi
    obtain ⟨b, o, g1, g2, g3⟩ := e6 hl
    obtain ⟨vs, d, _, ⟨_, _, _, _, _, _, _, _, k⟩, _⟩ := g3 i q hi
    exact k
/-- Meanings that are handed in. -/
theorem open_ms {t e tr er tv ti ei : TypeId} {f0 f1 k0 k1 : Field} (T : VlT P tv ei) (ht : P.underlying t = some (.slice e)) (he : P.underlying e = some (.struct #[k0, k1])) (ce : P.cellsOf e = 5) (p0 : k0.offset = 0) (p1 : k1.offset = 1) (d0 : P.cellsOf k0.type = 1) (d1 : P.cellsOf k1.type = 4) (y0 : k0.type = tr) (y1 : k1.type = tv)
    (htr : P.underlying tr = some (.slice er)) (her : P.underlying er = some (.struct #[f0, f1])) (cer : P.cellsOf er = 5) (o0 : f0.offset = 0) (o1 : f1.offset = 1) (c0 : P.cellsOf f0.type = 1) (c1 : P.cellsOf f1.type = 4) (h0 : f0.type = ti) (h1 : f1.type = tv)
    (hti : P.underlying ti = some (.slice ei)) (hei : P.underlying ei = some (.int .i64)) (cei : P.cellsOf ei = 1)
    {fuel : Nat} {cs : List Value} {x : DataW H × List MemPlace} (h : DataW.trod enc P W 0 (fun _ => true) true fuel t cs = some x) :
    ∃ (A : Option Addr) (c : Nat) (qs : List Mg), cs = [.slice A qs.length c] ∧ qs.length ≤ c ∧ c ≤ maxLen ∧ MsAt W A qs ∧ ∀ q ∈ qs, q.wf := by
  obtain ⟨A, c, qs, ds, e1, e2, e3, e4, e5, e6⟩ := open_els (α := Mg) (k := 5) ht ce (by omega) (fun q vs d => ∃ A c us, vs = .slice A q.rows.length c :: us ∧ q.rows.length ≤ c ∧ c ≤ maxLen ∧ EsAt W A q.rows ∧ q.rest.Cells W us ∧ q.wf) (by
    intro n cs y hcl hy
    obtain ⟨xs, n', rfl, hx2, _, hxl, hf⟩ := DataW.trod_struct he hy
    match cs, hcl with
    | [v0, v1, v2, v3, v4], _ =>
      have q0 := hf 0 k0 rfl
      have q1 := hf 1 k1 rfl
      simp only [List.size_toArray, List.length_cons, List.length_nil] at hxl
      rw [p0, d0, List.getElem?_eq_getElem (by omega), y0] at q0
      rw [p1, d1, List.getElem?_eq_getElem (by omega), y1] at q1
      obtain ⟨A, c, zs, e1, j1, j2, j3, j4⟩ := open_es T htr her cer o0 o1 c0 c1 h0 h1 hti hei cei q0
      obtain ⟨q, hq, hw⟩ := open_vl T (by simp) q1
      simp at e1
      subst e1
      exact ⟨⟨zs, q⟩, A, c, _, rfl, j1, j2, j3, hq, j4, hw⟩) h
  refine ⟨A, c, qs, e1, e2, e3, fun z => ?_, fun q hq => ?_⟩
  · obtain ⟨b, o, g1, g2, g3⟩ := e6 z
    refine ⟨b, o, g1, g2, fun i q hq => ?_⟩
    obtain ⟨vs, d, _, ⟨A', c', us, rfl, y1, y2, y3, y4, _⟩, _, k5⟩ := g3 i q hq
    exact ⟨⟨A', c', k5 0 _ rfl, y1, y2, y3⟩, y4.in (fun j v hv => by
      have := k5 (j + 1) v (by simpa using hv)
      rw [Nat.add_comm 1 j]
      exact this)⟩
  · obtain ⟨i, hi⟩ := mem_get hq
    have hl : 0 < qs.length := by
      rcases Nat.lt_or_ge 0 qs.length with z | z
      · exact z
      · rw [List.getElem?_eq_none (by omega)] at hi; cases hi
    obtain ⟨b, o, g1, g2, g3⟩ := e6 hl
    obtain ⟨vs, d, _, ⟨_, _, _, _, _, _, _, _, k⟩, _⟩ := g3 i q hi
    exact k
end
end Go.Proofs.YtaodebpogibimaaGreat
namespace Go.Proofs.YtaodebpogibimaaGreat
open Go.RowKit

theorem Tryz.cells3 : Tryz.prog.cellsOf 3 = 1 := by kernel_rfl
/-- Sorts by kind. -/
def sTh (s : Int) : Bool := s == 4
def sBo (s : Int) : Bool := s == 1
def sIn (s : Int) : Bool := s == 2
def sNu (s : Int) : Bool := s == 2 || s == 3
def sWd (s : Int) : Bool := decide (10 < s) && decide (s ≤ 18)
def sSo (s : Int) : Bool := (decide (1 ≤ s) && decide (s ≤ 5)) || sWd s
/-- The bits of a word's sort. -/
def wBits (s : Int) : Int := if 10 < s ∧ s ≤ 18 then s - 10 else 0
theorem isthing_any (s : Int) (w : World) : Calls Tryz.prog 70 #[.int .i64 s] w fun e w' => e = .returned (.bool (sTh s)) ∧ w = w' := by
  go_enter Tryz.func70, Tryz.ntmps70
  go_wp2
  go_ret
  exact ⟨rfl, rfl⟩
theorem isbool_any (s : Int) (w : World) : Calls Tryz.prog 105 #[.int .i64 s] w fun e w' => e = .returned (.bool (sBo s)) ∧ w = w' := by
  go_enter Tryz.func105, Tryz.ntmps105
  go_wp2
  go_ret
  exact ⟨rfl, rfl⟩
theorem isint_any (s : Int) (w : World) : Calls Tryz.prog 123 #[.int .i64 s] w fun e w' => e = .returned (.bool (sIn s)) ∧ w = w' := by
  go_enter Tryz.func123, Tryz.ntmps123
  go_wp2
  go_ret
  exact ⟨rfl, rfl⟩
theorem isnumeric_any (s : Int) (w : World) : Calls Tryz.prog 106 #[.int .i64 s] w fun e w' => e = .returned (.bool (sNu s)) ∧ w = w' := by
  unfold sNu
  cases d : s == 2 with
  | true =>
    rw [Bool.true_or]
    go_enter Tryz.func106, Tryz.ntmps106
    go_wp2
    go_ret
    exact ⟨rfl, rfl⟩
  | false =>
    rw [Bool.false_or]
    go_enter Tryz.func106, Tryz.ntmps106
    go_wp2
    go_ret
    exact ⟨rfl, rfl⟩
theorem isnumber_any (s : Int) (w : World) : Calls Tryz.prog 93 #[.int .i64 s] w fun e w' => e = .returned (.bool (sNu s)) ∧ w = w' := by
  unfold sNu
  cases d : s == 2 with
  | true =>
    rw [Bool.true_or]
    go_enter Tryz.func93, Tryz.ntmps93
    go_wp2
    go_ret
    exact ⟨rfl, rfl⟩
  | false =>
    rw [Bool.false_or]
    go_enter Tryz.func93, Tryz.ntmps93
    go_wp2
    go_ret
    exact ⟨rfl, rfl⟩
theorem isword_any (s : Int) (w : World) : Calls Tryz.prog 101 #[.int .i64 s] w fun e w' => e = .returned (.bool (sWd s)) ∧ w = w' := by
  unfold sWd
  cases d : decide (10 < s) with
  | true =>
    rw [Bool.true_and]
    go_enter Tryz.func101, Tryz.ntmps101
    go_wp2
    go_ret
    exact ⟨rfl, rfl⟩
  | false =>
    rw [Bool.false_and]
    go_enter Tryz.func101, Tryz.ntmps101
    go_wp2
    go_ret
    exact ⟨rfl, rfl⟩
theorem issort_any (s : Int) (w : World) : Calls Tryz.prog 68 #[.int .i64 s] w fun e w' => e = .returned (.bool (sSo s)) ∧ w = w' := by
  unfold sSo
  cases d : decide (1 ≤ s) with
  | true =>
    cases d2 : decide (s ≤ 5) with
    | true =>
      go_enter Tryz.func68, Tryz.ntmps68
      go_wp2
      go_ret
      exact ⟨rfl, rfl⟩
    | false =>
      go_enter Tryz.func68, Tryz.ntmps68
      go_wp2_with fail
      refine (isword_any s _).mono ?_
      rintro e w1 ⟨rfl, rfl⟩
      go_wp2_with fail
      go_ret
      exact ⟨rfl, rfl⟩
  | false =>
    go_enter Tryz.func68, Tryz.ntmps68
    go_wp2_with fail
    refine (isword_any s _).mono ?_
    rintro e w1 ⟨rfl, rfl⟩
    go_wp2_with fail
    go_ret
    exact ⟨rfl, rfl⟩
theorem wordbits_any (s : Int) (w : World) : Calls Tryz.prog 56 #[.int .i64 s] w fun e w' => e = .returned (.int .i64 (wBits s)) ∧ w = w' := by

  by_cases h : 10 < s
  · by_cases h2 : s ≤ 18
    · have d1 : decide (11 ≤ s) = true := by simp; omega
      have d2 : decide (s ≤ 18) = true := by simp; omega
      have e : wBits s = s - 10 := by simp [wBits, h, h2]
      rw [e]
      clear e
      go_enter Tryz.func56, Tryz.ntmps56
      go_wp2
      go_ret
      exact ⟨rfl, rfl⟩
    · have d1 : decide (11 ≤ s) = true := by simp; omega
      have d2 : decide (s ≤ 18) = false := by simp; omega
      have e : wBits s = 0 := by simp [wBits, h2]
      rw [e]
      clear e
      go_enter Tryz.func56, Tryz.ntmps56
      go_wp2
      go_ret
      exact ⟨rfl, rfl⟩
  · have d1 : decide (11 ≤ s) = false := by simp; omega
    have e : wBits s = 0 := by simp [wBits, h]
    rw [e]
    clear e
    go_enter Tryz.func56, Tryz.ntmps56
    go_wp2
    go_ret
    exact ⟨rfl, rfl⟩
theorem when_any (b : Bool) (s : Int) (w : World) : Calls Tryz.prog 104 #[.bool b, .int .i64 s] w fun e w' => e = .returned (.int .i64 (if b then s else 0)) ∧ w = w' := by
  cases b with
  | true =>
    go_enter Tryz.func104, Tryz.ntmps104
    go_wp2
    go_ret
    exact ⟨rfl, rfl⟩
  | false =>
    go_enter Tryz.func104, Tryz.ntmps104
    go_wp2
    go_ret
    exact ⟨rfl, rfl⟩
end Go.Proofs.YtaodebpogibimaaGreat
namespace Go.Proofs.YtaodebpogibimaaGreat
open Go.RowKit

/-- A function value is entered as it stands. -/
def Enters (fid : Nat) : Prop := ∀ (args : Array Value) (w : World), Sem.run Tryz.prog (callFunc fid args) w = .ok (.enter fid args) w
theorem enters39 : Enters 70 := fun _ _ => by kernel_rfl
theorem enters41 : Enters 72 := fun _ _ => by kernel_rfl
theorem enters60 : Enters 105 := fun _ _ => by kernel_rfl
theorem enters61 : Enters 106 := fun _ _ => by kernel_rfl
theorem enters66 : Enters 122 := fun _ _ => by kernel_rfl
theorem enters67 : Enters 123 := fun _ _ => by kernel_rfl
theorem enters21 : Enters 26 := fun _ _ => by kernel_rfl
theorem enters23 : Enters 28 := fun _ _ => by kernel_rfl
theorem enters25 : Enters 30 := fun _ _ => by kernel_rfl
set_option maxRecDepth 100000 in
theorem every1_of {fid : Nat} (hc : Enters fid) (caps : Array Value) (q : Bool) (z : Int) (g : Nat) (w : World) (hg : HB w g 64 #[.func (.func fid) #[] caps])
    (H : Calls Tryz.prog fid (#[.int .i64 z] ++ caps) w fun e w' => e = .returned (.bool q) ∧ Below w.heap.size w w') :
    Calls Tryz.prog 102 #[.int .i64 z, .pointer (some ⟨g, 0, none⟩)] w fun e w' => e = .returned (.bool (!q)) ∧ Below w.heap.size w w' := by
  obtain ⟨h0, h1⟩ := hg.one
  have HC := Lib.hid hc
  have HH := Lib.hid H
  clear hg hc H
  go_enter Tryz.func102, Tryz.ntmps102
  go_wp2_with fail
  rw [HC.out, Oper.upon_enter]
  refine HH.out.mono ?_
  rintro e w1 ⟨rfl, hb1⟩
  have HB1 := Lib.hid hb1
  clear hb1
  go_wp2_with fail
  go_ret
  exact ⟨rfl, HB1.out⟩
theorem is_at {w : World} {A : Option Addr} {xs : List Int} {i : Nat} (h : Is w A xs) (hi : i < xs.length) : ∃ b o, A = some ⟨b, o, none⟩ ∧ b < w.heap.size ∧ w.cell? ⟨b, o + i, none⟩ = some (.int .i64 (nth xs i)) := by
  obtain ⟨b, o, e, l, c⟩ := h (by omega)
  exact ⟨b, o, e, l, c i hi⟩
theorem all_of {xs : List Int} {p : Int → Bool} (h : ∀ j, j < xs.length → p (nth xs j) = true) : xs.all p = true := by
  rw [List.all_eq_true]
  intro x hx
  obtain ⟨i, hi, rfl⟩ := List.getElem_of_mem hx
  have := h i hi
  rwa [nth_of hi] at this
theorem not_all {xs : List Int} {p : Int → Bool} {i : Nat} (hi : i < xs.length) (h : p (nth xs i) = false) : xs.all p = false := by
  rw [List.all_eq_false]
  exact ⟨xs[i], List.getElem_mem hi, by rw [← nth_of hi, h]; simp⟩
set_option maxHeartbeats 1000000 in
theorem index_any (xs : List Int) (A : Option Addr) (c : Nat) (p : Int → Bool) (g : Nat) (C : World → Prop) (hC : ∀ W W', C W → Below W.heap.size W W' → C W') (hl : xs.length ≤ maxLen)
    (H : ∀ i W, i < xs.length → C W → Calls Tryz.prog 102 #[.int .i64 (nth xs i), .pointer (some ⟨g, 0, none⟩)] W fun e w' => e = .returned (.bool (!p (nth xs i))) ∧ Below W.heap.size W w')
    (w : World) (h : Is w A xs) (hw : C w) :
    Calls Tryz.prog 57 #[.slice A xs.length c, .func (.func 102) #[] #[.pointer (some ⟨g, 0, none⟩)]] w fun e w' => ∃ k : Int, e = .returned (.int .i64 k) ∧ Hid (decide (0 ≤ k) = !(xs.all p)) ∧ Below w.heap.size w w' := by
  have HA := Lib.hid h
  have HH := Lib.hid H
  have HC := Lib.hid hC
  have HW := Lib.hid hw
  unfold maxLen at hl
  generalize hL : xs.length = L at *
  have HL := Lib.hid hL
  clear h H hC hw hL
  go_enter Tryz.func57, Tryz.ntmps57
  go_wp2_with fail
  go_loopw [5, 8] (fun _ k wr => ∃ i : Nat, i ≤ L ∧ k = .int .i64 i ∧ Hid (∀ j, j < i → p (nth xs j) = true) ∧ Hid (C wr) ∧ Hid (Below w.heap.size w wr)) (fun _ k _ => L - (intOf k).toNat)
  case atStart => exact ⟨0, by omega, rfl, fun j hj => absurd hj (by omega), HW.out, Below.refl _ _⟩
  case round =>
    obtain ⟨i, hi, rfl, HP, HX, HB⟩ := hrel
    by_cases hlt : i < L
    · obtain ⟨b, o, rfl, hb, c0⟩ := is_at (i := i) (HA.out.below HB.out) (by rw [HL.out]; exact hlt)
      have t3 : decide ((i : Int) < L) = true := by simpa using hlt
      go_wp2_with fail
      refine (HH.out i _ hlt HX.out).mono ?_
      rintro e w1 ⟨rfl, hb1⟩
      have G1 : Hid (Below w.heap.size w w1) := bw_below (Nat.le_refl _) HB.out hb1
      have X1 : Hid (C w1) := HC.out _ _ HX.out hb1
      clear hb1
      cases hq : p (nth xs i) with
      | true =>
        have HQ := Lib.hid hq
        clear hq
        go_wp2_with fail
        go_round
        case rel => exact ⟨i + 1, by omega, by go_num, fun j hj => by
          rcases Nat.lt_or_ge j i with z | z
          · exact HP.out j z
          · obtain rfl : j = i := by omega
            exact HQ.out, X1.out, G1.out⟩
        case measure => simp [intOf]; omega
      | false =>
        have HQ := Lib.hid hq
        clear hq
        go_wp2_with fail
        go_ret
        exact ⟨_, rfl, Lib.hid (by rw [not_all (by rw [HL.out]; exact hlt) HQ.out]; simp), G1.out⟩
    · obtain rfl : i = L := by omega
      have t3 : decide ((i : Int) < i) = false := by simp
      go_wp2_with fail
      go_ret
      exact ⟨_, rfl, Lib.hid (by rw [all_of (fun j hj => HP.out j (by rw [HL.out] at hj; exact hj))]; simp), HB.out⟩
set_option maxHeartbeats 1000000 in
theorem contains_any (xs : List Int) (A : Option Addr) (c : Nat) (p : Int → Bool) (g : Nat) (C : World → Prop) (hC : ∀ W W', C W → Below W.heap.size W W' → C W') (hl : xs.length ≤ maxLen)
    (H : ∀ i W, i < xs.length → C W → Calls Tryz.prog 102 #[.int .i64 (nth xs i), .pointer (some ⟨g, 0, none⟩)] W fun e w' => e = .returned (.bool (!p (nth xs i))) ∧ Below W.heap.size W w')
    (w : World) (h : Is w A xs) (hw : C w) :
    Calls Tryz.prog 20 #[.slice A xs.length c, .func (.func 102) #[] #[.pointer (some ⟨g, 0, none⟩)]] w fun e w' => e = .returned (.bool (!xs.all p)) ∧ Below w.heap.size w w' := by
  have HX := Lib.hid (index_any xs A c p g C hC hl H w h hw)
  clear h H hC hw hl
  generalize xs.length = L at *
  go_enter Tryz.func20, Tryz.ntmps20
  go_wp2_with fail
  refine HX.out.mono ?_
  rintro e w1 ⟨k, rfl, hk, hb1⟩
  have HB1 := Lib.hid hb1
  clear hb1
  go_wp2_with fail
  rw [hk.out]
  go_ret
  exact ⟨rfl, HB1.out⟩
/-- What every number of a list is, by a function value. -/
theorem every_any {fid : Nat} (hc : Enters fid) (xs : List Int) (A : Option Addr) (c : Nat) (caps : Array Value) (p : Int → Bool) (C : World → Prop) (hC : ∀ W W', C W → Below W.heap.size W W' → C W') (hl : xs.length ≤ maxLen)
    (H : ∀ i W, i < xs.length → C W → Calls Tryz.prog fid (#[.int .i64 (nth xs i)] ++ caps) W fun e w' => e = .returned (.bool (p (nth xs i))) ∧ Below W.heap.size W w')
    (w : World) (h : Is w A xs) (hw : C w) :
    Calls Tryz.prog 69 #[.slice A xs.length c, .func (.func fid) #[] caps] w fun e w' => e = .returned (.bool (xs.all p)) ∧ Below w.heap.size w w' := by
  have HX := Lib.hid (contains_any xs A c p w.heap.size (fun W => C W ∧ HB W w.heap.size 64 #[.func (.func fid) #[] caps]) (fun W W' h1 h2 => ⟨hC _ _ h1.1 h2, h1.2.below h2⟩) hl
    (fun i W hi hW => every1_of hc caps _ _ _ W hW.2 (H i W hi hW.1)) (w.alloc (.cells #[.func (.func fid) #[] caps] 64)) (h.below (new_below _ _)) ⟨hC _ _ hw (new_below _ _), HB.new _ _ _⟩)
  clear h H hC hw hl hc
  generalize xs.length = L at *
  go_enter Tryz.func69, Tryz.ntmps69
  go_wp2_with fail
  refine HX.out.mono ?_
  rintro e w1 ⟨rfl, hb1⟩
  have HB1 := Lib.hid (bw_below (Nat.le_refl _) (new_below w (.cells #[.func (.func fid) #[] caps] 64)) hb1)
  clear hb1
  go_wp2_with fail
  go_ret
  exact ⟨by simp, HB1.out⟩
theorem below_refl' (w : World) : Below w.heap.size w w := Below.refl _ _
theorem everything_any (xs : List Int) (A : Option Addr) (c : Nat) (hl : xs.length ≤ maxLen) (w : World) (h : Is w A xs) :
    Calls Tryz.prog 69 #[.slice A xs.length c, .func (.func 70) #[] #[]] w fun e w' => e = .returned (.bool (xs.all sTh)) ∧ Below w.heap.size w w' :=
  every_any enters39 xs A c #[] sTh (fun _ => True) (fun _ _ _ _ => trivial) hl (fun i W _ _ => (isthing_any (nth xs i) W).mono fun e w' ⟨h1, h2⟩ => ⟨h1, by subst h2; exact Below.refl _ _⟩) w h trivial
theorem everybool_any (xs : List Int) (A : Option Addr) (c : Nat) (hl : xs.length ≤ maxLen) (w : World) (h : Is w A xs) :
    Calls Tryz.prog 69 #[.slice A xs.length c, .func (.func 105) #[] #[]] w fun e w' => e = .returned (.bool (xs.all sBo)) ∧ Below w.heap.size w w' :=
  every_any enters60 xs A c #[] sBo (fun _ => True) (fun _ _ _ _ => trivial) hl (fun i W _ _ => (isbool_any (nth xs i) W).mono fun e w' ⟨h1, h2⟩ => ⟨h1, by subst h2; exact Below.refl _ _⟩) w h trivial
theorem everynum_any (xs : List Int) (A : Option Addr) (c : Nat) (hl : xs.length ≤ maxLen) (w : World) (h : Is w A xs) :
    Calls Tryz.prog 69 #[.slice A xs.length c, .func (.func 106) #[] #[]] w fun e w' => e = .returned (.bool (xs.all sNu)) ∧ Below w.heap.size w w' :=
  every_any enters61 xs A c #[] sNu (fun _ => True) (fun _ _ _ _ => trivial) hl (fun i W _ _ => (isnumeric_any (nth xs i) W).mono fun e w' ⟨h1, h2⟩ => ⟨h1, by subst h2; exact Below.refl _ _⟩) w h trivial
theorem everyint_any (xs : List Int) (A : Option Addr) (c : Nat) (hl : xs.length ≤ maxLen) (w : World) (h : Is w A xs) :
    Calls Tryz.prog 69 #[.slice A xs.length c, .func (.func 123) #[] #[]] w fun e w' => e = .returned (.bool (xs.all sIn)) ∧ Below w.heap.size w w' :=
  every_any enters67 xs A c #[] sIn (fun _ => True) (fun _ _ _ _ => trivial) hl (fun i W _ _ => (isint_any (nth xs i) W).mono fun e w' ⟨h1, h2⟩ => ⟨h1, by subst h2; exact Below.refl _ _⟩) w h trivial
theorem ns1_any (z n : Int) (g : Nat) (w : World) (hg : HB w g 3 #[.int .i64 n]) : Calls Tryz.prog 72 #[.int .i64 z, .pointer (some ⟨g, 0, none⟩)] w fun e w' => e = .returned (.bool (decide (0 ≤ z) && decide (z < n))) ∧ w = w' := by
  obtain ⟨h0, h1⟩ := hg.one
  clear hg
  cases d : decide (0 ≤ z) with
  | true =>
    rw [Bool.true_and]
    go_enter Tryz.func72, Tryz.ntmps72
    go_wp2
    go_ret
    exact ⟨rfl, rfl⟩
  | false =>
    rw [Bool.false_and]
    go_enter Tryz.func72, Tryz.ntmps72
    go_wp2
    go_ret
    exact ⟨rfl, rfl⟩
/-- Every kid is an earlier node. -/
theorem everykid_any (n : Int) (g : Nat) (xs : List Int) (A : Option Addr) (c : Nat) (hl : xs.length ≤ maxLen) (w : World) (h : Is w A xs) (hg : HB w g 3 #[.int .i64 n]) :
    Calls Tryz.prog 69 #[.slice A xs.length c, .func (.func 72) #[] #[.pointer (some ⟨g, 0, none⟩)]] w fun e w' => e = .returned (.bool (xs.all fun z => decide (0 ≤ z) && decide (z < n))) ∧ Below w.heap.size w w' :=
  every_any enters41 xs A c #[.pointer (some ⟨g, 0, none⟩)] (fun z => decide (0 ≤ z) && decide (z < n)) (fun W => HB W g 3 #[.int .i64 n]) (fun _ _ h1 h2 => h1.below h2) hl (fun i W _ hW => (ns1_any (nth xs i) n g W hW).mono fun e w' ⟨h1, h2⟩ => ⟨h1, by subst h2; exact Below.refl _ _⟩) w h hg
theorem sw1_any (z : Int) (xs : List Int) (A : Option Addr) (c : Nat) (g : Nat) (hn : 0 < xs.length) (w : World) (h : Is w A xs) (hg : HB w g 24 #[.slice A xs.length c]) :
    Calls Tryz.prog 122 #[.int .i64 z, .pointer (some ⟨g, 0, none⟩)] w fun e w' => e = .returned (.bool (z == nth xs 0)) ∧ w = w' := by
  obtain ⟨h0, h1⟩ := hg.one
  obtain ⟨b, o, rfl, _, c0⟩ := is_at h hn
  clear hg h
  generalize xs.length = L at *
  rw [Nat.add_zero] at c0
  go_enter Tryz.func122, Tryz.ntmps122
  go_wp2
  go_ret
  exact ⟨rfl, rfl⟩
/-- Words of one sort. -/
def sSw (xs : List Int) : Bool := sWd (nth xs 0) && xs.all fun z => z == nth xs 0
theorem samewords_any (xs : List Int) (A : Option Addr) (c : Nat) (hn : 0 < xs.length) (hl : xs.length ≤ maxLen) (w : World) (h : Is w A xs) :
    Calls Tryz.prog 107 #[.slice A xs.length c] w fun e w' => e = .returned (.bool (sSw xs)) ∧ Below w.heap.size w w' := by
  have HX := Lib.hid (fun W (h1 : Is W A xs) (h2 : HB W w.heap.size 24 #[.slice A xs.length c]) => every_any enters66 xs A c #[.pointer (some ⟨w.heap.size, 0, none⟩)] (fun z => z == nth xs 0) (fun W => Is W A xs ∧ HB W w.heap.size 24 #[.slice A xs.length c])
    (fun _ _ h1 h2 => ⟨h1.1.below h2, h1.2.below h2⟩) hl (fun i W _ hW => (sw1_any (nth xs i) xs A c _ hn W hW.1 hW.2).mono fun e w' ⟨h1, h2⟩ => ⟨h1, by subst h2; exact Below.refl _ _⟩) W h1 ⟨h1, h2⟩)
  have HA := Lib.hid (h.below (new_below w (.cells #[.slice A xs.length c] 24)))
  obtain ⟨b, o, rfl, _, c0⟩ := is_at HA.out hn
  have HN := Lib.hid (HB.new w 24 #[.slice (some ⟨b, o, none⟩) xs.length c])
  unfold sSw
  unfold maxLen at hl
  rw [Nat.add_zero] at c0
  clear h
  generalize hLL : xs.length = L at *
  clear hLL
  cases d : sWd (nth xs 0) with
  | false =>
    have D := Lib.hid d
    clear d
    rw [Bool.false_and]
    go_enter Tryz.func107, Tryz.ntmps107
    go_wp2_with fail
    refine (isword_any _ _).mono ?_
    rintro e w1 ⟨rfl, rfl⟩
    rw [D.out]
    go_wp2_with fail
    go_ret
    exact ⟨rfl, new_below _ _⟩
  | true =>
    have D := Lib.hid d
    clear d
    rw [Bool.true_and]
    go_enter Tryz.func107, Tryz.ntmps107
    go_wp2_with fail
    refine (isword_any _ _).mono ?_
    rintro e w1 ⟨rfl, rfl⟩
    rw [D.out]
    go_wp2_with fail
    refine (HX.out _ HA.out HN.out).mono ?_
    rintro e w1 ⟨rfl, hb1⟩
    have HB1 := Lib.hid (bw_below (Nat.le_refl _) (new_below w (.cells #[.slice (some ⟨b, o, none⟩) L c] 24)) hb1)
    clear hb1
    go_wp2_with fail
    go_ret
    exact ⟨rfl, HB1.out⟩
end Go.Proofs.YtaodebpogibimaaGreat
namespace Go.Proofs.YtaodebpogibimaaGreat
open Go.RowKit

theorem gcd_step (p q : Nat) : Nat.gcd q (p % q) = Nat.gcd p q := by
  rw [Nat.gcd_comm q (p % q), ← Nat.gcd_rec, Nat.gcd_comm]

set_option maxHeartbeats 400000 in
theorem divisor_any (a b : Nat) (ha : a ≤ 18446744073709551615) (hb : b ≤ 18446744073709551615) (w : World) :
    Calls Tryz.prog 126 #[.int .u64 a, .int .u64 b] w fun e w' => e = .returned (.int .u64 (Nat.gcd a b : Nat)) ∧ ∃ n, w' = w.drewN n := by
  go_enter Tryz.func126, Tryz.ntmps126
  go_wp2
  go_loopw [0, 1] (fun x y wr => ∃ p q n : Nat, p ≤ 18446744073709551615 ∧ q ≤ 18446744073709551615 ∧ x = .int .u64 p ∧ y = .int .u64 q ∧ Nat.gcd p q = Nat.gcd a b ∧ wr = w.drewN n) (fun _ y _ => (intOf y).toNat)
  case atStart => exact ⟨a, b, 0, ha, hb, rfl, rfl, rfl, rfl⟩
  case round =>
    obtain ⟨p, q, n, hp, hq, rfl, rfl, hg, rfl⟩ := hrel
    have hs := gcd_step p q
    have HG : Hid (Nat.gcd p q = Nat.gcd a b) := hg
    have HS : Hid (Nat.gcd q (p % q) = Nat.gcd p q) := hs
    clear hg hs
    by_cases hz : 0 < q
    · have hm : p % q < q := Nat.mod_lt _ hz
      go_wp2
      go_quiet (fail)
      go_wp2
      go_roundw
      case rel => exact ⟨q, p % q, _, hq, by omega, rfl, by go_num, HS.out.trans HG.out, World.drewN_drewN _ _ _⟩
      case measure => simp [intOf]; omega
    · obtain rfl : q = 0 := by omega
      go_wp2
      go_ret
      have e := HG.out
      rw [Nat.gcd_zero_right] at e
      exact ⟨by rw [e]; rfl, n, rfl⟩

theorem below_drewN {B : Nat} {a w : World} (h : Below B a w) (n : Nat) : Below B a (w.drewN n) := ⟨h.os, h.tape, h.output, h.size, h.block⟩
def mag (n : Int) : Nat := n.natAbs
theorem mag_le (n : Int) (h1 : -9223372036854775808 ≤ n) (h2 : n ≤ 9223372036854775807) : mag n ≤ 18446744073709551615 := by unfold mag; omega
theorem size_neg (n : Int) (h1 : -9223372036854775808 ≤ n) (h : n < 0) : IntKind.u64.wrap (-IntKind.u64.wrap n) = (mag n : Int) := by
  have e1 : IntKind.u64.wrap n = n + 18446744073709551616 := by rw [IntKind.wrap_u64]; omega
  rw [e1, IntKind.wrap_u64]; unfold mag; omega
theorem size_pos (n : Int) (h : 0 ≤ n) : n = (mag n : Int) := by unfold mag; omega
theorem ret_int {k : IntKind} {a b : Int} (h : a = b) : Ending.returned (.int k a) = .returned (.int k b) := by rw [h]
theorem ret_bool {a b : Bool} (h : a = b) : Ending.returned (.bool a) = .returned (.bool b) := by rw [h]
set_option maxHeartbeats 400000 in
theorem size_any (n : Int) (h1 : -9223372036854775808 ≤ n) (h2 : n ≤ 9223372036854775807) (w : World) :
    Calls Tryz.prog 125 #[.int .i64 n] w fun e w' => e = .returned (.int .u64 (mag n : Nat)) ∧ w = w' := by
  by_cases h : n < 0
  · go_enter Tryz.func125, Tryz.ntmps125
    go_wp2
    go_ret
    exact ⟨ret_int (size_neg n h1 h), rfl⟩
  · go_enter Tryz.func125, Tryz.ntmps125
    go_wp2
    go_ret
    exact ⟨ret_int (size_pos n (by omega)), rfl⟩

def fvalid (n d : Int) : Bool := decide (1 ≤ d ∧ d ≤ 1073741824 ∧ -1073741824 ≤ n ∧ n ≤ 1073741824 ∧ Nat.gcd (mag n) (mag d) = 1)
theorem fvalid_no {n d : Int} (h : ¬ (1 ≤ d ∧ d ≤ 1073741824 ∧ -1073741824 ≤ n ∧ n ≤ 1073741824)) : false = fvalid n d := by
  unfold fvalid; symm; rw [decide_eq_false_iff_not]; intro ⟨a, b, c, e, _⟩; exact h ⟨a, b, c, e⟩
theorem fvalid_yes {n d : Int} (h1 : 1 ≤ d) (h2 : d ≤ 1073741824) (h3 : -1073741824 ≤ n) (h4 : n ≤ 1073741824) : ((Nat.gcd (mag n) (mag d) : Int) == 1) = fvalid n d := by
  unfold fvalid; simp only [h1, h2, h3, h4, true_and]; rw [Bool.eq_iff_iff]; simp; omega

set_option maxHeartbeats 400000 in
theorem valid_any (n d : Int) (w : World) :
    Calls Tryz.prog 124 #[.agg #[.int .i64 n, .int .i64 d]] w fun e w' => e = .returned (.bool (fvalid n d)) ∧ Below w.heap.size w w' := by
  by_cases h1 : 1 ≤ d
  · by_cases h2 : d ≤ 1073741824
    · by_cases h3 : -1073741824 ≤ n
      · by_cases h4 : n ≤ 1073741824
        · have hm1 := mag_le n (by omega) (by omega)
          have hm2 := mag_le d (by omega) (by omega)
          go_enter Tryz.func124, Tryz.ntmps124
          go_wp2
          go_quiet ((first | (go_at_call 125; refine Calls.quiet_of_same ((size_any _ (by omega) (by omega) _).mono fun _ _ h => ⟨h.1, h.2.symm⟩)) | (go_at_call 126; exact Calls.quiet_of (divisor_any _ _ (by assumption) (by assumption) _))))
          go_wp2
          go_ret
          exact ⟨ret_bool (fvalid_yes h1 h2 h3 h4), below_drewN ((Below.refl _ _).alloc (Nat.le_refl _) _) _⟩
        · have hd : decide (n ≤ 1073741824) = false := by simpa using h4
          go_enter Tryz.func124, Tryz.ntmps124
          go_wp2
          go_quiet (fail)
          go_wp2
          go_ret
          exact ⟨ret_bool (fvalid_no (by omega)), below_drewN ((Below.refl _ _).alloc (Nat.le_refl _) _) _⟩
      · have hd : decide (-1073741824 ≤ n) = false := by simpa using h3
        go_enter Tryz.func124, Tryz.ntmps124
        go_wp2
        go_quiet (fail)
        go_wp2
        go_ret
        exact ⟨ret_bool (fvalid_no (by omega)), below_drewN ((Below.refl _ _).alloc (Nat.le_refl _) _) _⟩
    · have hd : decide (d ≤ 1073741824) = false := by simpa using h2
      go_enter Tryz.func124, Tryz.ntmps124
      go_wp2
      go_quiet (fail)
      go_wp2
      go_ret
      exact ⟨ret_bool (fvalid_no (by omega)), below_drewN ((Below.refl _ _).alloc (Nat.le_refl _) _) _⟩
  · have hd : decide (1 ≤ d) = false := by simpa using h1
    go_enter Tryz.func124, Tryz.ntmps124
    go_wp2
    go_quiet (fail)
    go_wp2
    go_ret
    exact ⟨ret_bool (fvalid_no (by omega)), below_drewN ((Below.refl _ _).alloc (Nat.le_refl _) _) _⟩
end Go.Proofs.YtaodebpogibimaaGreat
namespace Go.Proofs.YtaodebpogibimaaGreat
open Go.RowKit

theorem bcell {W w1 : World} (hb : Below W.heap.size W w1) : (∀ b o, b < W.heap.size → w1.cell? ⟨b, o, none⟩ = W.cell? ⟨b, o, none⟩) ∧ (∀ b o, b < W.heap.size → w1.frozen? ⟨b, o, none⟩ = W.frozen? ⟨b, o, none⟩) :=
  ⟨fun b o h => hb.cell (p := ⟨b, o, none⟩) h, fun b o h => hb.frozen (p := ⟨b, o, none⟩) h⟩
theorem bfour {A w : World} (hb : Below A.heap.size A w) : (∀ b o, b < A.heap.size → w.cell? ⟨b, o, none⟩ = A.cell? ⟨b, o, none⟩) ∧ (∀ b o, b < A.heap.size → w.frozen? ⟨b, o, none⟩ = A.frozen? ⟨b, o, none⟩) ∧ (∀ b, b < A.heap.size → b < w.heap.size) ∧ (∀ b, b < A.heap.size → b ≤ w.heap.size) :=
  ⟨(bcell hb).1, (bcell hb).2, fun _ h => Nat.lt_of_lt_of_le h hb.size, fun _ h => Nat.le_of_lt (Nat.lt_of_lt_of_le h hb.size)⟩
def checkC (n d : Int) : Int := if fvalid n d then 0 else 3
theorem checkC_yes {n d : Int} (h : fvalid n d = true) : checkC n d = 0 := by simp [checkC, h]
theorem checkC_no {n d : Int} (h : fvalid n d = false) : checkC n d = 3 := by simp [checkC, h]
theorem check_yes (n d : Int) (w : World) (h : fvalid n d = true) :
    Calls Tryz.prog 120 #[.agg #[.int .i64 n, .int .i64 d]] w fun e w' => e = .returned (.agg #[.int .i64 0, .int .i64 0]) ∧ Below w.heap.size w w' := by
  go_enter Tryz.func120, Tryz.ntmps120
  go_wp2_with ((with_reducible refine (valid_any _ _ _).mono ?_); rintro e w1 ⟨rfl, hb⟩; obtain ⟨hc, hf⟩ := bcell hb)
  refine bodyPost_ret (v := .agg #[.int .i64 0, .int .i64 0]) (by simp [results, Tryz.results120, go_sem, hc]) rfl ⟨rfl, ?_⟩
  exact ((((((Below.refl _ _).alloc (Nat.le_refl _) _).alloc (by simp) _).trans (hb.mono (by simp; omega))).setCell (by simp) _).setCell (by simp) _)
theorem check_no (n d : Int) (w : World) (h : fvalid n d = false) :
    Calls Tryz.prog 120 #[.agg #[.int .i64 n, .int .i64 d]] w fun e w' => e = .returned (.agg #[.int .i64 3, .int .i64 0]) ∧ Below w.heap.size w w' := by
  go_enter Tryz.func120, Tryz.ntmps120
  go_wp2_with ((with_reducible refine (valid_any _ _ _).mono ?_); rintro e w1 ⟨rfl, hb⟩; obtain ⟨hc, hf⟩ := bcell hb)
  refine bodyPost_ret (v := .agg #[.int .i64 3, .int .i64 0]) (by simp [results, Tryz.results120, go_sem, hc]) rfl ⟨rfl, ?_⟩
  have g1 := below_after (a := w) (by go_grown) hb
  go_grown

/-- What Make returns: numerator, denominator, the fault's code. -/
def madeN (num den : Int) : Int := if den = 0 then 0 else if 1073741824 < mag num / Nat.gcd (mag num) (mag den) ∨ 1073741824 < mag den / Nat.gcd (mag num) (mag den) then 0 else if (decide (num < 0) == decide (den < 0)) = true then ((mag num / Nat.gcd (mag num) (mag den) : Nat) : Int) else - ((mag num / Nat.gcd (mag num) (mag den) : Nat) : Int)
def madeD (num den : Int) : Int := if den = 0 then 0 else if 1073741824 < mag num / Nat.gcd (mag num) (mag den) ∨ 1073741824 < mag den / Nat.gcd (mag num) (mag den) then 0 else ((mag den / Nat.gcd (mag num) (mag den) : Nat) : Int)
def madeC (num den : Int) : Int := if den = 0 then 6 else if 1073741824 < mag num / Nat.gcd (mag num) (mag den) ∨ 1073741824 < mag den / Nat.gcd (mag num) (mag den) then 10 else 0
/-- The way in which a call that yields a fraction and a fault ends: nothing that was there has changed. -/
def Gives (n d c i : Int) (w : World) (e : Ending) (w' : World) : Prop := e = .returned (.tuple #[.agg #[.int .i64 n, .int .i64 d], .agg #[.int .i64 c, .int .i64 i]]) ∧ Below w.heap.size w w'

theorem make_zero (num : Int) (w : World) : Calls Tryz.prog 111 #[.int .i64 num, .int .i64 0] w (Gives 0 0 6 0 w) := by
  go_enter Tryz.func111, Tryz.ntmps111
  go_wp2
  refine bodyPost_ret (v := .tuple #[.agg #[.int .i64 0, .int .i64 0], .agg #[.int .i64 6, .int .i64 0]]) (by simp [results, Tryz.results111, go_sem]) rfl ⟨rfl, ?_⟩
  go_grown
theorem div_wrap (a g x : Nat) (ha : a ≤ 18446744073709551615) (hx : a / g = x) : IntKind.u64.wrap ((a : Int) / (g : Int)) = (x : Int) := by
  have h : a / g ≤ a := Nat.div_le_self a g
  have e : ((a : Int) / (g : Int)) = (x : Int) := by rw [← hx]; simp
  rw [e, IntKind.wrap_u64]; omega

set_option maxHeartbeats 1000000 in
theorem make_much (num den : Int) (x y : Nat) (h1 : -9223372036854775808 ≤ num) (h2 : num ≤ 9223372036854775807) (h3 : -9223372036854775808 ≤ den) (h4 : den ≤ 9223372036854775807) (hd : den ≠ 0)
    (hx : mag num / Nat.gcd (mag num) (mag den) = x) (hy : mag den / Nat.gcd (mag num) (mag den) = y) (hxy : 1073741824 < x ∨ 1073741824 < y) (w : World) :
    Calls Tryz.prog 111 #[.int .i64 num, .int .i64 den] w (Gives 0 0 10 0 w) := by
  have hm1 := mag_le num h1 h2
  have hm2 := mag_le den h3 h4
  have hg : 0 < Nat.gcd (mag num) (mag den) := by
    apply Nat.pos_of_ne_zero; intro h; rw [Nat.gcd_eq_zero_iff] at h; unfold mag at h; omega
  have ex := div_wrap _ _ _ hm1 hx
  have ey := div_wrap _ _ _ hm2 hy
  clear hx hy
  by_cases hb : 1073741824 < x
  · clear hxy
    have hb1 : decide (1073741824 < (x : Int)) = true := by simp; omega
    go_enter Tryz.func111, Tryz.ntmps111
    go_wp2_with (first | ((with_reducible refine (size_any _ ?_ ?_ _).mono ?_); (iterate 2 assumption); rintro e w1 ⟨rfl, rfl⟩) | ((with_reducible refine (divisor_any _ _ ?_ ?_ _).mono ?_); (iterate 2 assumption); rintro e w1 ⟨rfl, nd, rfl⟩))
    go_quiet (fail)
    go_wp2
    refine bodyPost_ret (v := .tuple #[.agg #[.int .i64 0, .int .i64 0], .agg #[.int .i64 10, .int .i64 0]]) (by simp [results, Tryz.results111, go_sem]) rfl ⟨rfl, ?_⟩
    go_grown
    refine below_drewN ?_ _
    go_grown
  · have hb1 : decide (1073741824 < (x : Int)) = false := by simp; omega
    have hb2 : decide (1073741824 < (y : Int)) = true := by simp; omega
    clear hxy
    go_enter Tryz.func111, Tryz.ntmps111
    go_wp2_with (first | ((with_reducible refine (size_any _ ?_ ?_ _).mono ?_); (iterate 2 assumption); rintro e w1 ⟨rfl, rfl⟩) | ((with_reducible refine (divisor_any _ _ ?_ ?_ _).mono ?_); (iterate 2 assumption); rintro e w1 ⟨rfl, nd, rfl⟩))
    go_quiet (fail)
    go_wp2
    refine bodyPost_ret (v := .tuple #[.agg #[.int .i64 0, .int .i64 0], .agg #[.int .i64 10, .int .i64 0]]) (by simp [results, Tryz.results111, go_sem]) rfl ⟨rfl, ?_⟩
    go_grown
    refine below_drewN ?_ _
    go_grown

set_option maxHeartbeats 1000000 in
theorem make_fits (num den : Int) (x y : Nat) (h1 : -9223372036854775808 ≤ num) (h2 : num ≤ 9223372036854775807) (h3 : -9223372036854775808 ≤ den) (h4 : den ≤ 9223372036854775807) (hd : den ≠ 0)
    (hx : mag num / Nat.gcd (mag num) (mag den) = x) (hy : mag den / Nat.gcd (mag num) (mag den) = y) (hx1 : x ≤ 1073741824) (hy1 : y ≤ 1073741824) (w : World) :
    Calls Tryz.prog 111 #[.int .i64 num, .int .i64 den] w (Gives (if (decide (num < 0) == decide (den < 0)) = true then x else -x) y 0 0 w) := by
  have hm1 := mag_le num h1 h2
  have hm2 := mag_le den h3 h4
  have hg : 0 < Nat.gcd (mag num) (mag den) := by
    apply Nat.pos_of_ne_zero; intro h; rw [Nat.gcd_eq_zero_iff] at h; unfold mag at h; omega
  have ex := div_wrap _ _ _ hm1 hx
  have ey := div_wrap _ _ _ hm2 hy
  clear hx hy
  have hb1 : decide (1073741824 < (x : Int)) = false := by simp; omega
  have hb2 : decide (1073741824 < (y : Int)) = false := by simp; omega
  by_cases hs : (decide (num < 0) == decide (den < 0)) = true
  · rw [if_pos hs]
    have hs' : (!decide (num < 0) == decide (den < 0)) = false := by rw [hs]; rfl
    go_enter Tryz.func111, Tryz.ntmps111
    go_wp2_with (first | ((with_reducible refine (size_any _ ?_ ?_ _).mono ?_); (iterate 2 assumption); rintro e w1 ⟨rfl, rfl⟩) | ((with_reducible refine (divisor_any _ _ ?_ ?_ _).mono ?_); (iterate 2 assumption); rintro e w1 ⟨rfl, nd, rfl⟩))
    go_quiet (fail)
    go_wp2
    refine bodyPost_ret (v := .tuple #[.agg #[.int .i64 x, .int .i64 y], .agg #[.int .i64 0, .int .i64 0]]) (by simp [results, Tryz.results111, go_sem]) rfl ⟨rfl, ?_⟩
    go_grown
    refine below_drewN ?_ _
    go_grown
  · rw [if_neg hs]
    have hs' : (!decide (num < 0) == decide (den < 0)) = true := by simpa using hs
    go_enter Tryz.func111, Tryz.ntmps111
    go_wp2_with (first | ((with_reducible refine (size_any _ ?_ ?_ _).mono ?_); (iterate 2 assumption); rintro e w1 ⟨rfl, rfl⟩) | ((with_reducible refine (divisor_any _ _ ?_ ?_ _).mono ?_); (iterate 2 assumption); rintro e w1 ⟨rfl, nd, rfl⟩))
    go_quiet (fail)
    go_wp2
    refine bodyPost_ret (v := .tuple #[.agg #[.int .i64 (-x), .int .i64 y], .agg #[.int .i64 0, .int .i64 0]]) (by simp [results, Tryz.results111, go_sem]) rfl ⟨rfl, ?_⟩
    go_grown
    refine below_drewN ?_ _
    go_grown

theorem make_any (num den : Int) (h1 : -9223372036854775808 ≤ num) (h2 : num ≤ 9223372036854775807) (h3 : -9223372036854775808 ≤ den) (h4 : den ≤ 9223372036854775807) (w : World) :
    Calls Tryz.prog 111 #[.int .i64 num, .int .i64 den] w (Gives (madeN num den) (madeD num den) (madeC num den) 0 w) := by
  unfold madeN madeD madeC
  by_cases hd : den = 0
  · subst hd; simpa using make_zero num w
  · rw [if_neg hd, if_neg hd, if_neg hd]
    by_cases hx : 1073741824 < mag num / Nat.gcd (mag num) (mag den) ∨ 1073741824 < mag den / Nat.gcd (mag num) (mag den)
    · rw [if_pos hx, if_pos hx, if_pos hx]
      exact make_much num den _ _ h1 h2 h3 h4 hd rfl rfl hx w
    · rw [if_neg hx, if_neg hx, if_neg hx]
      exact make_fits num den _ _ h1 h2 h3 h4 hd rfl rfl (by omega) (by omega) w
end Go.Proofs.YtaodebpogibimaaGreat
