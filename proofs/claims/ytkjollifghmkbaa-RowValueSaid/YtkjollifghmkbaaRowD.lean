/-
  The contract of sum.plus: the sum with one product more.
-/
import Derived.Test.YtkjollifghmkbaaRowC
import Derived.Laws.Tables
namespace Go.Proofs.Ytkjollifghmkbaa
open Go.RowKit

theorem Lg.sl {w : World} {A : Option Addr} {L n : Nat} (h : Lg w A L n) : Sl w A L n := h.1
/-- What an append to a row of whole numbers leaves as it was. -/
def Keep3 (w w' : World) : Prop := w.heap.size ≤ w'.heap.size ∧ (∀ g cs t, t ≠ 3 → HB w g t cs → HB w' g t cs) ∧ (∀ A L n, Lg w A L n → Lg w' A L n)
theorem Keep3.hb {w w' : World} {g : Nat} {t : TypeId} {cs : Array Value} (h : Keep3 w w') (ht : t ≠ 3) (k : HB w g t cs) : HB w' g t cs := h.2.1 _ _ _ ht k
theorem Keep3.lg {w w' : World} {A : Option Addr} {L n : Nat} (h : Keep3 w w') (k : Lg w A L n) : Lg w' A L n := h.2.2 _ _ _ k
theorem keep3_grown {w w' : World} {base m : Nat} {v : Value} {xs : List Value} (ho : w.ownsRow base 3 1 v m xs) (hg : w.grownBy w' v.ownBlock) : Keep3 w w' :=
  ⟨hg.size, fun _ _ _ ht h => h.grown hg (own_ne ho h ht), fun _ _ _ h => h.grown ho hg (by decide)⟩
theorem step_dens {w : World} {ops : Array Oper} {o : Oper} {a : Act} {K : Act → World → Prop} {Q : Exit → Act → World → Prop} {E : Prop} (hgd : o.guard = none) (s x : Operand)
    (ho : o.op = .call { callee := .builtin .append, args := #[s, x], argTypes := #[22, 22] })
    (base : Nat) (v : Value) (n : Nat) (xs : List Value) (hs : a.eval s = v) (hown : w.ownsRow base 3 1 v n xs) (gb : Nat) (u : Value) (hx : a.eval x = .slice (some ⟨gb, 0, none⟩) 1 1) (hnews : HB w gb 3 #[u]) (h1 : u.oneCell' = true)
    (hn : n ≤ 1000000) (hbase : base ≤ w.heap.size)
    (h : ∀ g cap w', Hid (w'.ownsRow base 3 1 (.slice (some ⟨g, 0, none⟩) (n + 1) cap) (n + 1) (xs ++ [u])) → Keep3 w w' → (∀ W, Below base W w → Below base W w') → K (a.put o.dst (.slice (some ⟨g, 0, none⟩) (n + 1) cap)) w') :
    if Region.wanted o (yielded ops a.tmps) = true then Oper.wp Try.prog o a w K Q else E := by
  obtain ⟨i0, hi0, hz0, hz1, hz2⟩ := info_parts int_info
  refine step_append_lies w hgd s x 22 ho base 3 i0 (.int .i64 0) 1 8 Try.underlying22 hi0 hz0 hz1 hz2 rfl (by omega) v n xs hs hown ⟨gb, 0, none⟩ 1 1 [u] hx rfl (World.news_of_block (cs := #[u]) hnews) (by simpa using h1) (by omega) (by unfold maxLen; omega) (by omega) hbase _ rfl ?_
  intro g cap w' hown' hg _ _
  refine h g cap w' (Lib.hid hown') (keep3_grown hown hg) (fun W hW => ?_)
  refine hW.grown hg hbase (fun j hj => ?_)
  rcases hown.2 with ⟨rfl, _⟩ | ⟨g', cp, cur, rfl, hb', _⟩
  · simp [Value.ownBlock] at hj
  · simp [Value.ownBlock] at hj; omega
/-- What the region of sum.plus reads: its operands in memory. -/
def PlusS (w0 : Nat) (v1 v2 v3 v4 : Value) (n d : Int) (w' : World) : Prop :=
  HB w' w0 65 #[v1, v2, v3, v4] ∧ HB w' (w0 + 1) 27 #[.int .i64 n, .int .i64 d] ∧ HB w' (w0 + 2) 65 #[.slice none 0 0, .slice none 0 0, .slice none 0 0, .slice none 0 0]
theorem PlusS.cells {w0 : Nat} {v1 v2 v3 v4 : Value} {n d : Int} {w' : World} (h : PlusS w0 v1 v2 v3 v4 n d w') :
    PlusS w0 v1 v2 v3 v4 n d w' ∧ w0 + 2 < w'.heap.size ∧ w'.cell? ⟨w0, 0, none⟩ = some v1 ∧ w'.cell? ⟨w0, 1, none⟩ = some v2 ∧ w'.cell? ⟨w0, 2, none⟩ = some v3 ∧ w'.cell? ⟨w0, 3, none⟩ = some v4 ∧ w'.cell? ⟨w0 + 1, 1, none⟩ = some (.int .i64 d) :=
  ⟨h, h.2.2.lt, h.1.cell 0, h.1.cell 1, h.1.cell 2, h.1.cell 3, h.2.1.cell 1⟩
theorem PlusS.below {w0 : Nat} {v1 v2 v3 v4 : Value} {n d : Int} {w w' : World} (h : PlusS w0 v1 v2 v3 v4 n d w) (k : Below w.heap.size w w') : PlusS w0 v1 v2 v3 v4 n d w' := ⟨h.1.below k, h.2.1.below k, h.2.2.below k⟩
theorem PlusS.alloc {w0 : Nat} {v1 v2 v3 v4 : Value} {n d : Int} {w : World} (h : PlusS w0 v1 v2 v3 v4 n d w) (o : Obj) : PlusS w0 v1 v2 v3 v4 n d (w.alloc o) := ⟨h.1.alloc o, h.2.1.alloc o, h.2.2.alloc o⟩
theorem PlusS.drew {w0 : Nat} {v1 v2 v3 v4 : Value} {n d : Int} {w : World} (h : PlusS w0 v1 v2 v3 v4 n d w) : PlusS w0 v1 v2 v3 v4 n d w.drew := h
theorem PlusS.keep {w0 : Nat} {v1 v2 v3 v4 : Value} {n d : Int} {w w' : World} (h : PlusS w0 v1 v2 v3 v4 n d w) (k : Keep3 w w') : PlusS w0 v1 v2 v3 v4 n d w' := ⟨k.2.1 _ _ _ (by decide) h.1, k.2.1 _ _ _ (by decide) h.2.1, k.2.1 _ _ _ (by decide) h.2.2⟩
theorem PlusS.set_ {w0 g : Nat} {v1 v2 v3 v4 : Value} {n d : Int} {w : World} (h : PlusS w0 v1 v2 v3 v4 n d w) (hg : w0 + 2 < g) (i : Nat) (u : Value) : PlusS w0 v1 v2 v3 v4 n d (w.setCell ⟨g, i, none⟩ u) :=
  ⟨h.1.far (by intro e; have e' : w0 = g := e; omega) u, h.2.1.far (by intro e; have e' : w0 + 1 = g := e; omega) u, h.2.2.far (by intro e; have e' : w0 + 2 = g := e; omega) u⟩
/-- Nothing but one block has changed. -/
structure Far (g : Nat) (w w' : World) : Prop where
  os : w'.os = w.os
  tape : w'.tape = w.tape
  output : w'.output = w.output
  size : w'.heap.size = w.heap.size
  block : ∀ k, k ≠ g → w'.heap[k]? = w.heap[k]?
theorem far_row (w : World) (g : Nat) (cs : Array Value) : Far g w (w.setRow g cs) := ⟨rfl, rfl, rfl, by simp, fun k hk => setRow_other w g k cs hk⟩
theorem sum_info : (Try.prog.info? 65).map (·.size) = some 4 := by kernel_rfl
theorem step_put {w : World} {ops : Array Oper} {o : Oper} {a : Act} {K : Act → World → Prop} {Q : Exit → Act → World → Prop} {E : Prop} (hgd : o.guard = none) (x y : Operand)
    (ho : o.op = .store 65 x y) (g : Nat) (v1 v2 v3 v4 : Value) (hx : a.eval x = .pointer (some ⟨g, 0, none⟩)) (hy : a.eval y = .agg #[v1, v2, v3, v4]) (h1 : (#[v1, v2, v3, v4] : Array Value).all (·.oneCell') = true) (old : Array Value) (hg : HB w g 65 old) (hold : old.size = 4)
    (h : ∀ w', Hid (HB w' g 65 #[v1, v2, v3, v4]) → Far g w w' → K (a.put o.dst undef) w') :
    if Region.wanted o (yielded ops a.tmps) = true then Oper.wp Try.prog o a w K Q else E := by
  have hw : Region.wanted o (yielded ops a.tmps) = true := by simp [Region.wanted, hgd]
  rw [if_pos hw]
  exact wp_store_row 65 x y ho g #[v1, v2, v3, v4] hx hy 65 old hg sum_info (by simpa using hold) h1 (h _ (setRow_heap w g old _ 65 (0, 0) hg) (far_row w g _))
section
variable {w w' W : World} {g L n : Nat} {A : Option Addr} {old : Array Value}
theorem Lg.far_ (h : Lg w A L n) (k : HB w g 65 old) (f : Far g w w') : Lg w' A L n :=
  h.at fun g' hty => f.block g' (fun e => by subst e; rw [k.ty] at hty; cases hty)
theorem own_farg {base m : Nat} {v : Value} {xs : List Value} (h : w.ownsRow base 3 1 v m xs) (k : HB w g 65 old) (f : Far g w w') : w'.ownsRow base 3 1 v m xs := by
  refine ⟨h.1, ?_⟩
  rcases h.2 with z | ⟨g', cap, cur, rfl, hb, hh, r⟩
  · exact .inl z
  · refine .inr ⟨g', cap, cur, rfl, hb, (f.block g' (fun e2 => ?_)).trans hh, r⟩
    subst e2
    unfold HB at k
    rw [hh] at k
    injection k with k
    injection k with _ k
    cases k
theorem PlusS.far_ {w0 : Nat} {v1 v2 v3 v4 : Value} {n d : Int} (h : PlusS w0 v1 v2 v3 v4 n d w) (hg : w0 + 2 < g) (f : Far g w w') : PlusS w0 v1 v2 v3 v4 n d w' :=
  ⟨(f.block _ (by omega)).trans h.1, (f.block _ (by omega)).trans h.2.1, (f.block _ (by omega)).trans h.2.2⟩
theorem bw_far {base : Nat} (h : Below base W w) (hg : base ≤ g) (f : Far g w w') : Below base W w' :=
  h.trans ⟨f.os, f.tape, f.output, by rw [f.size]; exact Nat.le_refl _, fun k hk => f.block k (by omega)⟩
theorem HB.new1 (w : World) (o : Obj) (t : TypeId) (cs : Array Value) : HB ((w.alloc o).alloc (.cells cs t)) (w.heap.size + 1) t cs := by simpa using HB.new (w.alloc o) t cs
end
theorem HB.four {w : World} {g : Nat} {v1 v2 v3 v4 : Value} (h : HB w g 65 #[v1, v2, v3, v4]) : w.cell? ⟨g, 0, none⟩ = some v1 ∧ w.cell? ⟨g, 1, none⟩ = some v2 ∧ w.cell? ⟨g, 2, none⟩ = some v3 ∧ w.cell? ⟨g, 3, none⟩ = some v4 ∧
    w.frozen? ⟨g, 0, none⟩ = false ∧ w.frozen? ⟨g, 1, none⟩ = false ∧ w.frozen? ⟨g, 2, none⟩ = false ∧ w.frozen? ⟨g, 3, none⟩ = false :=
  ⟨h.cell 0, h.cell 1, h.cell 2, h.cell 3, h.frozen 0, h.frozen 1, h.frozen 2, h.frozen 3⟩
theorem HB.use {P : Prop} {w : World} {w0 g : Nat} (h : HB w g 65 #[.slice none 0 0, .slice none 0 0, .slice none 0 0, .slice none 0 0]) (lt : w0 < g)
    (k : Hid (HB w g 65 #[.slice none 0 0, .slice none 0 0, .slice none 0 0, .slice none 0 0]) → w0 < g → w.cell? ⟨g, 0, none⟩ = some (.slice none 0 0) → w.cell? ⟨g, 1, none⟩ = some (.slice none 0 0) → w.cell? ⟨g, 2, none⟩ = some (.slice none 0 0) → w.cell? ⟨g, 3, none⟩ = some (.slice none 0 0) →
    w.frozen? ⟨g, 0, none⟩ = false → w.frozen? ⟨g, 1, none⟩ = false → w.frozen? ⟨g, 2, none⟩ = false → w.frozen? ⟨g, 3, none⟩ = false → P) : P :=
  k (Lib.hid h) lt (h.cell 0) (h.cell 1) (h.cell 2) (h.cell 3) (h.frozen 0) (h.frozen 1) (h.frozen 2) (h.frozen 3)
theorem far_set (w : World) (g i : Nat) (u : Value) : Far g w (w.setCell ⟨g, i, none⟩ u) := ⟨rfl, rfl, rfl, by simp [World.setCell], fun k hk => Below.heap_setCell w ⟨g, i, none⟩ u k hk⟩
theorem Far.trans {g : Nat} {w w' w'' : World} (h : Far g w w') (k : Far g w' w'') : Far g w w'' :=
  ⟨k.os.trans h.os, k.tape.trans h.tape, k.output.trans h.output, k.size.trans h.size, fun j hj => (k.block j hj).trans (h.block j hj)⟩
/-- Four cells laid. -/
def set4 (w : World) (g : Nat) (v1 v2 v3 v4 : Value) : World := (((w.setCell ⟨g, 0, none⟩ v1).setCell ⟨g, 1, none⟩ v2).setCell ⟨g, 2, none⟩ v3).setCell ⟨g, 3, none⟩ v4
theorem far4 (w : World) (g : Nat) (v1 v2 v3 v4 : Value) : Far g w (set4 w g v1 v2 v3 v4) := (((far_set w g 0 v1).trans (far_set _ g 1 v2)).trans (far_set _ g 2 v3)).trans (far_set _ g 3 v4)
theorem HB.set4 {w : World} {g : Nat} {t : TypeId} {a b c d : Value} (h : HB w g t #[a, b, c, d]) (v1 v2 v3 v4 : Value) : HB (set4 w g v1 v2 v3 v4) g t #[v1, v2, v3, v4] := by
  have := (((h.set_ 0 v1).set_ 1 v2).set_ 2 v3).set_ 3 v4
  show HB ((((w.setCell ⟨g, 0, none⟩ v1).setCell ⟨g, 1, none⟩ v2).setCell ⟨g, 2, none⟩ v3).setCell ⟨g, 3, none⟩ v4) g t _
  simpa using this
theorem HB.far_ {w w' : World} {g g' : Nat} {t : TypeId} {cs : Array Value} (h : HB w g t cs) (hg : g ≠ g') (f : Far g' w w') : HB w' g t cs := (f.block g hg).trans h
theorem bw_alloc {base : Nat} {w w' : World} (hb : base ≤ w.heap.size) (h : Below base w w') (o : Obj) : Below base w (w'.alloc o) := h.alloc (Nat.le_trans hb h.size) o
/-- What is above 0, and what below, with one product more. -/
def plusA (a u : Nat) (c n : Int) (d : Nat) : Nat := if (decide (c < 0) == decide (n < 0)) = true then a * d + u * mag c * mag n else a * d
def plusB (b u : Nat) (c n : Int) (d : Nat) : Nat := if (decide (c < 0) == decide (n < 0)) = true then b * d else b * d + u * mag c * mag n
set_option maxRecDepth 100000 in
set_option maxHeartbeats 30000000 in
theorem splus_any (base K a b u : Nat) (ds : List Int) (A1 A2 A3 A4 : Option Addr) (L1 c1 L2 c2 L3 c3 n4 c4 : Nat) (c n : Int) (d : Nat) (hK : K ≤ 500) (hds : n4 ≤ 100) (hc1 : -1000000 ≤ c) (hc2 : c ≤ 1000000) (hn1 : -1073741824 ≤ n) (hn2 : n ≤ 1073741824) (hd2 : d ≤ 1073741824)
    (w : World) (hb : base ≤ w.heap.size) (h1 : L1 ≤ K) (h2 : L2 ≤ K) (h3 : L3 ≤ K) (r1 : Lg w A1 L1 a) (r2 : Lg w A2 L2 b) (r3 : Lg w A3 L3 u) (ho : w.ownsRow base 3 1 (.slice A4 n4 c4) n4 (ds.map (.int .i64))) :
    Calls Try.prog 35 #[.agg #[.slice A1 L1 c1, .slice A2 L2 c2, .slice A3 L3 c3, .slice A4 n4 c4], .int .i64 c, .agg #[.int .i64 n, .int .i64 d]] w
      (GivesSum base (K + 4) (plusA a u c n d) (plusB b u c n d) (u * d) (ds ++ [(d : Int)]) w) := by
  have t1 : IntKind.i64.wrap (-c) = -c := IntWalk.i64_in _ (by omega)
  have t2 : IntKind.i64.wrap (-n) = -n := IntWalk.i64_in _ (by omega)
  have t3 := max_mag c
  have t4 := max_mag n
  have m1 : mag c ≤ 4294967295 := mag_bd (by omega) (by omega)
  have m2 : mag n ≤ 4294967295 := mag_bd (by omega) (by omega)
  have m3 : d ≤ 4294967295 := by omega
  have e1 : L1 ≤ 1000 := by omega
  have e2 : L2 ≤ 1000 := by omega
  have e3 : L3 ≤ 1000 := by omega
  have R1 := Lib.hid r1
  have R2 := Lib.hid r2
  have R3 := Lib.hid r3
  have HO := Lib.hid ho
  clear r1 r2 r3 ho
  obtain ⟨i0, hi0, hz0, hz1, hz2⟩ := info_parts int_info
  go_enter Try.func35, Try.ntmps35
  go_wp2_with fail
  go_upto_region 2 with fail
  go_cut [7] (fun s7 wx => ∃ A L c', s7 = .slice A L c' ∧ L ≤ K + 2 ∧ Hid (Lg wx A L (u * mag c * mag n)) ∧ w.heap.size + 3 ≤ wx.heap.size ∧ Hid (HB wx w.heap.size 65 #[.slice A1 L1 c1, .slice A2 L2 c2, .slice A3 L3 c3, .slice A4 n4 c4]) ∧ Hid (HB wx (w.heap.size + 1) 27 #[.int .i64 n, .int .i64 d]) ∧ Hid (HB wx (w.heap.size + 2) 65 #[.slice none 0 0, .slice none 0 0, .slice none 0 0, .slice none 0 0]) ∧ Below w.heap.size w wx)
  case first =>
    have hA : HB ((w.alloc (.cells #[.slice A1 L1 c1, .slice A2 L2 c2, .slice A3 L3 c3, .slice A4 n4 c4] 65)).alloc (.cells #[.int .i64 n, .int .i64 d] 27)) w.heap.size 65 #[.slice A1 L1 c1, .slice A2 L2 c2, .slice A3 L3 c3, .slice A4 n4 c4] := (HB.new w _ _).alloc _
    have hB : HB ((w.alloc (.cells #[.slice A1 L1 c1, .slice A2 L2 c2, .slice A3 L3 c3, .slice A4 n4 c4] 65)).alloc (.cells #[.int .i64 n, .int .i64 d] 27)) (w.heap.size + 1) 27 #[.int .i64 n, .int .i64 d] := by simpa using HB.new (w.alloc (.cells #[.slice A1 L1 c1, .slice A2 L2 c2, .slice A3 L3 c3, .slice A4 n4 c4] 65)) 27 #[.int .i64 n, .int .i64 d]
    have hC : HB (((w.alloc (.cells #[.slice A1 L1 c1, .slice A2 L2 c2, .slice A3 L3 c3, .slice A4 n4 c4] 65)).alloc (.cells #[.int .i64 n, .int .i64 d] 27)).alloc (.cells #[.slice none 0 0, .slice none 0 0, .slice none 0 0, .slice none 0 0] 65)) (w.heap.size + 2) 65 #[.slice none 0 0, .slice none 0 0, .slice none 0 0, .slice none 0 0] := by simpa using HB.new ((w.alloc (.cells #[.slice A1 L1 c1, .slice A2 L2 c2, .slice A3 L3 c3, .slice A4 n4 c4] 65)).alloc (.cells #[.int .i64 n, .int .i64 d] 27)) 65 #[.slice none 0 0, .slice none 0 0, .slice none 0 0, .slice none 0 0]
    have HA := Lib.hid hA
    have HBB := Lib.hid hB
    have HC := Lib.hid hC
    clear hA hB hC
    go_region_held3 (fun w' => w'.cell? ⟨w.heap.size, 2, none⟩ = some (.slice A3 L3 c3) ∧ w'.cell? ⟨w.heap.size + 1, 0, none⟩ = some (.int .i64 n))
      (((try dsimp only); (repeat' apply And.intro) <;> (first | (rw [hy1 _ _ (by have := k4.size; simp at this; omega), hx1 _ _ (by simp <;> omega)]; simp [go_sem]; done) | (rw [hx1 _ _ (by simp <;> omega)]; simp [go_sem]; done) | (simp [go_sem]; done))))
      (first
        | (go_at_call 69; (with_reducible refine (times_any A3 L3 c3 u (mag c) e3 m1 _ ?_).mono ?_); exact (R3.out.below (by go_grown)).1; rintro e w1 ⟨Ax, Lx, cx, rfl, k1, k2, k3, k4⟩; obtain ⟨hx1, hx2⟩ := bcell k4; have ex : Lx ≤ 1000 := by omega)
        | (go_at_call 69; (with_reducible refine (times_any Ax Lx cx (u * mag c) (mag n) ex m2 _ ?_).mono ?_); exact k3.1; rintro e w2 ⟨Ay, Ly, cy, rfl, j1, j2, j3, j4⟩; obtain ⟨hy1, hy2⟩ := bcell j4))
    all_goals
      go_wp2_with fail
      go_meet
      have z1 := k4.size
      have z2 := j4.size
      simp at z1
      exact ⟨Ay, Ly, cy, rfl, by omega, j3, by omega, ((HA.out.alloc _).drew.below k4).below j4, ((HBB.out.alloc _).drew.below k4).below j4, (HC.out.drew.below k4).below j4, bw_below (Nat.le_refl _) (bw_below (Nat.le_refl _) (by go_grown) k4) j4⟩
  case rest =>
    obtain ⟨A, L, c', rfl, hL, HS, hsz, HA, HBB, HC, hbw⟩ := hcut
    have hps : PlusS w.heap.size (.slice A1 L1 c1) (.slice A2 L2 c2) (.slice A3 L3 c3) (.slice A4 n4 c4) n d wc := ⟨HA.out, HBB.out, HC.out⟩
    have HPS := Lib.hid hps
    obtain ⟨ca0, ca1, ca2, ca3, ca4, ca5, ca6⟩ := hps.cells
    have Q1 := Lib.hid (R1.out.below hbw)
    have Q2 := Lib.hid (R2.out.below hbw)
    have Q3 := Lib.hid (R3.out.below hbw)
    have QO := Lib.hid (own_below HO.out hbw)
    have bb : base ≤ wc.heap.size := by omega
    have hbw2 := Lib.hid (hbw.mono hb)
    clear t1 t2 t3 t4 m1 m2 R1 R2 R3 HO HA HBB HC hbw hps ca0
    have n65 : (65 : TypeId) ≠ 3 := by decide
    go_upto_region 3 with fail
    go_cut [8] (fun s8 wy => ∃ g8 A1' L1' c1' A2' L2' c2' A3' L3' c3' A4' n4' c4', s8 = .pointer (some ⟨g8, 0, none⟩) ∧ Hid (HB wy g8 65 #[.slice A1' L1' c1', .slice A2' L2' c2', .slice A3' L3' c3', .slice A4' n4' c4']) ∧ w.heap.size + 2 < g8 ∧
      L1' ≤ K + 1 ∧ L2' ≤ K + 1 ∧ L3' ≤ K + 1 ∧ Hid (Lg wy A1' L1' (a * d)) ∧ Hid (Lg wy A2' L2' (b * d)) ∧ Hid (Lg wy A3' L3' (u * d)) ∧ n4' = n4 + 1 ∧ Hid (wy.ownsRow base 3 1 (.slice A4' n4' c4') n4' (ds.map (.int .i64) ++ [.int .i64 d])) ∧ Hid (Lg wy A L (u * mag c * mag n)) ∧
      Hid (PlusS w.heap.size (.slice A1 L1 c1) (.slice A2 L2 c2) (.slice A3 L3 c3) (.slice A4 n4 c4) n d wy) ∧ Below base w wy)
    case first =>
      go_region_held3 (fun w' => PlusS w.heap.size (.slice A1 L1 c1) (.slice A2 L2 c2) (.slice A3 L3 c3) (.slice A4 n4 c4) n d w' ∧ w.heap.size + 2 < w'.heap.size ∧ w'.cell? ⟨w.heap.size, 0, none⟩ = some (.slice A1 L1 c1) ∧ w'.cell? ⟨w.heap.size, 1, none⟩ = some (.slice A2 L2 c2) ∧ w'.cell? ⟨w.heap.size, 2, none⟩ = some (.slice A3 L3 c3) ∧ w'.cell? ⟨w.heap.size, 3, none⟩ = some (.slice A4 n4 c4) ∧ w'.cell? ⟨w.heap.size + 1, 1, none⟩ = some (.int .i64 d))
        ((refine PlusS.cells ?_; (repeat (first | (with_reducible exact HPS.out) | (with_reducible refine PlusS.below ?_ k4) | (with_reducible refine PlusS.below ?_ j4) | (with_reducible refine PlusS.below ?_ l4) | (with_reducible refine PlusS.set_ ?_ (by omega) _ _) | (with_reducible refine PlusS.keep ?_ hkp) | (with_reducible refine PlusS.drew ?_) | (with_reducible refine PlusS.alloc ?_ _)))))
        (first
          | (go_at_call 69; (with_reducible refine (times_any A1 L1 c1 a d e1 m3 _ ?_).mono ?_); (refine Lg.sl ?_; (repeat (first | (with_reducible exact Q1.out) | (with_reducible refine Lg.below ?_ k4) | (with_reducible refine Lg.below ?_ j4) | (with_reducible refine Lg.below ?_ l4) | (with_reducible refine Keep3.lg hkp ?_) | (with_reducible refine Lg.drew ?_) | (with_reducible refine Lg.alloc ?_ _)))); rintro e w1 ⟨A1n, L1n, c1n, rfl, k1, k2, k3, k4⟩; have q1 : w.heap.size + 3 ≤ w1.heap.size := (by have := k4.size; (try simp at this); omega))
          | (go_at_call 69; (with_reducible refine (times_any A2 L2 c2 b d e2 m3 _ ?_).mono ?_); (refine Lg.sl ?_; (repeat (first | (with_reducible exact Q2.out) | (with_reducible refine Lg.below ?_ k4) | (with_reducible refine Lg.below ?_ j4) | (with_reducible refine Lg.below ?_ l4) | (with_reducible refine Keep3.lg hkp ?_) | (with_reducible refine Lg.drew ?_) | (with_reducible refine Lg.alloc ?_ _)))); rintro e w2 ⟨A2n, L2n, c2n, rfl, j1, j2, j3, j4⟩; have q2 : w.heap.size + 3 ≤ w2.heap.size := (by have := j4.size; (try simp at this); omega))
          | (go_at_call 69; (with_reducible refine (times_any A3 L3 c3 u d e3 m3 _ ?_).mono ?_); (refine Lg.sl ?_; (repeat (first | (with_reducible exact Q3.out) | (with_reducible refine Lg.below ?_ k4) | (with_reducible refine Lg.below ?_ j4) | (with_reducible refine Lg.below ?_ l4) | (with_reducible refine Keep3.lg hkp ?_) | (with_reducible refine Lg.drew ?_) | (with_reducible refine Lg.alloc ?_ _)))); rintro e w3 ⟨A3n, L3n, c3n, rfl, l1, l2, l3, l4⟩; have q3 : w.heap.size + 3 ≤ w3.heap.size := (by have := l4.size; (try simp at this); omega))
          | (refine step_dens rfl _ _ rfl base (.slice A4 n4 c4) n4 (ds.map (.int .i64)) rfl ?_ _ (.int .i64 d) rfl ?_ rfl (by omega) ?_ ?_; (repeat (first | (with_reducible exact QO.out) | (with_reducible refine own_below ?_ k4) | (with_reducible refine own_below ?_ j4) | (with_reducible refine own_below ?_ l4) | (with_reducible refine World.ownsRow.drew ?_) | (with_reducible refine World.ownsRow.alloc ?_ _))); (repeat (first | (with_reducible exact HB.new _ _ _) | (with_reducible exact HB.new1 _ _ _ _) | (with_reducible refine HB.below ?_ k4) | (with_reducible refine HB.below ?_ j4) | (with_reducible refine HB.below ?_ l4) | (with_reducible refine HB.drew ?_) | (exact HB.new _ _ _) | (with_reducible refine HB.alloc ?_ _))); (first | omega | (simp; omega)); intro g4 cap4 w4 hown4 hkp hb4; first | (refine HB.use (w0 := w.heap.size + 2) (g := wc.heap.size) (w := w4) ?_ ?_ ?_; (with_reducible refine Keep3.hb hkp n65 ?_); (repeat (first | (with_reducible exact HB.new _ _ _) | (with_reducible exact HB.new1 _ _ _ _) | (with_reducible refine HB.below ?_ k4) | (with_reducible refine HB.below ?_ j4) | (with_reducible refine HB.below ?_ l4) | (with_reducible refine HB.drew ?_) | (exact HB.new _ _ _) | (with_reducible refine HB.alloc ?_ _))); omega; intro f8 g8 f80 f81 f82 f83 f84 f85 f86 f87) | (refine HB.use (w0 := w.heap.size + 2) (g := (wc.heap.size + 1)) (w := w4) ?_ ?_ ?_; (with_reducible refine Keep3.hb hkp n65 ?_); (repeat (first | (with_reducible exact HB.new _ _ _) | (with_reducible exact HB.new1 _ _ _ _) | (with_reducible refine HB.below ?_ k4) | (with_reducible refine HB.below ?_ j4) | (with_reducible refine HB.below ?_ l4) | (with_reducible refine HB.drew ?_) | (exact HB.new _ _ _) | (with_reducible refine HB.alloc ?_ _))); omega; intro f8 g8 f80 f81 f82 f83 f84 f85 f86 f87) | (refine HB.use (w0 := w.heap.size + 2) (g := w1.heap.size) (w := w4) ?_ ?_ ?_; (with_reducible refine Keep3.hb hkp n65 ?_); (repeat (first | (with_reducible exact HB.new _ _ _) | (with_reducible exact HB.new1 _ _ _ _) | (with_reducible refine HB.below ?_ k4) | (with_reducible refine HB.below ?_ j4) | (with_reducible refine HB.below ?_ l4) | (with_reducible refine HB.drew ?_) | (exact HB.new _ _ _) | (with_reducible refine HB.alloc ?_ _))); omega; intro f8 g8 f80 f81 f82 f83 f84 f85 f86 f87) | (refine HB.use (w0 := w.heap.size + 2) (g := (w1.heap.size + 1)) (w := w4) ?_ ?_ ?_; (with_reducible refine Keep3.hb hkp n65 ?_); (repeat (first | (with_reducible exact HB.new _ _ _) | (with_reducible exact HB.new1 _ _ _ _) | (with_reducible refine HB.below ?_ k4) | (with_reducible refine HB.below ?_ j4) | (with_reducible refine HB.below ?_ l4) | (with_reducible refine HB.drew ?_) | (exact HB.new _ _ _) | (with_reducible refine HB.alloc ?_ _))); omega; intro f8 g8 f80 f81 f82 f83 f84 f85 f86 f87) | (refine HB.use (w0 := w.heap.size + 2) (g := w2.heap.size) (w := w4) ?_ ?_ ?_; (with_reducible refine Keep3.hb hkp n65 ?_); (repeat (first | (with_reducible exact HB.new _ _ _) | (with_reducible exact HB.new1 _ _ _ _) | (with_reducible refine HB.below ?_ k4) | (with_reducible refine HB.below ?_ j4) | (with_reducible refine HB.below ?_ l4) | (with_reducible refine HB.drew ?_) | (exact HB.new _ _ _) | (with_reducible refine HB.alloc ?_ _))); omega; intro f8 g8 f80 f81 f82 f83 f84 f85 f86 f87) | (refine HB.use (w0 := w.heap.size + 2) (g := (w2.heap.size + 1)) (w := w4) ?_ ?_ ?_; (with_reducible refine Keep3.hb hkp n65 ?_); (repeat (first | (with_reducible exact HB.new _ _ _) | (with_reducible exact HB.new1 _ _ _ _) | (with_reducible refine HB.below ?_ k4) | (with_reducible refine HB.below ?_ j4) | (with_reducible refine HB.below ?_ l4) | (with_reducible refine HB.drew ?_) | (exact HB.new _ _ _) | (with_reducible refine HB.alloc ?_ _))); omega; intro f8 g8 f80 f81 f82 f83 f84 f85 f86 f87) | (refine HB.use (w0 := w.heap.size + 2) (g := w3.heap.size) (w := w4) ?_ ?_ ?_; (with_reducible refine Keep3.hb hkp n65 ?_); (repeat (first | (with_reducible exact HB.new _ _ _) | (with_reducible exact HB.new1 _ _ _ _) | (with_reducible refine HB.below ?_ k4) | (with_reducible refine HB.below ?_ j4) | (with_reducible refine HB.below ?_ l4) | (with_reducible refine HB.drew ?_) | (exact HB.new _ _ _) | (with_reducible refine HB.alloc ?_ _))); omega; intro f8 g8 f80 f81 f82 f83 f84 f85 f86 f87) | (refine HB.use (w0 := w.heap.size + 2) (g := (w3.heap.size + 1)) (w := w4) ?_ ?_ ?_; (with_reducible refine Keep3.hb hkp n65 ?_); (repeat (first | (with_reducible exact HB.new _ _ _) | (with_reducible exact HB.new1 _ _ _ _) | (with_reducible refine HB.below ?_ k4) | (with_reducible refine HB.below ?_ j4) | (with_reducible refine HB.below ?_ l4) | (with_reducible refine HB.drew ?_) | (exact HB.new _ _ _) | (with_reducible refine HB.alloc ?_ _))); omega; intro f8 g8 f80 f81 f82 f83 f84 f85 f86 f87) | skip))
      all_goals
        go_wp2_with fail
        go_meet
        first
          | (refine ⟨_, A1n, L1n, c1n, A2n, L2n, c2n, A3n, L3n, c3n, (some ⟨g4, 0, none⟩), (n4 + 1), cap4, rfl, HB.set4 f8.out _ _ _ _, g8, by omega, by omega, by omega, ?_, ?_, ?_, rfl, own_farg hown4.out f8.out (far4 w4 _ _ _ _ _), ?_, ?_, ?_⟩
             · (refine Lg.far_ (w := w4) ?_ f8.out (far4 w4 _ _ _ _ _); (repeat (first | (with_reducible exact k3) | (with_reducible exact j3) | (with_reducible exact l3) | (with_reducible exact HS.out) | (with_reducible refine Keep3.lg hkp ?_) | (with_reducible refine Lg.below ?_ k4) | (with_reducible refine Lg.below ?_ j4) | (with_reducible refine Lg.below ?_ l4) | (with_reducible refine Lg.drew ?_) | (with_reducible refine Lg.alloc ?_ _))))
             · (refine Lg.far_ (w := w4) ?_ f8.out (far4 w4 _ _ _ _ _); (repeat (first | (with_reducible exact k3) | (with_reducible exact j3) | (with_reducible exact l3) | (with_reducible exact HS.out) | (with_reducible refine Keep3.lg hkp ?_) | (with_reducible refine Lg.below ?_ k4) | (with_reducible refine Lg.below ?_ j4) | (with_reducible refine Lg.below ?_ l4) | (with_reducible refine Lg.drew ?_) | (with_reducible refine Lg.alloc ?_ _))))
             · (refine Lg.far_ (w := w4) ?_ f8.out (far4 w4 _ _ _ _ _); (repeat (first | (with_reducible exact k3) | (with_reducible exact j3) | (with_reducible exact l3) | (with_reducible exact HS.out) | (with_reducible refine Keep3.lg hkp ?_) | (with_reducible refine Lg.below ?_ k4) | (with_reducible refine Lg.below ?_ j4) | (with_reducible refine Lg.below ?_ l4) | (with_reducible refine Lg.drew ?_) | (with_reducible refine Lg.alloc ?_ _))))
             · (refine Lg.far_ (w := w4) ?_ f8.out (far4 w4 _ _ _ _ _); (repeat (first | (with_reducible exact k3) | (with_reducible exact j3) | (with_reducible exact l3) | (with_reducible exact HS.out) | (with_reducible refine Keep3.lg hkp ?_) | (with_reducible refine Lg.below ?_ k4) | (with_reducible refine Lg.below ?_ j4) | (with_reducible refine Lg.below ?_ l4) | (with_reducible refine Lg.drew ?_) | (with_reducible refine Lg.alloc ?_ _))))
             · (refine PlusS.far_ (w := w4) ?_ g8 (far4 w4 _ _ _ _ _); (repeat (first | (with_reducible exact HPS.out) | (with_reducible refine PlusS.keep ?_ hkp) | (with_reducible refine PlusS.below ?_ k4) | (with_reducible refine PlusS.below ?_ j4) | (with_reducible refine PlusS.below ?_ l4) | (with_reducible refine PlusS.drew ?_) | (with_reducible refine PlusS.alloc ?_ _))))
             · (refine bw_far (w := w4) ?_ (by omega) (far4 w4 _ _ _ _ _); (repeat (first | (with_reducible exact hbw2.out) | (with_reducible refine hb4 _ ?_) | (with_reducible refine bw_below hb ?_ k4) | (with_reducible refine bw_below hb ?_ j4) | (with_reducible refine bw_below hb ?_ l4) | (with_reducible refine Below.drew ?_) | (with_reducible refine bw_alloc hb ?_ _)))))
          | (refine ⟨_, A1n, L1n, c1n, A2n, L2n, c2n, A3n, L3n, c3n, (some ⟨g4, 0, none⟩), (n4 + 1), cap4, rfl, HB.new w4 _ _, (by have zz := hkp.1; (try simp at zz); omega), by omega, by omega, by omega, ?_, ?_, ?_, rfl, hown4.out.alloc _, ?_, ?_, ?_⟩
             · (refine Lg.alloc (w := w4) ?_ _; (repeat (first | (with_reducible exact k3) | (with_reducible exact j3) | (with_reducible exact l3) | (with_reducible exact HS.out) | (with_reducible refine Keep3.lg hkp ?_) | (with_reducible refine Lg.below ?_ k4) | (with_reducible refine Lg.below ?_ j4) | (with_reducible refine Lg.below ?_ l4) | (with_reducible refine Lg.drew ?_) | (with_reducible refine Lg.alloc ?_ _))))
             · (refine Lg.alloc (w := w4) ?_ _; (repeat (first | (with_reducible exact k3) | (with_reducible exact j3) | (with_reducible exact l3) | (with_reducible exact HS.out) | (with_reducible refine Keep3.lg hkp ?_) | (with_reducible refine Lg.below ?_ k4) | (with_reducible refine Lg.below ?_ j4) | (with_reducible refine Lg.below ?_ l4) | (with_reducible refine Lg.drew ?_) | (with_reducible refine Lg.alloc ?_ _))))
             · (refine Lg.alloc (w := w4) ?_ _; (repeat (first | (with_reducible exact k3) | (with_reducible exact j3) | (with_reducible exact l3) | (with_reducible exact HS.out) | (with_reducible refine Keep3.lg hkp ?_) | (with_reducible refine Lg.below ?_ k4) | (with_reducible refine Lg.below ?_ j4) | (with_reducible refine Lg.below ?_ l4) | (with_reducible refine Lg.drew ?_) | (with_reducible refine Lg.alloc ?_ _))))
             · (refine Lg.alloc (w := w4) ?_ _; (repeat (first | (with_reducible exact k3) | (with_reducible exact j3) | (with_reducible exact l3) | (with_reducible exact HS.out) | (with_reducible refine Keep3.lg hkp ?_) | (with_reducible refine Lg.below ?_ k4) | (with_reducible refine Lg.below ?_ j4) | (with_reducible refine Lg.below ?_ l4) | (with_reducible refine Lg.drew ?_) | (with_reducible refine Lg.alloc ?_ _))))
             · (refine PlusS.alloc (w := w4) ?_ _; (repeat (first | (with_reducible exact HPS.out) | (with_reducible refine PlusS.keep ?_ hkp) | (with_reducible refine PlusS.below ?_ k4) | (with_reducible refine PlusS.below ?_ j4) | (with_reducible refine PlusS.below ?_ l4) | (with_reducible refine PlusS.drew ?_) | (with_reducible refine PlusS.alloc ?_ _))))
             · (refine bw_alloc (w' := w4) hb ?_ _; (repeat (first | (with_reducible exact hbw2.out) | (with_reducible refine hb4 _ ?_) | (with_reducible refine bw_below hb ?_ k4) | (with_reducible refine bw_below hb ?_ j4) | (with_reducible refine bw_below hb ?_ l4) | (with_reducible refine Below.drew ?_) | (with_reducible refine bw_alloc hb ?_ _)))))
    case rest =>
      obtain ⟨g8, B1, M1, e1', B2, M2, e2', B3, M3, e3', B4, n4', e4', rfl, F8, G8, l1, l2, l3, s1, s2, s3, rfl, SO, S0, SP, hbx⟩ := hcut
      obtain ⟨f80, f81, f82, f83, f84, f85, f86, f87⟩ := HB.four F8.out
      have hcn : w.heap.size + 2 < g8 := G8
      obtain ⟨p1, p2, p3⟩ := SP.out
      have cb0 := p2.cell 0
      simp at cb0
      have lt1 := p1.lt
      have lt2 := p3.lt
      clear p1 p2 p3
      by_cases hc : c < 0
      · have d1 : decide (c < 0) = true := by simpa using hc
        by_cases hn : n < 0
        · have d2 : decide (n < 0) = true := by simpa using hn
          have HD : Hid ((decide (c < 0) == decide (n < 0)) = true) := by show _ = _; rw [d1, d2]; rfl
          clear hc hn
          go_wp2_with fail
          refine (plus_any B1 A M1 L e1' c' (a * d) (u * mag c * mag n) (by omega) (by omega) _ s1.out.1 S0.out.1).mono ?_
          rintro e w5 ⟨C, N, e5, rfl, t1, t2, t3, t4⟩
          have F9 := F8.out.below t4
          obtain ⟨f80, f81, f82, f83, f84, f85, f86, f87⟩ := HB.four F9
          have P9 := SP.out.2.2.below t4
          obtain ⟨g80, g81, g82, g83, g84, g85, g86, g87⟩ := HB.four P9
          have l5 := F9.lt
          have l6 := P9.lt
          have hne : (g8 == w.heap.size + 2) = false := by simp; omega
          have hne2 : (w.heap.size + 2 == g8) = false := by simp; omega
          have H3 := Lib.hid t3
          have hF9 := Lib.hid F9
          have hP9 := Lib.hid P9
          have hT4 := Lib.hid t4
          clear t3 F9 P9 t4
          go_wp2_with fail
          have x1 := far_set w5 g8 0 (.slice C N e5)
          have x2 := hP9.out.far_ (by omega) x1
          have x3 := far4 (w5.setCell ⟨g8, 0, none⟩ (.slice C N e5)) (w.heap.size + 2) (Value.slice C N e5) (Value.slice B2 M2 e2') (Value.slice B3 M3 e3') (Value.slice B4 (n4 + 1) e4')
          obtain ⟨y0, y1, y2, y3, _⟩ := HB.four (x2.set4 (Value.slice C N e5) (Value.slice B2 M2 e2') (Value.slice B3 M3 e3') (Value.slice B4 (n4 + 1) e4'))
          simp only [set4] at y0 y1 y2 y3
          refine bodyPost_ret (v := .agg #[Value.slice C N e5, Value.slice B2 M2 e2', Value.slice B3 M3 e3', Value.slice B4 (n4 + 1) e4']) (by simp [results, Try.results35, go_sem, y0, y1, y2, y3]) rfl ⟨_, rfl, ⟨C, N, e5, B2, M2, e2', B3, M3, e3', B4, n4 + 1, e4', rfl, by omega, by omega, by omega, (by unfold plusA; rw [if_pos HD.out]; exact ((H3.out.far_ hF9.out x1).far_ x2 x3)), (by unfold plusB; rw [if_pos HD.out]; exact (((s2.out.below hT4.out).far_ hF9.out x1).far_ x2 x3)), (((s3.out.below hT4.out).far_ hF9.out x1).far_ x2 x3), ?_, ?_⟩, ?_⟩
          · have := (own_farg (own_farg (own_below SO.out hT4.out) hF9.out x1) x2 x3).1
            simp at this ⊢
            omega
          · have := own_farg (own_farg (own_below SO.out hT4.out) hF9.out x1) x2 x3
            simp only [List.map_append, List.map_cons, List.map_nil]
            exact this
          · exact bw_far (bw_far (bw_below hb hbx hT4.out) (by omega) x1) (by omega) x3
        · have d2 : decide (n < 0) = false := by simpa using hn
          have HD : Hid (¬ (decide (c < 0) == decide (n < 0)) = true) := by show ¬ _ = _; rw [d1, d2]; decide
          clear hc hn
          go_wp2_with fail
          refine (plus_any B2 A M2 L e2' c' (b * d) (u * mag c * mag n) (by omega) (by omega) _ s2.out.1 S0.out.1).mono ?_
          rintro e w5 ⟨C, N, e5, rfl, t1, t2, t3, t4⟩
          have F9 := F8.out.below t4
          obtain ⟨f80, f81, f82, f83, f84, f85, f86, f87⟩ := HB.four F9
          have P9 := SP.out.2.2.below t4
          obtain ⟨g80, g81, g82, g83, g84, g85, g86, g87⟩ := HB.four P9
          have l5 := F9.lt
          have l6 := P9.lt
          have hne : (g8 == w.heap.size + 2) = false := by simp; omega
          have hne2 : (w.heap.size + 2 == g8) = false := by simp; omega
          have H3 := Lib.hid t3
          have hF9 := Lib.hid F9
          have hP9 := Lib.hid P9
          have hT4 := Lib.hid t4
          clear t3 F9 P9 t4
          go_wp2_with fail
          have x1 := far_set w5 g8 1 (.slice C N e5)
          have x2 := hP9.out.far_ (by omega) x1
          have x3 := far4 (w5.setCell ⟨g8, 1, none⟩ (.slice C N e5)) (w.heap.size + 2) (Value.slice B1 M1 e1') (Value.slice C N e5) (Value.slice B3 M3 e3') (Value.slice B4 (n4 + 1) e4')
          obtain ⟨y0, y1, y2, y3, _⟩ := HB.four (x2.set4 (Value.slice B1 M1 e1') (Value.slice C N e5) (Value.slice B3 M3 e3') (Value.slice B4 (n4 + 1) e4'))
          simp only [set4] at y0 y1 y2 y3
          refine bodyPost_ret (v := .agg #[Value.slice B1 M1 e1', Value.slice C N e5, Value.slice B3 M3 e3', Value.slice B4 (n4 + 1) e4']) (by simp [results, Try.results35, go_sem, y0, y1, y2, y3]) rfl ⟨_, rfl, ⟨B1, M1, e1', C, N, e5, B3, M3, e3', B4, n4 + 1, e4', rfl, by omega, by omega, by omega, (by unfold plusA; rw [if_neg HD.out]; exact (((s1.out.below hT4.out).far_ hF9.out x1).far_ x2 x3)), (by unfold plusB; rw [if_neg HD.out]; exact ((H3.out.far_ hF9.out x1).far_ x2 x3)), (((s3.out.below hT4.out).far_ hF9.out x1).far_ x2 x3), ?_, ?_⟩, ?_⟩
          · have := (own_farg (own_farg (own_below SO.out hT4.out) hF9.out x1) x2 x3).1
            simp at this ⊢
            omega
          · have := own_farg (own_farg (own_below SO.out hT4.out) hF9.out x1) x2 x3
            simp only [List.map_append, List.map_cons, List.map_nil]
            exact this
          · exact bw_far (bw_far (bw_below hb hbx hT4.out) (by omega) x1) (by omega) x3
      · have d1 : decide (c < 0) = false := by simpa using hc
        by_cases hn : n < 0
        · have d2 : decide (n < 0) = true := by simpa using hn
          have HD : Hid (¬ (decide (c < 0) == decide (n < 0)) = true) := by show ¬ _ = _; rw [d1, d2]; decide
          clear hc hn
          go_wp2_with fail
          refine (plus_any B2 A M2 L e2' c' (b * d) (u * mag c * mag n) (by omega) (by omega) _ s2.out.1 S0.out.1).mono ?_
          rintro e w5 ⟨C, N, e5, rfl, t1, t2, t3, t4⟩
          have F9 := F8.out.below t4
          obtain ⟨f80, f81, f82, f83, f84, f85, f86, f87⟩ := HB.four F9
          have P9 := SP.out.2.2.below t4
          obtain ⟨g80, g81, g82, g83, g84, g85, g86, g87⟩ := HB.four P9
          have l5 := F9.lt
          have l6 := P9.lt
          have hne : (g8 == w.heap.size + 2) = false := by simp; omega
          have hne2 : (w.heap.size + 2 == g8) = false := by simp; omega
          have H3 := Lib.hid t3
          have hF9 := Lib.hid F9
          have hP9 := Lib.hid P9
          have hT4 := Lib.hid t4
          clear t3 F9 P9 t4
          go_wp2_with fail
          have x1 := far_set w5 g8 1 (.slice C N e5)
          have x2 := hP9.out.far_ (by omega) x1
          have x3 := far4 (w5.setCell ⟨g8, 1, none⟩ (.slice C N e5)) (w.heap.size + 2) (Value.slice B1 M1 e1') (Value.slice C N e5) (Value.slice B3 M3 e3') (Value.slice B4 (n4 + 1) e4')
          obtain ⟨y0, y1, y2, y3, _⟩ := HB.four (x2.set4 (Value.slice B1 M1 e1') (Value.slice C N e5) (Value.slice B3 M3 e3') (Value.slice B4 (n4 + 1) e4'))
          simp only [set4] at y0 y1 y2 y3
          refine bodyPost_ret (v := .agg #[Value.slice B1 M1 e1', Value.slice C N e5, Value.slice B3 M3 e3', Value.slice B4 (n4 + 1) e4']) (by simp [results, Try.results35, go_sem, y0, y1, y2, y3]) rfl ⟨_, rfl, ⟨B1, M1, e1', C, N, e5, B3, M3, e3', B4, n4 + 1, e4', rfl, by omega, by omega, by omega, (by unfold plusA; rw [if_neg HD.out]; exact (((s1.out.below hT4.out).far_ hF9.out x1).far_ x2 x3)), (by unfold plusB; rw [if_neg HD.out]; exact ((H3.out.far_ hF9.out x1).far_ x2 x3)), (((s3.out.below hT4.out).far_ hF9.out x1).far_ x2 x3), ?_, ?_⟩, ?_⟩
          · have := (own_farg (own_farg (own_below SO.out hT4.out) hF9.out x1) x2 x3).1
            simp at this ⊢
            omega
          · have := own_farg (own_farg (own_below SO.out hT4.out) hF9.out x1) x2 x3
            simp only [List.map_append, List.map_cons, List.map_nil]
            exact this
          · exact bw_far (bw_far (bw_below hb hbx hT4.out) (by omega) x1) (by omega) x3
        · have d2 : decide (n < 0) = false := by simpa using hn
          have HD : Hid ((decide (c < 0) == decide (n < 0)) = true) := by show _ = _; rw [d1, d2]; rfl
          clear hc hn
          go_wp2_with fail
          refine (plus_any B1 A M1 L e1' c' (a * d) (u * mag c * mag n) (by omega) (by omega) _ s1.out.1 S0.out.1).mono ?_
          rintro e w5 ⟨C, N, e5, rfl, t1, t2, t3, t4⟩
          have F9 := F8.out.below t4
          obtain ⟨f80, f81, f82, f83, f84, f85, f86, f87⟩ := HB.four F9
          have P9 := SP.out.2.2.below t4
          obtain ⟨g80, g81, g82, g83, g84, g85, g86, g87⟩ := HB.four P9
          have l5 := F9.lt
          have l6 := P9.lt
          have hne : (g8 == w.heap.size + 2) = false := by simp; omega
          have hne2 : (w.heap.size + 2 == g8) = false := by simp; omega
          have H3 := Lib.hid t3
          have hF9 := Lib.hid F9
          have hP9 := Lib.hid P9
          have hT4 := Lib.hid t4
          clear t3 F9 P9 t4
          go_wp2_with fail
          have x1 := far_set w5 g8 0 (.slice C N e5)
          have x2 := hP9.out.far_ (by omega) x1
          have x3 := far4 (w5.setCell ⟨g8, 0, none⟩ (.slice C N e5)) (w.heap.size + 2) (Value.slice C N e5) (Value.slice B2 M2 e2') (Value.slice B3 M3 e3') (Value.slice B4 (n4 + 1) e4')
          obtain ⟨y0, y1, y2, y3, _⟩ := HB.four (x2.set4 (Value.slice C N e5) (Value.slice B2 M2 e2') (Value.slice B3 M3 e3') (Value.slice B4 (n4 + 1) e4'))
          simp only [set4] at y0 y1 y2 y3
          refine bodyPost_ret (v := .agg #[Value.slice C N e5, Value.slice B2 M2 e2', Value.slice B3 M3 e3', Value.slice B4 (n4 + 1) e4']) (by simp [results, Try.results35, go_sem, y0, y1, y2, y3]) rfl ⟨_, rfl, ⟨C, N, e5, B2, M2, e2', B3, M3, e3', B4, n4 + 1, e4', rfl, by omega, by omega, by omega, (by unfold plusA; rw [if_pos HD.out]; exact ((H3.out.far_ hF9.out x1).far_ x2 x3)), (by unfold plusB; rw [if_pos HD.out]; exact (((s2.out.below hT4.out).far_ hF9.out x1).far_ x2 x3)), (((s3.out.below hT4.out).far_ hF9.out x1).far_ x2 x3), ?_, ?_⟩, ?_⟩
          · have := (own_farg (own_farg (own_below SO.out hT4.out) hF9.out x1) x2 x3).1
            simp at this ⊢
            omega
          · have := own_farg (own_farg (own_below SO.out hT4.out) hF9.out x1) x2 x3
            simp only [List.map_append, List.map_cons, List.map_nil]
            exact this
          · exact bw_far (bw_far (bw_below hb hbx hT4.out) (by omega) x1) (by omega) x3
end Go.Proofs.Ytkjollifghmkbaa
