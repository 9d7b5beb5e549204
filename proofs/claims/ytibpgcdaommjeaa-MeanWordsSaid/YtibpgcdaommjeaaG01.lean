/-
  Worlds: what values, rows of tables and meanings that are handed in are in memory. Over any program.
  Asks: sorts, letters of names, as the program tells them and as the reference does.
  Asks: every number of a list is as a function value tells.
-/
import Derived.Test.YtibpgcdaommjeaaG00
namespace Go.Proofs.Ytibpgcdaommjeaa
open Go.ChangeShapes Go.WideShapes Go.ChangeAt Go.RowKit Go.Joins Go.Deep

/-- A value: a number, or an array: its cells, and what it has elsewhere. -/
structure Vl where
  num : Int
  den : Int
  cells : List (Int × Int)
  rest : Int
instance : Inhabited Vl := ⟨⟨0, 0, [], 0⟩⟩
/-- A row of a table. -/
structure En where
  args : List Int
  too : Vl
instance : Inhabited En := ⟨⟨[], default⟩⟩
/-- A meaning. -/
structure Mg where
  rows : List En
  rest : Vl
instance : Inhabited Mg := ⟨⟨[], default⟩⟩
/-- Cells of an array at a slice's address. -/
def CsAt (w : World) (A : Option Addr) (cs : List (Int × Int)) : Prop := 0 < cs.length → ∃ b o, A = some ⟨b, o, none⟩ ∧ b < w.heap.size ∧ ∀ (i : Nat) (q : Int × Int), cs[i]? = some q → w.cell? ⟨b, o + i * 2, none⟩ = some (.int .i64 q.1) ∧ w.cell? ⟨b, o + i * 2 + 1, none⟩ = some (.int .i64 q.2)
/-- The value lies in a block from a place on. -/
def Vl.In (w : World) (q : Vl) (b o k : Nat) : Prop := w.cell? ⟨b, o + k, none⟩ = some (.int .i64 q.num) ∧ w.cell? ⟨b, o + (k + 1), none⟩ = some (.int .i64 q.den) ∧ w.cell? ⟨b, o + (k + 3), none⟩ = some (.int .i64 q.rest) ∧
  ∃ A c, w.cell? ⟨b, o + (k + 2), none⟩ = some (.slice A q.cells.length c) ∧ q.cells.length ≤ c ∧ c ≤ maxLen ∧ CsAt w A q.cells
/-- The row lies in a block from a place on. -/
def En.In (w : World) (q : En) (b o : Nat) : Prop := (∃ A c, w.cell? ⟨b, o, none⟩ = some (.slice A q.args.length c) ∧ q.args.length ≤ c ∧ c ≤ maxLen ∧ Is w A q.args) ∧ q.too.In w b o 1
/-- Rows at a slice's address. -/
def EsAt (w : World) (A : Option Addr) (qs : List En) : Prop := 0 < qs.length → ∃ b o, A = some ⟨b, o, none⟩ ∧ b < w.heap.size ∧ ∀ (i : Nat) (q : En), qs[i]? = some q → q.In w b (o + i * 5)
/-- The meaning lies in a block from a place on. -/
def Mg.In (w : World) (q : Mg) (b o : Nat) : Prop := (∃ A c, w.cell? ⟨b, o, none⟩ = some (.slice A q.rows.length c) ∧ q.rows.length ≤ c ∧ c ≤ maxLen ∧ EsAt w A q.rows) ∧ q.rest.In w b o 1
/-- Meanings at a slice's address. -/
def MsAt (w : World) (A : Option Addr) (qs : List Mg) : Prop := 0 < qs.length → ∃ b o, A = some ⟨b, o, none⟩ ∧ b < w.heap.size ∧ ∀ (i : Nat) (q : Mg), qs[i]? = some q → q.In w b (o + i * 5)
/-- Values at a slice's address. -/
def VsAt (w : World) (A : Option Addr) (qs : List Vl) : Prop := 0 < qs.length → ∃ b o, A = some ⟨b, o, none⟩ ∧ b < w.heap.size ∧ ∀ (i : Nat) (q : Vl), qs[i]? = some q → q.In w b (o + i * 4) 0
section
variable {w w' : World} {A : Option Addr} {b o k : Nat}
theorem CsAt.below {cs : List (Int × Int)} (h : CsAt w A cs) (hb : Below w.heap.size w w') : CsAt w' A cs := fun z => by
  obtain ⟨b, o, e, l, q⟩ := h z
  exact ⟨b, o, e, Nat.lt_of_lt_of_le l hb.size, fun i x hx => ⟨(hb.cell (p := ⟨b, o + i * 2, none⟩) l).trans (q i x hx).1, (hb.cell (p := ⟨b, o + i * 2 + 1, none⟩) l).trans (q i x hx).2⟩⟩
theorem Vl.In.below {q : Vl} (h : q.In w b o k) (hb : Below w.heap.size w w') (hl : b < w.heap.size) : q.In w' b o k := by
  obtain ⟨h0, h1, h3, A, c, h2, h4, h5, h6⟩ := h
  exact ⟨(hb.cell (p := ⟨b, o + k, none⟩) hl).trans h0, (hb.cell (p := ⟨b, o + (k + 1), none⟩) hl).trans h1, (hb.cell (p := ⟨b, o + (k + 3), none⟩) hl).trans h3, A, c, (hb.cell (p := ⟨b, o + (k + 2), none⟩) hl).trans h2, h4, h5, h6.below hb⟩
theorem En.In.below {q : En} (h : q.In w b o) (hb : Below w.heap.size w w') (hl : b < w.heap.size) : q.In w' b o := by
  obtain ⟨⟨A, c, h1, h2, h3, h4⟩, h5⟩ := h
  exact ⟨⟨A, c, (hb.cell (p := ⟨b, o, none⟩) hl).trans h1, h2, h3, h4.below hb⟩, h5.below hb hl⟩
theorem EsAt.below {qs : List En} (h : EsAt w A qs) (hb : Below w.heap.size w w') : EsAt w' A qs := fun z => by
  obtain ⟨b, o, e, l, q⟩ := h z
  exact ⟨b, o, e, Nat.lt_of_lt_of_le l hb.size, fun i x hx => (q i x hx).below hb l⟩
theorem Mg.In.below {q : Mg} (h : q.In w b o) (hb : Below w.heap.size w w') (hl : b < w.heap.size) : q.In w' b o := by
  obtain ⟨⟨A, c, h1, h2, h3, h4⟩, h5⟩ := h
  exact ⟨⟨A, c, (hb.cell (p := ⟨b, o, none⟩) hl).trans h1, h2, h3, h4.below hb⟩, h5.below hb hl⟩
theorem MsAt.below {qs : List Mg} (h : MsAt w A qs) (hb : Below w.heap.size w w') : MsAt w' A qs := fun z => by
  obtain ⟨b, o, e, l, q⟩ := h z
  exact ⟨b, o, e, Nat.lt_of_lt_of_le l hb.size, fun i x hx => (q i x hx).below hb l⟩
theorem VsAt.below {qs : List Vl} (h : VsAt w A qs) (hb : Below w.heap.size w w') : VsAt w' A qs := fun z => by
  obtain ⟨b, o, e, l, q⟩ := h z
  exact ⟨b, o, e, Nat.lt_of_lt_of_le l hb.size, fun i x hx => (q i x hx).below hb l⟩
theorem cs_nil (w : World) (A : Option Addr) : CsAt w A [] := fun z => absurd z (by simp)
theorem es_nil (w : World) (A : Option Addr) : EsAt w A [] := fun z => absurd z (by simp)
theorem ms_nil (w : World) (A : Option Addr) : MsAt w A [] := fun z => absurd z (by simp)
theorem vs_nil (w : World) (A : Option Addr) : VsAt w A [] := fun z => absurd z (by simp)
/-- An element of each list. -/
def cn (cs : List (Int × Int)) (i : Nat) : Int × Int := cs.getD i (0, 0)
def en (es : List En) (i : Nat) : En := es.getD i default
def mn (ms : List Mg) (i : Nat) : Mg := ms.getD i default
def vn (vs : List Vl) (i : Nat) : Vl := vs.getD i default
theorem getD_of {α : Type} {l : List α} {d : α} {i : Nat} (h : i < l.length) : l[i]? = some (l.getD i d) := by simp [List.getD, h]
theorem cs_at {cs : List (Int × Int)} {i : Nat} (h : CsAt w A cs) (hi : i < cs.length) : ∃ b o, A = some ⟨b, o, none⟩ ∧ b < w.heap.size ∧ w.cell? ⟨b, o + i * 2, none⟩ = some (.int .i64 (cn cs i).1) ∧ w.cell? ⟨b, o + i * 2 + 1, none⟩ = some (.int .i64 (cn cs i).2) := by
  obtain ⟨b, o, e, l, q⟩ := h (by omega)
  exact ⟨b, o, e, l, q i _ (getD_of (l := cs) (d := (0, 0)) hi)⟩
theorem es_at {qs : List En} {i : Nat} (h : EsAt w A qs) (hi : i < qs.length) : ∃ b o, A = some ⟨b, o, none⟩ ∧ b < w.heap.size ∧ (en qs i).In w b (o + i * 5) := by
  obtain ⟨b, o, e, l, q⟩ := h (by omega)
  exact ⟨b, o, e, l, q i _ (getD_of (l := qs) (d := default) hi)⟩
theorem ms_at {qs : List Mg} {i : Nat} (h : MsAt w A qs) (hi : i < qs.length) : ∃ b o, A = some ⟨b, o, none⟩ ∧ b < w.heap.size ∧ (mn qs i).In w b (o + i * 5) := by
  obtain ⟨b, o, e, l, q⟩ := h (by omega)
  exact ⟨b, o, e, l, q i _ (getD_of (l := qs) (d := default) hi)⟩
theorem vs_at {qs : List Vl} {i : Nat} (h : VsAt w A qs) (hi : i < qs.length) : ∃ b o, A = some ⟨b, o, none⟩ ∧ b < w.heap.size ∧ (vn qs i).In w b (o + i * 4) 0 := by
  obtain ⟨b, o, e, l, q⟩ := h (by omega)
  exact ⟨b, o, e, l, q i _ (getD_of (l := qs) (d := default) hi)⟩
end
/-- What a type that is a value's must be. -/
structure VlT (P : Program) (t ei : TypeId) : Prop where
  ex : ∃ (tf tc te : TypeId) (f0 f1 f2 g0 g1 k0 k1 : Field), P.underlying t = some (.struct #[f0, f1, f2]) ∧ P.cellsOf t = 4 ∧ f0.offset = 0 ∧ f1.offset = 2 ∧ f2.offset = 3 ∧ P.cellsOf f0.type = 2 ∧ P.cellsOf f1.type = 1 ∧ P.cellsOf f2.type = 1 ∧ f0.type = tf ∧ f1.type = tc ∧ f2.type = ei ∧
    P.underlying tf = some (.struct #[g0, g1]) ∧ g0.offset = 0 ∧ g1.offset = 1 ∧ g0.type = ei ∧ g1.type = ei ∧ P.underlying tc = some (.slice te) ∧ P.underlying te = some (.struct #[k0, k1]) ∧ P.cellsOf te = 2 ∧ k0.offset = 0 ∧ k1.offset = 1 ∧ k0.type = ei ∧ k1.type = ei ∧ P.underlying ei = some (.int .i64) ∧ P.cellsOf ei = 1
/-- A whole number of 64 bits. -/
def wf64 (z : Int) : Prop := (Lit.int .i64 z).wf = true
def Vl.wf (q : Vl) : Prop := wf64 q.num ∧ wf64 q.den ∧ wf64 q.rest ∧ ∀ c ∈ q.cells, wf64 c.1 ∧ wf64 c.2
def En.wf (q : En) : Prop := (∀ z ∈ q.args, wf64 z) ∧ q.too.wf
def Mg.wf (q : Mg) : Prop := (∀ e ∈ q.rows, e.wf) ∧ q.rest.wf
section
variable {H : Type} {enc : TypeId × Value → H} {P : Program} {W : World}
theorem mem_get {α : Type} {l : List α} {x : α} (h : x ∈ l) : ∃ i : Nat, l[i]? = some x := by
  obtain ⟨i, hi, rfl⟩ := List.getElem_of_mem h
  exact ⟨i, List.getElem?_eq_getElem hi⟩
/-- Cells that are handed in. -/
theorem open_cs {t e ei : TypeId} {k0 k1 : Field} (ht : P.underlying t = some (.slice e)) (he : P.underlying e = some (.struct #[k0, k1])) (ce : P.cellsOf e = 2) (o0 : k0.offset = 0) (o1 : k1.offset = 1) (h0 : k0.type = ei) (h1 : k1.type = ei) (hei : P.underlying ei = some (.int .i64)) (cei : P.cellsOf ei = 1)
    {fuel : Nat} {cs : List Value} {x : DataW H × List MemPlace} (h : DataW.trod enc P W 0 (fun _ => true) true fuel t cs = some x) :
    ∃ (A : Option Addr) (c : Nat) (qs : List (Int × Int)), cs = [.slice A qs.length c] ∧ qs.length ≤ c ∧ c ≤ maxLen ∧ CsAt W A qs ∧ ∀ q ∈ qs, wf64 q.1 ∧ wf64 q.2 := by
  obtain ⟨A, c, qs, ds, e1, e2, e3, e4, e5, e6⟩ := open_els (α := Int × Int) (k := 2) ht ce (by omega) (fun q vs d => vs = [.int .i64 q.1, .int .i64 q.2] ∧ wf64 q.1 ∧ wf64 q.2) (by
    intro n cs y hcl hy
    obtain ⟨xs, n', rfl, hx2, _, hxl, hf⟩ := DataW.trod_struct he hy
    match cs, hcl with
    | [v0, v1], _ =>
      have q0 := hf 0 k0 rfl
      have q1 := hf 1 k1 rfl
      simp only [List.size_toArray, List.length_cons, List.length_nil] at hxl
      rw [o0, h0, cei, List.getElem?_eq_getElem (by omega)] at q0
      rw [o1, h1, cei, List.getElem?_eq_getElem (by omega)] at q1
      obtain ⟨m0, e0, _, w0⟩ := DataW.trod_int hei q0
      obtain ⟨m1, e1, _, w1⟩ := DataW.trod_int hei q1
      simp at e0 e1
      subst e0 e1
      exact ⟨(m0, m1), rfl, w0, w1⟩) h
  refine ⟨A, c, qs, e1, e2, e3, fun z => ?_, fun q hq => ?_⟩
  · obtain ⟨b, o, g1, g2, g3⟩ := e6 z
    refine ⟨b, o, g1, g2, fun i q hq => ?_⟩
    obtain ⟨vs, d, _, ⟨rfl, _⟩, _, k5⟩ := g3 i q hq
    exact ⟨k5 0 _ rfl, k5 1 _ rfl⟩
  · obtain ⟨i, hi⟩ := mem_get hq
    have hl : 0 < qs.length := by
      rcases Nat.lt_or_ge 0 qs.length with z | z
      · exact z
      · rw [List.getElem?_eq_none (by omega)] at hi; cases hi
    obtain ⟨b, o, g1, g2, g3⟩ := e6 hl
    obtain ⟨vs, d, _, ⟨_, k⟩, _⟩ := g3 i q hi
    exact k
/-- A value's four cells. -/
def Vl.Cells (W : World) (q : Vl) (vs : List Value) : Prop := ∃ A c, vs = [.int .i64 q.num, .int .i64 q.den, .slice A q.cells.length c, .int .i64 q.rest] ∧ q.cells.length ≤ c ∧ c ≤ maxLen ∧ CsAt W A q.cells
/-- A value that is handed in. -/
theorem open_vl {t ei : TypeId} (T : VlT P t ei) {fuel : Nat} {cs : List Value} (hcl : cs.length = 4) {x : DataW H × List MemPlace} (h : DataW.trod enc P W 0 (fun _ => true) true fuel t cs = some x) :
    ∃ q : Vl, q.Cells W cs ∧ q.wf := by
  obtain ⟨tf, tc, te, f0, f1, f2, g0, g1, k0, k1, ht, ct, o0, o1, o2, c0, c1, c2, t0, t1, t2, hf2, p0, p1, r0, r1, hc, he, ce, u0, u1, s0, s1, hei, cei⟩ := T.ex
  obtain ⟨xs, n', rfl, hx2, _, hxl, hf⟩ := DataW.trod_struct ht h
  match cs, hcl with
  | [v0, v1, v2, v3], _ =>
    have q0 := hf 0 f0 rfl
    have q1 := hf 1 f1 rfl
    have q2 := hf 2 f2 rfl
    simp only [List.size_toArray, List.length_cons, List.length_nil] at hxl
    rw [o0, c0, List.getElem?_eq_getElem (by omega), t0] at q0
    rw [o1, c1, List.getElem?_eq_getElem (by omega), t1] at q1
    rw [o2, c2, List.getElem?_eq_getElem (by omega), t2] at q2
    obtain ⟨ys, n2, rfl, hy2, _, hyl, hg⟩ := DataW.trod_struct hf2 q0
    have a0 := hg 0 g0 rfl
    have a1 := hg 1 g1 rfl
    simp only [List.size_toArray, List.length_cons, List.length_nil] at hyl
    rw [p0, r0, cei, List.getElem?_eq_getElem (by omega)] at a0
    rw [p1, r1, cei, List.getElem?_eq_getElem (by omega)] at a1
    obtain ⟨m0, e0, _, w0⟩ := DataW.trod_int hei a0
    obtain ⟨m1, e1, _, w1⟩ := DataW.trod_int hei a1
    obtain ⟨A, c, qs, e2, j1, j2, j3, j4⟩ := open_cs hc he ce u0 u1 s0 s1 hei cei q1
    obtain ⟨m3, e3, _, w3⟩ := DataW.trod_int hei q2
    simp at e0 e1 e2 e3
    subst e0 e1 e2 e3
    exact ⟨⟨m0, m1, qs, m3⟩, ⟨A, c, rfl, j1, j2, j3⟩, w0, w1, w3, j4⟩
theorem Vl.Cells.in {q : Vl} {vs : List Value} (h : q.Cells W vs) {b o k : Nat} (hc : ∀ (j : Nat) (v : Value), vs[j]? = some v → W.cell? ⟨b, o + (k + j), none⟩ = some v) : q.In W b o k := by
  obtain ⟨A, c, rfl, h1, h2, h3⟩ := h
  exact ⟨hc 0 _ rfl, hc 1 _ rfl, hc 3 _ rfl, A, c, hc 2 _ rfl, h1, h2, h3⟩
/-- Rows of a table that are handed in. -/
theorem open_es {t e tv ti ei : TypeId} {f0 f1 : Field} (T : VlT P tv ei) (ht : P.underlying t = some (.slice e)) (he : P.underlying e = some (.struct #[f0, f1])) (ce : P.cellsOf e = 5) (o0 : f0.offset = 0) (o1 : f1.offset = 1) (c0 : P.cellsOf f0.type = 1) (c1 : P.cellsOf f1.type = 4) (h0 : f0.type = ti) (h1 : f1.type = tv)
    (hti : P.underlying ti = some (.slice ei)) (hei : P.underlying ei = some (.int .i64)) (cei : P.cellsOf ei = 1)
    {fuel : Nat} {cs : List Value} {x : DataW H × List MemPlace} (h : DataW.trod enc P W 0 (fun _ => true) true fuel t cs = some x) :
    ∃ (A : Option Addr) (c : Nat) (qs : List En), cs = [.slice A qs.length c] ∧ qs.length ≤ c ∧ c ≤ maxLen ∧ EsAt W A qs ∧ ∀ q ∈ qs, q.wf := by
  obtain ⟨A, c, qs, ds, e1, e2, e3, e4, e5, e6⟩ := open_els (α := En) (k := 5) ht ce (by omega) (fun q vs d => ∃ A c us, vs = .slice A q.args.length c :: us ∧ q.args.length ≤ c ∧ c ≤ maxLen ∧ Is W A q.args ∧ q.too.Cells W us ∧ q.wf) (by
    intro n cs y hcl hy
    obtain ⟨xs, n', rfl, hx2, _, hxl, hf⟩ := DataW.trod_struct he hy
    match cs, hcl with
    | [v0, v1, v2, v3, v4], _ =>
      have q0 := hf 0 f0 rfl
      have q1 := hf 1 f1 rfl
      simp only [List.size_toArray, List.length_cons, List.length_nil] at hxl
      rw [o0, c0, List.getElem?_eq_getElem (by omega), h0] at q0
      rw [o1, c1, List.getElem?_eq_getElem (by omega), h1] at q1
      obtain ⟨A, c, zs, e1, j1, j2, j3, j4, j5⟩ := open_isP hti hei cei (v := v0) q0
      obtain ⟨q, hq, hw⟩ := open_vl T (by simp) q1
      subst e1
      exact ⟨⟨zs, q⟩, A, c, _, rfl, j1, j2, j3, hq, j4, hw⟩) h
  refine ⟨A, c, qs, e1, e2, e3, fun z => ?_, fun q hq => ?_⟩
  · obtain ⟨b, o, g1, g2, g3⟩ := e6 z
    refine ⟨b, o, g1, g2, fun i q hq => ?_⟩
    obtain ⟨vs, d, _, ⟨A', c', us, rfl, y1, y2, y3, y4, _⟩, _, k5⟩ := g3 i q hq
    exact ⟨⟨A', c', k5 0 _ rfl, y1, y2, y3⟩, y4.in (fun j v hv => by
      have := k5 (j + 1) v (by simpa using hv)
      rw [Nat.add_comm 1 j]
      exact this)⟩
  · obtain ⟨i, hi⟩ := mem_get hq
    have hl : 0 < qs.length := by
      rcases Nat.lt_or_ge 0 qs.length with z | z
      · exact z
      · rw [List.getElem?_eq_none (by omega)] at hi; cases hi
    obtain ⟨b, o, g1, g2, g3⟩ := e6 hl
    obtain ⟨vs, d, _, ⟨_, _, _, _, _, _, _, _, k⟩, _⟩ := g3 i q hi
    exact k
/-- Meanings that are handed in. -/
theorem open_ms {t e tr er tv ti ei : TypeId} {f0 f1 k0 k1 : Field} (T : VlT P tv ei) (ht : P.underlying t = some (.slice e)) (he : P.underlying e = some (.struct #[k0, k1])) (ce : P.cellsOf e = 5) (p0 : k0.offset = 0) (p1 : k1.offset = 1) (d0 : P.cellsOf k0.type = 1) (d1 : P.cellsOf k1.type = 4) (y0 : k0.type = tr) (y1 : k1.type = tv)
    (htr : P.underlying tr = some (.slice er)) (her : P.underlying er = some (.struct #[f0, f1])) (cer : P.cellsOf er = 5) (o0 : f0.offset = 0) (o1 : f1.offset = 1) (c0 : P.cellsOf f0.type = 1) (c1 : P.cellsOf f1.type = 4) (h0 : f0.type = ti) (h1 : f1.type = tv)
    (hti : P.underlying ti = some (.slice ei)) (hei : P.underlying ei = some (.int .i64)) (cei : P.cellsOf ei = 1)
    {fuel : Nat} {cs : List Value} {x : DataW H × List MemPlace} (h : DataW.trod enc P W 0 (fun _ => true) true fuel t cs = some x) :
    ∃ (A : Option Addr) (c : Nat) (qs : List Mg), cs = [.slice A qs.length c] ∧ qs.length ≤ c ∧ c ≤ maxLen ∧ MsAt W A qs ∧ ∀ q ∈ qs, q.wf := by
  obtain ⟨A, c, qs, ds, e1, e2, e3, e4, e5, e6⟩ := open_els (α := Mg) (k := 5) ht ce (by omega) (fun q vs d => ∃ A c us, vs = .slice A q.rows.length c :: us ∧ q.rows.length ≤ c ∧ c ≤ maxLen ∧ EsAt W A q.rows ∧ q.rest.Cells W us ∧ q.wf) (by
    intro n cs y hcl hy
    obtain ⟨xs, n', rfl, hx2, _, hxl, hf⟩ := DataW.trod_struct he hy
    match cs, hcl with
    | [v0, v1, v2, v3, v4], _ =>
      have q0 := hf 0 k0 rfl
      have q1 := hf 1 k1 rfl
      simp only [List.size_toArray, List.length_cons, List.length_nil] at hxl
      rw [p0, d0, List.getElem?_eq_getElem (by omega), y0] at q0
      rw [p1, d1, List.getElem?_eq_getElem (by omega), y1] at q1
      obtain ⟨A, c, zs, e1, j1, j2, j3, j4⟩ := open_es T htr her cer o0 o1 c0 c1 h0 h1 hti hei cei q0
      obtain ⟨q, hq, hw⟩ := open_vl T (by simp) q1
      simp at e1
      subst e1
      exact ⟨⟨zs, q⟩, A, c, _, rfl, j1, j2, j3, hq, j4, hw⟩) h
  refine ⟨A, c, qs, e1, e2, e3, fun z => ?_, fun q hq => ?_⟩
  · obtain ⟨b, o, g1, g2, g3⟩ := e6 z
    refine ⟨b, o, g1, g2, fun i q hq => ?_⟩
    obtain ⟨vs, d, _, ⟨A', c', us, rfl, y1, y2, y3, y4, _⟩, _, k5⟩ := g3 i q hq
    exact ⟨⟨A', c', k5 0 _ rfl, y1, y2, y3⟩, y4.in (fun j v hv => by
      have := k5 (j + 1) v (by simpa using hv)
      rw [Nat.add_comm 1 j]
      exact this)⟩
  · obtain ⟨i, hi⟩ := mem_get hq
    have hl : 0 < qs.length := by
      rcases Nat.lt_or_ge 0 qs.length with z | z
      · exact z
      · rw [List.getElem?_eq_none (by omega)] at hi; cases hi
    obtain ⟨b, o, g1, g2, g3⟩ := e6 hl
    obtain ⟨vs, d, _, ⟨_, _, _, _, _, _, _, _, k⟩, _⟩ := g3 i q hi
    exact k
end
end Go.Proofs.Ytibpgcdaommjeaa
namespace Go.Proofs.Ytibpgcdaommjeaa
open Go.RowKit

theorem Try.cells3 : Try.prog.cellsOf 3 = 1 := by kernel_rfl
/-- Sorts by kind. -/
def sTh (s : Int) : Bool := s == 4
def sBo (s : Int) : Bool := s == 1
def sIn (s : Int) : Bool := s == 2
def sNu (s : Int) : Bool := s == 2 || s == 3
def sWd (s : Int) : Bool := decide (10 < s) && decide (s ≤ 18)
def sSo (s : Int) : Bool := (decide (1 ≤ s) && decide (s ≤ 5)) || sWd s
/-- The bits of a word's sort. -/
def wBits (s : Int) : Int := if 10 < s ∧ s ≤ 18 then s - 10 else 0
theorem isthing_any (s : Int) (w : World) : Calls Try.prog 51 #[.int .i64 s] w fun e w' => e = .returned (.bool (sTh s)) ∧ w = w' := by
  go_enter Try.func51, Try.ntmps51
  go_wp2
  go_ret
  exact ⟨rfl, rfl⟩
theorem isbool_any (s : Int) (w : World) : Calls Try.prog 79 #[.int .i64 s] w fun e w' => e = .returned (.bool (sBo s)) ∧ w = w' := by
  go_enter Try.func79, Try.ntmps79
  go_wp2
  go_ret
  exact ⟨rfl, rfl⟩
theorem isint_any (s : Int) (w : World) : Calls Try.prog 95 #[.int .i64 s] w fun e w' => e = .returned (.bool (sIn s)) ∧ w = w' := by
  go_enter Try.func95, Try.ntmps95
  go_wp2
  go_ret
  exact ⟨rfl, rfl⟩
theorem isnumeric_any (s : Int) (w : World) : Calls Try.prog 80 #[.int .i64 s] w fun e w' => e = .returned (.bool (sNu s)) ∧ w = w' := by
  unfold sNu
  cases d : s == 2 with
  | true =>
    rw [Bool.true_or]
    go_enter Try.func80, Try.ntmps80
    go_wp2
    go_ret
    exact ⟨rfl, rfl⟩
  | false =>
    rw [Bool.false_or]
    go_enter Try.func80, Try.ntmps80
    go_wp2
    go_ret
    exact ⟨rfl, rfl⟩
theorem isword_any (s : Int) (w : World) : Calls Try.prog 75 #[.int .i64 s] w fun e w' => e = .returned (.bool (sWd s)) ∧ w = w' := by
  unfold sWd
  cases d : decide (10 < s) with
  | true =>
    rw [Bool.true_and]
    go_enter Try.func75, Try.ntmps75
    go_wp2
    go_ret
    exact ⟨rfl, rfl⟩
  | false =>
    rw [Bool.false_and]
    go_enter Try.func75, Try.ntmps75
    go_wp2
    go_ret
    exact ⟨rfl, rfl⟩
theorem issort_any (s : Int) (w : World) : Calls Try.prog 49 #[.int .i64 s] w fun e w' => e = .returned (.bool (sSo s)) ∧ w = w' := by
  unfold sSo
  cases d : decide (1 ≤ s) with
  | true =>
    cases d2 : decide (s ≤ 5) with
    | true =>
      go_enter Try.func49, Try.ntmps49
      go_wp2
      go_ret
      exact ⟨rfl, rfl⟩
    | false =>
      go_enter Try.func49, Try.ntmps49
      go_wp2_with fail
      refine (isword_any s _).mono ?_
      rintro e w1 ⟨rfl, rfl⟩
      go_wp2_with fail
      go_ret
      exact ⟨rfl, rfl⟩
  | false =>
    go_enter Try.func49, Try.ntmps49
    go_wp2_with fail
    refine (isword_any s _).mono ?_
    rintro e w1 ⟨rfl, rfl⟩
    go_wp2_with fail
    go_ret
    exact ⟨rfl, rfl⟩
theorem when_any (b : Bool) (s : Int) (w : World) : Calls Try.prog 78 #[.bool b, .int .i64 s] w fun e w' => e = .returned (.int .i64 (if b then s else 0)) ∧ w = w' := by
  cases b with
  | true =>
    go_enter Try.func78, Try.ntmps78
    go_wp2
    go_ret
    exact ⟨rfl, rfl⟩
  | false =>
    go_enter Try.func78, Try.ntmps78
    go_wp2
    go_ret
    exact ⟨rfl, rfl⟩
end Go.Proofs.Ytibpgcdaommjeaa
namespace Go.Proofs.Ytibpgcdaommjeaa
open Go.RowKit

/-- A function value is entered as it stands. -/
def Enters (fid : Nat) : Prop := ∀ (args : Array Value) (w : World), Sem.run Try.prog (callFunc fid args) w = .ok (.enter fid args) w
theorem enters39 : Enters 51 := fun _ _ => by kernel_rfl
theorem enters41 : Enters 53 := fun _ _ => by kernel_rfl
theorem enters60 : Enters 79 := fun _ _ => by kernel_rfl
theorem enters61 : Enters 80 := fun _ _ => by kernel_rfl
theorem enters66 : Enters 94 := fun _ _ => by kernel_rfl
theorem enters67 : Enters 95 := fun _ _ => by kernel_rfl
theorem enters21 : Enters 22 := fun _ _ => by kernel_rfl
theorem enters23 : Enters 24 := fun _ _ => by kernel_rfl
theorem enters25 : Enters 26 := fun _ _ => by kernel_rfl
set_option maxRecDepth 100000 in
theorem every1_of {fid : Nat} (hc : Enters fid) (caps : Array Value) (q : Bool) (z : Int) (g : Nat) (w : World) (hg : HB w g 90 #[.func (.func fid) #[] caps])
    (H : Calls Try.prog fid (#[.int .i64 z] ++ caps) w fun e w' => e = .returned (.bool q) ∧ Below w.heap.size w w') :
    Calls Try.prog 76 #[.int .i64 z, .pointer (some ⟨g, 0, none⟩)] w fun e w' => e = .returned (.bool (!q)) ∧ Below w.heap.size w w' := by
  obtain ⟨h0, h1⟩ := hg.one
  have HC := Lib.hid hc
  have HH := Lib.hid H
  clear hg hc H
  go_enter Try.func76, Try.ntmps76
  go_wp2_with fail
  rw [HC.out, Oper.upon_enter]
  refine HH.out.mono ?_
  rintro e w1 ⟨rfl, hb1⟩
  have HB1 := Lib.hid hb1
  clear hb1
  go_wp2_with fail
  go_ret
  exact ⟨rfl, HB1.out⟩
theorem is_at {w : World} {A : Option Addr} {xs : List Int} {i : Nat} (h : Is w A xs) (hi : i < xs.length) : ∃ b o, A = some ⟨b, o, none⟩ ∧ b < w.heap.size ∧ w.cell? ⟨b, o + i, none⟩ = some (.int .i64 (nth xs i)) := by
  obtain ⟨b, o, e, l, c⟩ := h (by omega)
  exact ⟨b, o, e, l, c i hi⟩
theorem all_of {xs : List Int} {p : Int → Bool} (h : ∀ j, j < xs.length → p (nth xs j) = true) : xs.all p = true := by
  rw [List.all_eq_true]
  intro x hx
  obtain ⟨i, hi, rfl⟩ := List.getElem_of_mem hx
  have := h i hi
  rwa [nth_of hi] at this
theorem not_all {xs : List Int} {p : Int → Bool} {i : Nat} (hi : i < xs.length) (h : p (nth xs i) = false) : xs.all p = false := by
  rw [List.all_eq_false]
  exact ⟨xs[i], List.getElem_mem hi, by rw [← nth_of hi, h]; simp⟩
set_option maxHeartbeats 1000000 in
theorem index_any (xs : List Int) (A : Option Addr) (c : Nat) (p : Int → Bool) (g : Nat) (C : World → Prop) (hC : ∀ W W', C W → Below W.heap.size W W' → C W') (hl : xs.length ≤ maxLen)
    (H : ∀ i W, i < xs.length → C W → Calls Try.prog 76 #[.int .i64 (nth xs i), .pointer (some ⟨g, 0, none⟩)] W fun e w' => e = .returned (.bool (!p (nth xs i))) ∧ Below W.heap.size W w')
    (w : World) (h : Is w A xs) (hw : C w) :
    Calls Try.prog 68 #[.slice A xs.length c, .func (.func 76) #[] #[.pointer (some ⟨g, 0, none⟩)]] w fun e w' => ∃ k : Int, e = .returned (.int .i64 k) ∧ Hid (decide (0 ≤ k) = !(xs.all p)) ∧ Below w.heap.size w w' := by
  have HA := Lib.hid h
  have HH := Lib.hid H
  have HC := Lib.hid hC
  have HW := Lib.hid hw
  unfold maxLen at hl
  generalize hL : xs.length = L at *
  have HL := Lib.hid hL
  clear h H hC hw hL
  go_enter Try.func68, Try.ntmps68
  go_wp2_with fail
  go_loopw [5, 8] (fun _ k wr => ∃ i : Nat, i ≤ L ∧ k = .int .i64 i ∧ Hid (∀ j, j < i → p (nth xs j) = true) ∧ Hid (C wr) ∧ Hid (Below w.heap.size w wr)) (fun _ k _ => L - (intOf k).toNat)
  case atStart => exact ⟨0, by omega, rfl, fun j hj => absurd hj (by omega), HW.out, Below.refl _ _⟩
  case round =>
    obtain ⟨i, hi, rfl, HP, HX, HB⟩ := hrel
    by_cases hlt : i < L
    · obtain ⟨b, o, rfl, hb, c0⟩ := is_at (i := i) (HA.out.below HB.out) (by rw [HL.out]; exact hlt)
      have t3 : decide ((i : Int) < L) = true := by simpa using hlt
      go_wp2_with fail
      refine (HH.out i _ hlt HX.out).mono ?_
      rintro e w1 ⟨rfl, hb1⟩
      have G1 : Hid (Below w.heap.size w w1) := bw_below (Nat.le_refl _) HB.out hb1
      have X1 : Hid (C w1) := HC.out _ _ HX.out hb1
      clear hb1
      cases hq : p (nth xs i) with
      | true =>
        have HQ := Lib.hid hq
        clear hq
        go_wp2_with fail
        go_round
        case rel => exact ⟨i + 1, by omega, by go_num, fun j hj => by
          rcases Nat.lt_or_ge j i with z | z
          · exact HP.out j z
          · obtain rfl : j = i := by omega
            exact HQ.out, X1.out, G1.out⟩
        case measure => simp [intOf]; omega
      | false =>
        have HQ := Lib.hid hq
        clear hq
        go_wp2_with fail
        go_ret
        exact ⟨_, rfl, Lib.hid (by rw [not_all (by rw [HL.out]; exact hlt) HQ.out]; simp), G1.out⟩
    · obtain rfl : i = L := by omega
      have t3 : decide ((i : Int) < i) = false := by simp
      go_wp2_with fail
      go_ret
      exact ⟨_, rfl, Lib.hid (by rw [all_of (fun j hj => HP.out j (by rw [HL.out] at hj; exact hj))]; simp), HB.out⟩
set_option maxHeartbeats 1000000 in
theorem contains_any (xs : List Int) (A : Option Addr) (c : Nat) (p : Int → Bool) (g : Nat) (C : World → Prop) (hC : ∀ W W', C W → Below W.heap.size W W' → C W') (hl : xs.length ≤ maxLen)
    (H : ∀ i W, i < xs.length → C W → Calls Try.prog 76 #[.int .i64 (nth xs i), .pointer (some ⟨g, 0, none⟩)] W fun e w' => e = .returned (.bool (!p (nth xs i))) ∧ Below W.heap.size W w')
    (w : World) (h : Is w A xs) (hw : C w) :
    Calls Try.prog 42 #[.slice A xs.length c, .func (.func 76) #[] #[.pointer (some ⟨g, 0, none⟩)]] w fun e w' => e = .returned (.bool (!xs.all p)) ∧ Below w.heap.size w w' := by
  have HX := Lib.hid (index_any xs A c p g C hC hl H w h hw)
  clear h H hC hw hl
  generalize xs.length = L at *
  go_enter Try.func42, Try.ntmps42
  go_wp2_with fail
  refine HX.out.mono ?_
  rintro e w1 ⟨k, rfl, hk, hb1⟩
  have HB1 := Lib.hid hb1
  clear hb1
  go_wp2_with fail
  rw [hk.out]
  go_ret
  exact ⟨rfl, HB1.out⟩
/-- What every number of a list is, by a function value. -/
theorem every_any {fid : Nat} (hc : Enters fid) (xs : List Int) (A : Option Addr) (c : Nat) (caps : Array Value) (p : Int → Bool) (C : World → Prop) (hC : ∀ W W', C W → Below W.heap.size W W' → C W') (hl : xs.length ≤ maxLen)
    (H : ∀ i W, i < xs.length → C W → Calls Try.prog fid (#[.int .i64 (nth xs i)] ++ caps) W fun e w' => e = .returned (.bool (p (nth xs i))) ∧ Below W.heap.size W w')
    (w : World) (h : Is w A xs) (hw : C w) :
    Calls Try.prog 50 #[.slice A xs.length c, .func (.func fid) #[] caps] w fun e w' => e = .returned (.bool (xs.all p)) ∧ Below w.heap.size w w' := by
  have HX := Lib.hid (contains_any xs A c p w.heap.size (fun W => C W ∧ HB W w.heap.size 90 #[.func (.func fid) #[] caps]) (fun W W' h1 h2 => ⟨hC _ _ h1.1 h2, h1.2.below h2⟩) hl
    (fun i W hi hW => every1_of hc caps _ _ _ W hW.2 (H i W hi hW.1)) (w.alloc (.cells #[.func (.func fid) #[] caps] 90)) (h.below (new_below _ _)) ⟨hC _ _ hw (new_below _ _), HB.new _ _ _⟩)
  clear h H hC hw hl hc
  generalize xs.length = L at *
  go_enter Try.func50, Try.ntmps50
  go_wp2_with fail
  refine HX.out.mono ?_
  rintro e w1 ⟨rfl, hb1⟩
  have HB1 := Lib.hid (bw_below (Nat.le_refl _) (new_below w (.cells #[.func (.func fid) #[] caps] 90)) hb1)
  clear hb1
  go_wp2_with fail
  go_ret
  exact ⟨by simp, HB1.out⟩
theorem below_refl' (w : World) : Below w.heap.size w w := Below.refl _ _
theorem everything_any (xs : List Int) (A : Option Addr) (c : Nat) (hl : xs.length ≤ maxLen) (w : World) (h : Is w A xs) :
    Calls Try.prog 50 #[.slice A xs.length c, .func (.func 51) #[] #[]] w fun e w' => e = .returned (.bool (xs.all sTh)) ∧ Below w.heap.size w w' :=
  every_any enters39 xs A c #[] sTh (fun _ => True) (fun _ _ _ _ => trivial) hl (fun i W _ _ => (isthing_any (nth xs i) W).mono fun e w' ⟨h1, h2⟩ => ⟨h1, by subst h2; exact Below.refl _ _⟩) w h trivial
theorem everybool_any (xs : List Int) (A : Option Addr) (c : Nat) (hl : xs.length ≤ maxLen) (w : World) (h : Is w A xs) :
    Calls Try.prog 50 #[.slice A xs.length c, .func (.func 79) #[] #[]] w fun e w' => e = .returned (.bool (xs.all sBo)) ∧ Below w.heap.size w w' :=
  every_any enters60 xs A c #[] sBo (fun _ => True) (fun _ _ _ _ => trivial) hl (fun i W _ _ => (isbool_any (nth xs i) W).mono fun e w' ⟨h1, h2⟩ => ⟨h1, by subst h2; exact Below.refl _ _⟩) w h trivial
theorem everynum_any (xs : List Int) (A : Option Addr) (c : Nat) (hl : xs.length ≤ maxLen) (w : World) (h : Is w A xs) :
    Calls Try.prog 50 #[.slice A xs.length c, .func (.func 80) #[] #[]] w fun e w' => e = .returned (.bool (xs.all sNu)) ∧ Below w.heap.size w w' :=
  every_any enters61 xs A c #[] sNu (fun _ => True) (fun _ _ _ _ => trivial) hl (fun i W _ _ => (isnumeric_any (nth xs i) W).mono fun e w' ⟨h1, h2⟩ => ⟨h1, by subst h2; exact Below.refl _ _⟩) w h trivial
theorem everyint_any (xs : List Int) (A : Option Addr) (c : Nat) (hl : xs.length ≤ maxLen) (w : World) (h : Is w A xs) :
    Calls Try.prog 50 #[.slice A xs.length c, .func (.func 95) #[] #[]] w fun e w' => e = .returned (.bool (xs.all sIn)) ∧ Below w.heap.size w w' :=
  every_any enters67 xs A c #[] sIn (fun _ => True) (fun _ _ _ _ => trivial) hl (fun i W _ _ => (isint_any (nth xs i) W).mono fun e w' ⟨h1, h2⟩ => ⟨h1, by subst h2; exact Below.refl _ _⟩) w h trivial
theorem ns1_any (z n : Int) (g : Nat) (w : World) (hg : HB w g 3 #[.int .i64 n]) : Calls Try.prog 53 #[.int .i64 z, .pointer (some ⟨g, 0, none⟩)] w fun e w' => e = .returned (.bool (decide (0 ≤ z) && decide (z < n))) ∧ w = w' := by
  obtain ⟨h0, h1⟩ := hg.one
  clear hg
  cases d : decide (0 ≤ z) with
  | true =>
    rw [Bool.true_and]
    go_enter Try.func53, Try.ntmps53
    go_wp2
    go_ret
    exact ⟨rfl, rfl⟩
  | false =>
    rw [Bool.false_and]
    go_enter Try.func53, Try.ntmps53
    go_wp2
    go_ret
    exact ⟨rfl, rfl⟩
/-- Every kid is an earlier node. -/
theorem everykid_any (n : Int) (g : Nat) (xs : List Int) (A : Option Addr) (c : Nat) (hl : xs.length ≤ maxLen) (w : World) (h : Is w A xs) (hg : HB w g 3 #[.int .i64 n]) :
    Calls Try.prog 50 #[.slice A xs.length c, .func (.func 53) #[] #[.pointer (some ⟨g, 0, none⟩)]] w fun e w' => e = .returned (.bool (xs.all fun z => decide (0 ≤ z) && decide (z < n))) ∧ Below w.heap.size w w' :=
  every_any enters41 xs A c #[.pointer (some ⟨g, 0, none⟩)] (fun z => decide (0 ≤ z) && decide (z < n)) (fun W => HB W g 3 #[.int .i64 n]) (fun _ _ h1 h2 => h1.below h2) hl (fun i W _ hW => (ns1_any (nth xs i) n g W hW).mono fun e w' ⟨h1, h2⟩ => ⟨h1, by subst h2; exact Below.refl _ _⟩) w h hg
theorem sw1_any (z : Int) (xs : List Int) (A : Option Addr) (c : Nat) (g : Nat) (hn : 0 < xs.length) (w : World) (h : Is w A xs) (hg : HB w g 22 #[.slice A xs.length c]) :
    Calls Try.prog 94 #[.int .i64 z, .pointer (some ⟨g, 0, none⟩)] w fun e w' => e = .returned (.bool (z == nth xs 0)) ∧ w = w' := by
  obtain ⟨h0, h1⟩ := hg.one
  obtain ⟨b, o, rfl, _, c0⟩ := is_at h hn
  clear hg h
  generalize xs.length = L at *
  rw [Nat.add_zero] at c0
  go_enter Try.func94, Try.ntmps94
  go_wp2
  go_ret
  exact ⟨rfl, rfl⟩
/-- Words of one sort. -/
def sSw (xs : List Int) : Bool := sWd (nth xs 0) && xs.all fun z => z == nth xs 0
theorem samewords_any (xs : List Int) (A : Option Addr) (c : Nat) (hn : 0 < xs.length) (hl : xs.length ≤ maxLen) (w : World) (h : Is w A xs) :
    Calls Try.prog 81 #[.slice A xs.length c] w fun e w' => e = .returned (.bool (sSw xs)) ∧ Below w.heap.size w w' := by
  have HX := Lib.hid (fun W (h1 : Is W A xs) (h2 : HB W w.heap.size 22 #[.slice A xs.length c]) => every_any enters66 xs A c #[.pointer (some ⟨w.heap.size, 0, none⟩)] (fun z => z == nth xs 0) (fun W => Is W A xs ∧ HB W w.heap.size 22 #[.slice A xs.length c])
    (fun _ _ h1 h2 => ⟨h1.1.below h2, h1.2.below h2⟩) hl (fun i W _ hW => (sw1_any (nth xs i) xs A c _ hn W hW.1 hW.2).mono fun e w' ⟨h1, h2⟩ => ⟨h1, by subst h2; exact Below.refl _ _⟩) W h1 ⟨h1, h2⟩)
  have HA := Lib.hid (h.below (new_below w (.cells #[.slice A xs.length c] 22)))
  obtain ⟨b, o, rfl, _, c0⟩ := is_at HA.out hn
  have HN := Lib.hid (HB.new w 22 #[.slice (some ⟨b, o, none⟩) xs.length c])
  unfold sSw
  unfold maxLen at hl
  rw [Nat.add_zero] at c0
  clear h
  generalize hLL : xs.length = L at *
  clear hLL
  cases d : sWd (nth xs 0) with
  | false =>
    have D := Lib.hid d
    clear d
    rw [Bool.false_and]
    go_enter Try.func81, Try.ntmps81
    go_wp2_with fail
    refine (isword_any _ _).mono ?_
    rintro e w1 ⟨rfl, rfl⟩
    rw [D.out]
    go_wp2_with fail
    go_ret
    exact ⟨rfl, new_below _ _⟩
  | true =>
    have D := Lib.hid d
    clear d
    rw [Bool.true_and]
    go_enter Try.func81, Try.ntmps81
    go_wp2_with fail
    refine (isword_any _ _).mono ?_
    rintro e w1 ⟨rfl, rfl⟩
    rw [D.out]
    go_wp2_with fail
    refine (HX.out _ HA.out HN.out).mono ?_
    rintro e w1 ⟨rfl, hb1⟩
    have HB1 := Lib.hid (bw_below (Nat.le_refl _) (new_below w (.cells #[.slice (some ⟨b, o, none⟩) L c] 22)) hb1)
    clear hb1
    go_wp2_with fail
    go_ret
    exact ⟨rfl, HB1.out⟩
end Go.Proofs.Ytibpgcdaommjeaa
