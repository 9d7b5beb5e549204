/-
  Asks: what slices of declared names and of nodes that are handed in are in memory. Over any program.
-/
import Derived.Test.YtjjjgffpmghfgaaEls
namespace Go.Proofs.Ytjjjgffpmghfgaa
open Go.ChangeShapes Go.WideShapes Go.ChangeAt Go.RowKit Go.Joins Go.Deep

/-- A declared name: the name, what it wants, what it is. -/
structure Dc where
  name : ByteArray
  args : List Int
  sort : Int
instance : Inhabited Dc := ⟨⟨ByteArray.empty, [], 0⟩⟩
/-- A node. -/
structure Nd where
  op : Int
  kids : List Int
  n : Int
  d : Int
  name : ByteArray
instance : Inhabited Nd := ⟨⟨0, [], 0, 0, ByteArray.empty⟩⟩
/-- The declared name lies in a block from a place on. -/
def Dc.In (w : World) (q : Dc) (b o : Nat) : Prop := w.cell? ⟨b, o, none⟩ = some (.string q.name) ∧ w.cell? ⟨b, o + 2, none⟩ = some (.int .i64 q.sort) ∧ q.name.size ≤ maxLen ∧
  ∃ A c, w.cell? ⟨b, o + 1, none⟩ = some (.slice A q.args.length c) ∧ q.args.length ≤ c ∧ c ≤ maxLen ∧ Is w A q.args
/-- The node lies in a block from a place on. -/
def Nd.In (w : World) (q : Nd) (b o : Nat) : Prop := w.cell? ⟨b, o, none⟩ = some (.int .i64 q.op) ∧ w.cell? ⟨b, o + 2, none⟩ = some (.int .i64 q.n) ∧ w.cell? ⟨b, o + 3, none⟩ = some (.int .i64 q.d) ∧ w.cell? ⟨b, o + 4, none⟩ = some (.string q.name) ∧ q.name.size ≤ maxLen ∧
  ∃ A c, w.cell? ⟨b, o + 1, none⟩ = some (.slice A q.kids.length c) ∧ q.kids.length ≤ c ∧ c ≤ maxLen ∧ Is w A q.kids
theorem Dc.In.below {w w' : World} {q : Dc} {b o : Nat} (h : q.In w b o) (hb : Below w.heap.size w w') (hl : b < w.heap.size) : q.In w' b o := by
  obtain ⟨h0, h2, h3, A, c, h1, h4, h5, h6⟩ := h
  exact ⟨(hb.cell (p := ⟨b, o, none⟩) hl).trans h0, (hb.cell (p := ⟨b, o + 2, none⟩) hl).trans h2, h3, A, c, (hb.cell (p := ⟨b, o + 1, none⟩) hl).trans h1, h4, h5, h6.below hb⟩
theorem Nd.In.below {w w' : World} {q : Nd} {b o : Nat} (h : q.In w b o) (hb : Below w.heap.size w w') (hl : b < w.heap.size) : q.In w' b o := by
  obtain ⟨h0, h2, h3, h4, h5, A, c, h1, h6, h7, h8⟩ := h
  exact ⟨(hb.cell (p := ⟨b, o, none⟩) hl).trans h0, (hb.cell (p := ⟨b, o + 2, none⟩) hl).trans h2, (hb.cell (p := ⟨b, o + 3, none⟩) hl).trans h3, (hb.cell (p := ⟨b, o + 4, none⟩) hl).trans h4, h5, A, c, (hb.cell (p := ⟨b, o + 1, none⟩) hl).trans h1, h6, h7, h8.below hb⟩
/-- Declared names at a slice's address. -/
def DsAt (w : World) (A : Option Addr) (qs : List Dc) : Prop := 0 < qs.length → ∃ b o, A = some ⟨b, o, none⟩ ∧ b < w.heap.size ∧ ∀ (i : Nat) (q : Dc), qs[i]? = some q → q.In w b (o + i * 3)
/-- Nodes at a slice's address. -/
def NsAt (w : World) (A : Option Addr) (qs : List Nd) : Prop := 0 < qs.length → ∃ b o, A = some ⟨b, o, none⟩ ∧ b < w.heap.size ∧ ∀ (i : Nat) (q : Nd), qs[i]? = some q → q.In w b (o + i * 5)
theorem DsAt.below {w w' : World} {A : Option Addr} {qs : List Dc} (h : DsAt w A qs) (hb : Below w.heap.size w w') : DsAt w' A qs := fun z => by
  obtain ⟨b, o, e, l, q⟩ := h z
  exact ⟨b, o, e, Nat.lt_of_lt_of_le l hb.size, fun i x hx => (q i x hx).below hb l⟩
theorem NsAt.below {w w' : World} {A : Option Addr} {qs : List Nd} (h : NsAt w A qs) (hb : Below w.heap.size w w') : NsAt w' A qs := fun z => by
  obtain ⟨b, o, e, l, q⟩ := h z
  exact ⟨b, o, e, Nat.lt_of_lt_of_le l hb.size, fun i x hx => (q i x hx).below hb l⟩
theorem DsAt.take {w : World} {A : Option Addr} {qs : List Dc} (h : DsAt w A qs) (k : Nat) : DsAt w A (qs.take k) := fun z => by
  obtain ⟨b, o, e, l, q⟩ := h (by rw [List.length_take] at z; omega)
  refine ⟨b, o, e, l, fun i x hx => q i x ?_⟩
  rw [List.getElem?_take] at hx
  split at hx
  · exact hx
  · cases hx
theorem NsAt.take {w : World} {A : Option Addr} {qs : List Nd} (h : NsAt w A qs) (k : Nat) : NsAt w A (qs.take k) := fun z => by
  obtain ⟨b, o, e, l, q⟩ := h (by rw [List.length_take] at z; omega)
  refine ⟨b, o, e, l, fun i x hx => q i x ?_⟩
  rw [List.getElem?_take] at hx
  split at hx
  · exact hx
  · cases hx
theorem bulk_len {H : Type} {ds : List (DataW H)} (h : ∀ (i : Nat) d, ds[i]? = some d → 1 ≤ Rows.uptoBulk d) : ds.length ≤ Rows.uptoBulkAll ds := by
  induction ds with
  | nil => simp
  | cons x r ih =>
    rw [Rows.uptoBulkAll, List.length_cons]
    have := h 0 x rfl
    have := ih (fun i d hd => h (i + 1) d (by simpa using hd))
    omega
section
variable {H : Type} {enc : TypeId × Value → H} {P : Program} {W : World}
/-- Declared names that are handed in: so many; each wants no more than the bulk. -/
theorem open_ds {t e ti ei : TypeId} {f0 f1 f2 : Field} (ht : P.underlying t = some (.slice e)) (he : P.underlying e = some (.struct #[f0, f1, f2])) (ce : P.cellsOf e = 3) (o0 : f0.offset = 0) (o1 : f1.offset = 1) (o2 : f2.offset = 2)
    (c0 : P.cellsOf f0.type = 1) (c1 : P.cellsOf f1.type = 1) (c2 : P.cellsOf f2.type = 1) (h0 : P.underlying f0.type = some .string) (h1 : f1.type = ti) (h2 : f2.type = ei)
    (hti : P.underlying ti = some (.slice ei)) (hei : P.underlying ei = some (.int .i64)) (cei : P.cellsOf ei = 1)
    {fuel : Nat} {cs : List Value} {x : DataW H × List MemPlace} (h : DataW.trod enc P W 0 (fun _ => true) true fuel t cs = some x) :
    ∃ (A : Option Addr) (c : Nat) (qs : List Dc), cs = [.slice A qs.length c] ∧ qs.length ≤ c ∧ c ≤ maxLen ∧ DsAt W A qs ∧ qs.length ≤ Rows.uptoBulk x.1 ∧ (∀ q ∈ qs, (Lit.int .i64 q.sort).wf = true ∧ (∀ z ∈ q.args, (Lit.int .i64 z).wf = true) ∧ q.args.length ≤ Rows.uptoBulk x.1) := by
  obtain ⟨A, c, qs, ds, e1, e2, e3, e4, e5, e6⟩ := open_els (α := Dc) (k := 3) ht ce (by omega) (fun q vs d => (∃ A c, vs = [.string q.name, .slice A q.args.length c, .int .i64 q.sort] ∧ q.name.size ≤ maxLen ∧ q.args.length ≤ c ∧ c ≤ maxLen ∧ Is W A q.args) ∧ (Lit.int .i64 q.sort).wf = true ∧ (∀ z ∈ q.args, (Lit.int .i64 z).wf = true) ∧ q.args.length + 1 ≤ Rows.uptoBulk d) (by
    intro n cs y hcl hy
    obtain ⟨xs, n', rfl, hx2, _, hxl, hf⟩ := DataW.trod_struct he hy
    match cs, hcl with
    | [v0, v1, v2], _ =>
      have q0 := hf 0 f0 rfl
      have q1 := hf 1 f1 rfl
      have q2 := hf 2 f2 rfl
      simp only [List.size_toArray, List.length_cons, List.length_nil] at hxl
      rw [o0, c0, List.getElem?_eq_getElem (by omega)] at q0
      rw [o1, c1, List.getElem?_eq_getElem (by omega), h1] at q1
      rw [o2, c2, List.getElem?_eq_getElem (by omega), h2] at q2
      obtain ⟨s, e0, _, l0⟩ := DataW.trod_string h0 q0
      obtain ⟨A, c, zs, e1, j1, j2, j3, j4, j5⟩ := open_isP hti hei cei (v := v1) q1
      obtain ⟨m, e2, _, w2⟩ := DataW.trod_int hei q2
      simp at e0 e2
      subst e0 e1 e2
      refine ⟨⟨s, zs, m⟩, ⟨A, c, rfl, l0, j1, j2, j3⟩, w2, j4, ?_⟩
      rw [hx2]
      show zs.length + 1 ≤ Rows.uptoBulk (.agg (xs.map (·.1)))
      rw [Rows.uptoBulk]
      have := bulk_nth (H := H) (ds := xs.map (·.1)) (d := (xs[1]'(by omega)).1) 1 (by simp [show 1 < xs.length by omega])
      omega) h
  have hget : ∀ (i : Nat) (q : Dc), qs[i]? = some q → i < qs.length := fun i q hq => by
    rcases Nat.lt_or_ge i qs.length with z | z
    · exact z
    · rw [List.getElem?_eq_none z] at hq; cases hq
  refine ⟨A, c, qs, e1, e2, e3, fun z => ?_, ?_, ?_⟩
  · obtain ⟨b, o, g1, g2, g3⟩ := e6 z
    refine ⟨b, o, g1, g2, fun i q hq => ?_⟩
    obtain ⟨vs, d, _, ⟨⟨A', c', rfl, k1, k2, k3, k4⟩, _⟩, _, k5⟩ := g3 i q hq
    exact ⟨k5 0 _ rfl, k5 2 _ rfl, k1, A', c', k5 1 _ rfl, k2, k3, k4⟩
  · have := bulk_len (H := H) (ds := ds) (fun i d hd => by
      have hi : i < ds.length := by
        rcases Nat.lt_or_ge i ds.length with z | z
        · exact z
        · rw [List.getElem?_eq_none z] at hd; cases hd
      obtain ⟨b, o, _, _, g3⟩ := e6 (by omega)
      obtain ⟨vs, d', hd', ⟨_, _, _, k⟩, _⟩ := g3 i (qs[i]'(by omega)) (List.getElem?_eq_getElem (by omega))
      rw [hd] at hd'
      cases hd'
      omega)
    omega
  · intro q hq
    obtain ⟨i, hi, rfl⟩ := List.getElem_of_mem hq
    obtain ⟨b, o, _, _, g3⟩ := e6 (by omega)
    obtain ⟨vs, d', hd', ⟨_, k1, k2, k3⟩, _⟩ := g3 i (qs[i]'(by omega)) (List.getElem?_eq_getElem (by omega))
    have := bulk_nth i hd'
    exact ⟨k1, k2, by omega⟩
/-- Nodes that are handed in. -/
theorem open_ns {t e ti ei : TypeId} {f0 f1 f2 f3 f4 : Field} (ht : P.underlying t = some (.slice e)) (he : P.underlying e = some (.struct #[f0, f1, f2, f3, f4])) (ce : P.cellsOf e = 5) (o0 : f0.offset = 0) (o1 : f1.offset = 1) (o2 : f2.offset = 2) (o3 : f3.offset = 3) (o4 : f4.offset = 4)
    (c0 : P.cellsOf f0.type = 1) (c1 : P.cellsOf f1.type = 1) (c2 : P.cellsOf f2.type = 1) (c3 : P.cellsOf f3.type = 1) (c4 : P.cellsOf f4.type = 1) (h4 : P.underlying f4.type = some .string) (h0 : f0.type = ei) (h1 : f1.type = ti) (h2 : f2.type = ei) (h3 : f3.type = ei)
    (hti : P.underlying ti = some (.slice ei)) (hei : P.underlying ei = some (.int .i64)) (cei : P.cellsOf ei = 1)
    {fuel : Nat} {cs : List Value} {x : DataW H × List MemPlace} (h : DataW.trod enc P W 0 (fun _ => true) true fuel t cs = some x) :
    ∃ (A : Option Addr) (c : Nat) (qs : List Nd), cs = [.slice A qs.length c] ∧ qs.length ≤ c ∧ c ≤ maxLen ∧ NsAt W A qs ∧ qs.length ≤ Rows.uptoBulk x.1 ∧ (∀ q ∈ qs, (Lit.int .i64 q.op).wf = true ∧ (Lit.int .i64 q.n).wf = true ∧ (Lit.int .i64 q.d).wf = true ∧ (∀ z ∈ q.kids, (Lit.int .i64 z).wf = true) ∧ q.kids.length ≤ Rows.uptoBulk x.1) := by
  obtain ⟨A, c, qs, ds, e1, e2, e3, e4, e5, e6⟩ := open_els (α := Nd) (k := 5) ht ce (by omega) (fun q vs d => (∃ A c, vs = [.int .i64 q.op, .slice A q.kids.length c, .int .i64 q.n, .int .i64 q.d, .string q.name] ∧ q.name.size ≤ maxLen ∧ q.kids.length ≤ c ∧ c ≤ maxLen ∧ Is W A q.kids) ∧ (Lit.int .i64 q.op).wf = true ∧ (Lit.int .i64 q.n).wf = true ∧ (Lit.int .i64 q.d).wf = true ∧ (∀ z ∈ q.kids, (Lit.int .i64 z).wf = true) ∧ q.kids.length + 1 ≤ Rows.uptoBulk d) (by
    intro n cs y hcl hy
    obtain ⟨xs, n', rfl, hx2, _, hxl, hf⟩ := DataW.trod_struct he hy
    match cs, hcl with
    | [v0, v1, v2, v3, v4], _ =>
      have q0 := hf 0 f0 rfl
      have q1 := hf 1 f1 rfl
      have q2 := hf 2 f2 rfl
      have q3 := hf 3 f3 rfl
      have q4 := hf 4 f4 rfl
      simp only [List.size_toArray, List.length_cons, List.length_nil] at hxl
      rw [o0, c0, List.getElem?_eq_getElem (by omega), h0] at q0
      rw [o1, c1, List.getElem?_eq_getElem (by omega), h1] at q1
      rw [o2, c2, List.getElem?_eq_getElem (by omega), h2] at q2
      rw [o3, c3, List.getElem?_eq_getElem (by omega), h3] at q3
      rw [o4, c4, List.getElem?_eq_getElem (by omega)] at q4
      obtain ⟨m0, e0, _, w0⟩ := DataW.trod_int hei q0
      obtain ⟨A, c, zs, e1, j1, j2, j3, j4, j5⟩ := open_isP hti hei cei (v := v1) q1
      obtain ⟨m2, e2, _, w2⟩ := DataW.trod_int hei q2
      obtain ⟨m3, e3, _, w3⟩ := DataW.trod_int hei q3
      obtain ⟨s, e4, _, l4⟩ := DataW.trod_string h4 q4
      simp at e0 e2 e3 e4
      subst e0 e1 e2 e3 e4
      refine ⟨⟨m0, zs, m2, m3, s⟩, ⟨A, c, rfl, l4, j1, j2, j3⟩, w0, w2, w3, j4, ?_⟩
      rw [hx2]
      show zs.length + 1 ≤ Rows.uptoBulk (.agg (xs.map (·.1)))
      rw [Rows.uptoBulk]
      have := bulk_nth (H := H) (ds := xs.map (·.1)) (d := (xs[1]'(by omega)).1) 1 (by simp [show 1 < xs.length by omega])
      omega) h
  refine ⟨A, c, qs, e1, e2, e3, fun z => ?_, ?_, ?_⟩
  · obtain ⟨b, o, g1, g2, g3⟩ := e6 z
    refine ⟨b, o, g1, g2, fun i q hq => ?_⟩
    obtain ⟨vs, d, _, ⟨⟨A', c', rfl, k1, k2, k3, k4⟩, _⟩, _, k5⟩ := g3 i q hq
    exact ⟨k5 0 _ rfl, k5 2 _ rfl, k5 3 _ rfl, k5 4 _ rfl, k1, A', c', k5 1 _ rfl, k2, k3, k4⟩
  · have := bulk_len (H := H) (ds := ds) (fun i d hd => by
      have hi : i < ds.length := by
        rcases Nat.lt_or_ge i ds.length with z | z
        · exact z
        · rw [List.getElem?_eq_none z] at hd; cases hd
      obtain ⟨b, o, _, _, g3⟩ := e6 (by omega)
      obtain ⟨vs, d', hd', ⟨_, _, _, _, _, k⟩, _⟩ := g3 i (qs[i]'(by omega)) (List.getElem?_eq_getElem (by omega))
      rw [hd] at hd'
      cases hd'
      omega)
    omega
  · intro q hq
    obtain ⟨i, hi, rfl⟩ := List.getElem_of_mem hq
    obtain ⟨b, o, _, _, g3⟩ := e6 (by omega)
    obtain ⟨vs, d', hd', ⟨_, k0, k1, k2, k3, k4⟩, _⟩ := g3 i (qs[i]'(by omega)) (List.getElem?_eq_getElem (by omega))
    have := bulk_nth i hd'
    exact ⟨k0, k1, k2, k3, by omega⟩
end
end Go.Proofs.Ytjjjgffpmghfgaa
