/-
  Forests that are handed in, and how much they hold.
-/
import Derived.Test.YtgkhkdohlbchoaaFor
namespace Go.Proofs.Ytgkhkdohlbchoaa
open Go.ChangeShapes Go.WideShapes Go.ChangeAt Go.RowKit Go.Joins Go.Deep

theorem Try.own : ownKnob Try.prog.godebug = none := by kernel_rfl
theorem Try.laidOut : laidOutB Try.prog = true := by kernel_rfl
theorem bulk_at {H : Type} {ds : List (DataW H)} {d : DataW H} (i : Nat) (h : ds[i]? = some d) : Rows.uptoBulk d ≤ Rows.uptoBulkAll ds := by
  induction ds generalizing i with
  | nil => simp at h
  | cons x r ih =>
    rw [Rows.uptoBulkAll]
    cases i with
    | zero => simp at h; subst h; omega
    | succ i => have := ih i (by simpa using h); omega
theorem of_bulk {H : Type} (qs : List (ByteArray × Bool × Fo)) : ∀ (ds : List (DataW H)), qs.length = ds.length → (∀ (i : Nat) (q : ByteArray × Bool × Fo) (d : DataW H), qs[i]? = some q → ds[i]? = some d → q.2.2.size + 1 ≤ Rows.uptoBulk d) → (Fo.of qs).size ≤ Rows.uptoBulkAll ds := by
  induction qs with
  | nil => intro ds _ _; simp [Fo.of, Fo.size]
  | cons q r ih =>
    intro ds hl h
    obtain ⟨s, l, k⟩ := q
    cases ds with
    | nil => simp at hl
    | cons d ds =>
      rw [Rows.uptoBulkAll]
      have h0 := h 0 _ d rfl rfl
      have h1 := ih ds (by simpa using hl) (fun i q' d' a b => h (i + 1) q' d' (by simpa using a) (by simpa using b))
      show k.size + (Fo.of r).size + 1 ≤ _
      simp only at h0
      omega
section
variable {H : Type} {enc : TypeId × Value → H} {P : Program} {W : World}
theorem open_fob {t e : TypeId} {f0 f1 f2 : Field} (ht : P.underlying t = some (.slice e)) (he : P.underlying e = some (.struct #[f0, f1, f2])) (ce : P.cellsOf e = 3) (o0 : f0.offset = 0) (o1 : f1.offset = 1) (o2 : f2.offset = 2)
    (c0 : P.cellsOf f0.type = 1) (c1 : P.cellsOf f1.type = 1) (c2 : P.cellsOf f2.type = 1) (h0 : P.underlying f0.type = some .string) (h1 : P.underlying f1.type = some .bool) (h2 : f2.type = t) :
    ∀ (fuel : Nat) (cs : List Value) (x : DataW H × List MemPlace), DataW.trod enc P W 0 (fun _ => true) true fuel t cs = some x → ∃ A c f, cs = [.slice A (Fo.len f) c] ∧ f.len ≤ c ∧ c ≤ maxLen ∧ f.At W A ∧ f.size ≤ Rows.uptoBulk x.1 := by
  intro fuel
  induction fuel using Nat.strongRecOn with
  | ind fuel IH =>
    intro cs x h
    rcases DataW.trod_slice ht h with ⟨rfl, _⟩ | ⟨a, len, cap, elems, rest, n, rfl, rfl, hx0, _, hl, hm, hlen, hel, _, _⟩
    · exact ⟨none, 0, .nil, rfl, Nat.le_refl _, by unfold maxLen; omega, fun z => absurd z (by simp [Fo.len]), by simp [Fo.size]⟩
    · have each : ∀ i, i < len → ∃ q : ByteArray × Bool × Fo, W.cell? (a.add (i * 3)) = some (.string q.1) ∧ W.cell? (a.add (i * 3 + 1)) = some (.bool q.2.1) ∧ q.1.size ≤ maxLen ∧ (∃ A c, W.cell? (a.add (i * 3 + 2)) = some (.slice A q.2.2.len c) ∧ q.2.2.len ≤ c ∧ c ≤ maxLen ∧ q.2.2.At W A) ∧ ∃ y, elems[i]? = some y ∧ q.2.2.size + 1 ≤ Rows.uptoBulk y.1 := by
        intro i hi
        have hy : elems[i]? = some (elems[i]'(by omega)) := List.getElem?_eq_getElem (by omega)
        have hb := (hel i hi).trans hy
        rw [ce] at hb
        obtain ⟨cs', k1, k2⟩ := Option.bind_eq_some_iff.1 hb
        obtain ⟨_, hcl, hcc⟩ := World.cells?_some k1
        obtain ⟨xs, n', rfl, hx2, _, hxl, hf⟩ := DataW.trod_struct he k2
        match cs', hcl with
        | [v0, v1, v2], _ =>
          have q0 := hf 0 f0 rfl
          have q1 := hf 1 f1 rfl
          have q2 := hf 2 f2 rfl
          simp only [List.size_toArray, List.length_cons, List.length_nil] at hxl
          rw [o0, c0, List.getElem?_eq_getElem (by omega)] at q0
          rw [o1, c1, List.getElem?_eq_getElem (by omega)] at q1
          rw [o2, c2, List.getElem?_eq_getElem (by omega), h2] at q2
          obtain ⟨s, e0, _, l0⟩ := DataW.trod_string h0 q0
          obtain ⟨bb, e1, _⟩ := DataW.trod_bool h1 q1
          obtain ⟨A, c, f, e2, j1, j2, j3, j4⟩ := IH n' (by omega) _ _ q2
          simp at e0 e1 e2
          subst e0 e1 e2
          have d0 := hcc 0 (by omega)
          have d1 := hcc 1 (by omega)
          have d2 := hcc 2 (by omega)
          rw [Addr.add_add] at d0 d1 d2
          refine ⟨(s, bb, f), by simpa using d0, by simpa using d1, l0, ⟨A, c, by simpa using d2, j1, j2, j3⟩, _, hy, ?_⟩
          rw [hx2]
          show f.size + 1 ≤ Rows.uptoBulk (.agg (xs.map (·.1)))
          rw [Rows.uptoBulk]
          have := bulk_at (H := H) (ds := xs.map (·.1)) (d := (xs[2]'(by omega)).1) 2 (by simp [show 2 < xs.length by omega])
          omega
      obtain ⟨F, hF⟩ := choose_lt each
      refine ⟨some a, cap, Fo.of ((List.range len).map F), by rw [Fo.of_len]; simp, by rw [Fo.of_len]; simpa using hl, hm, fun z => ?_, ?_⟩
      rotate_left
      · rw [hx0]
        show _ ≤ Rows.uptoBulk (.slice (elems.map (·.1)) (rest.map (·.1)))
        rw [Rows.uptoBulk]
        have := of_bulk (H := H) ((List.range len).map F) (elems.map (·.1)) (by simp [hlen]) (fun i q d h1 h2 => by
          have hi : i < len := by
            rcases Nat.lt_or_ge i len with z | z
            · exact z
            · rw [List.getElem?_eq_none (by simpa using z)] at h1; cases h1
          have hq : q = F i := by simpa [hi] using h1.symm
          obtain ⟨_, _, _, _, y, hy, hb⟩ := hF i hi
          subst hq
          rw [List.getElem?_map, hy] at h2
          cases h2
          exact hb)
        omega
      rw [Fo.of_len] at z
      simp at z
      obtain ⟨b, off, spot⟩ := a
      have hspot : spot = none := by simpa [Addr.add] using World.cell?_spot (hF 0 z).1
      subst hspot
      have z0 := (hF 0 z).1
      rw [add_plain] at z0
      refine ⟨b, off, rfl, World.block_lt_of_cell? W _ z0, in_of b _ off (fun i x hx => ?_)⟩
      have hi : i < len := by
        rcases Nat.lt_or_ge i len with q | q
        · exact q
        · rw [List.getElem?_eq_none (by simpa using q)] at hx; cases hx
      have hxe : x = F i := by simpa [hi] using hx.symm
      subst hxe
      obtain ⟨g0, g1, g2, ⟨A, c, g3, g4⟩, _⟩ := hF i hi
      rw [add_plain] at g0 g1 g3
      exact ⟨g0, by rw [Nat.add_assoc]; exact g1, g2, A, c, by rw [Nat.add_assoc]; exact g3, g4⟩
end
theorem open_fos {H : Type} {enc : TypeId × Value → H} {W : World} {v : Value} {d : DataW H} {p : List MemPlace} (hval : ∃ a0 len cap, v = .slice a0 len cap) (h : DataW.Trod enc Try.prog W 0 (fun _ => true) true 23 v d p) :
    ∃ A c f, v = .slice A (Fo.len f) c ∧ f.len ≤ c ∧ c ≤ maxLen ∧ f.At W A ∧ f.size ≤ Rows.uptoBulk d := by
  obtain ⟨a0, l0, c0, rfl⟩ := hval
  obtain ⟨fuel, hf⟩ := h
  have hf' : DataW.trod enc Try.prog W 0 (fun _ => true) true fuel 23 [.slice a0 l0 c0] = some (d, p) := by simpa [Value.cells] using hf
  obtain ⟨A, c, f, e, h1, h2, h3, h4⟩ := open_fob Try.underlying23 Try.underlying42 (by kernel_rfl) rfl rfl rfl (by kernel_rfl) (by kernel_rfl) (by kernel_rfl) (by kernel_rfl) (by kernel_rfl) rfl fuel _ _ hf'
  simp only [List.cons.injEq, and_true] at e
  exact ⟨A, c, f, e, h1, h2, h3, h4⟩
end Go.Proofs.Ytgkhkdohlbchoaa
