/-
  Asks and worlds that are handed in.
-/
import Derived.Test.YtcpeddogckillaaGreatG01
namespace Go.Proofs.YtcpeddogckillaaGreat
open Go.ChangeShapes Go.WideShapes Go.ChangeAt Go.RowKit Go.Joins Go.Deep

theorem Tryz.own : ownKnob Tryz.prog.godebug = none := by kernel_rfl
theorem Tryz.laidOut : laidOutB Tryz.prog = true := by kernel_rfl
section
variable {H : Type} {enc : TypeId × Value → H} {W : World}
theorem Tryz.cells26 : Tryz.prog.cellsOf 26 = 3 := by kernel_rfl
theorem Tryz.cells41 : Tryz.prog.cellsOf 41 = 3 := by kernel_rfl
theorem Tryz.cells39 : Tryz.prog.cellsOf 39 = 5 := by kernel_rfl
set_option maxRecDepth 100000 in
theorem open_ask {base : Nat} {v : Value} {d : DataW H} {p : List MemPlace} (hval : Value.okWide Tryz.prog W .any base 26 v) (h : DataW.Trod enc Tryz.prog W 0 (fun _ => true) true 26 v d p) :
    ∃ Ad An Ah dc nc hc qs ns hs, v = .agg #[.slice Ad (List.length qs) dc, .slice An (List.length ns) nc, .slice Ah (List.length hs) hc] ∧ qs.length ≤ dc ∧ dc ≤ maxLen ∧ ns.length ≤ nc ∧ nc ≤ maxLen ∧ hs.length ≤ hc ∧ hc ≤ maxLen ∧ DsAt W Ad qs ∧ NsAt W An ns ∧ Is W Ah hs := by
  obtain ⟨c0, c1, c2, y0, y1, y2, k, rfl, _, _, hy0, hy1, hy2⟩ := open_agg3 Tryz.underlying26 (by kernel_rfl) Tryz.cells26 hval h
  obtain ⟨Ad, dc, qs, e0, a1, a2, a3, _, _⟩ := open_ds Tryz.underlying23 Tryz.underlying41 Tryz.cells41 rfl rfl rfl (by kernel_rfl) (by kernel_rfl) (by kernel_rfl) Tryz.underlying9 rfl rfl Tryz.underlying22 Tryz.underlying3 (by kernel_rfl) hy0
  obtain ⟨An, nc, ns, e1, b1, b2, b3, _, _⟩ := open_ns Tryz.underlying24 Tryz.underlying39 Tryz.cells39 rfl rfl rfl rfl rfl (by kernel_rfl) (by kernel_rfl) (by kernel_rfl) (by kernel_rfl) (by kernel_rfl) Tryz.underlying9 rfl rfl rfl rfl Tryz.underlying22 Tryz.underlying3 (by kernel_rfl) hy1
  obtain ⟨Ah, hc, hs, e2, d1, d2, d3, _, _⟩ := open_isP (v := c2) Tryz.underlying22 Tryz.underlying3 (by kernel_rfl) hy2
  simp at e0 e1
  subst e0 e1 e2
  exact ⟨Ad, An, Ah, dc, nc, hc, qs, ns, hs, rfl, a1, a2, b1, b2, d1, d2, a3, b3, d3⟩
end
theorem vlT : VlT Tryz.prog 47 3 := ⟨44, 45, 79, _, _, _, _, _, _, _, Tryz.underlying47, by kernel_rfl, rfl, rfl, rfl, by kernel_rfl, by kernel_rfl, by kernel_rfl, rfl, rfl, rfl, Tryz.underlying44, rfl, rfl, rfl, rfl, Tryz.underlying45, Tryz.underlying79, by kernel_rfl, rfl, rfl, rfl, rfl, Tryz.underlying3, by kernel_rfl⟩
section
variable {H : Type} {enc : TypeId × Value → H} {W : World}
theorem Tryz.cells36 : Tryz.prog.cellsOf 36 = 1 := by kernel_rfl
theorem array1 {α : Type} {cs : Array α} (h : cs.size = 1) : ∃ c0, cs = #[c0] := by
  obtain ⟨l⟩ := cs
  match l, h with
  | [c0], _ => exact ⟨c0, rfl⟩
set_option maxRecDepth 100000 in
theorem open_world {base : Nat} {v : Value} {d : DataW H} {p : List MemPlace} (hval : Value.okWide Tryz.prog W .any base 36 v) (h : DataW.Trod enc Tryz.prog W 0 (fun _ => true) true 36 v d p) :
    ∃ Am mc ms, v = .agg #[.slice Am (List.length ms) mc] ∧ ms.length ≤ mc ∧ mc ≤ maxLen ∧ MsAt W Am ms ∧ ∀ q ∈ ms, Mg.wf q := by
  obtain ⟨cs, rfl, hsz⟩ := okWide_struct Tryz.underlying36 hval
  obtain ⟨c0, rfl⟩ := array1 (hsz.trans Tryz.cells36)
  obtain ⟨fuel, hf⟩ := h
  obtain ⟨xs, n, _, _, _, hxl, hg⟩ := DataW.trod_struct Tryz.underlying36 hf
  have q0 := hg 0 _ rfl
  have e0 : (0 : Nat) < xs.length := by rw [hxl]; decide
  rw [List.getElem?_eq_getElem e0] at q0
  have q1 : DataW.trod enc Tryz.prog W 0 (fun _ => true) true n 34 [c0] = some xs[0] := q0
  obtain ⟨A, c, qs, e1, h1, h2, h3, h4⟩ := open_ms vlT Tryz.underlying34 Tryz.underlying49 (by kernel_rfl) rfl rfl (by kernel_rfl) (by kernel_rfl) rfl rfl Tryz.underlying42 Tryz.underlying77 (by kernel_rfl) rfl rfl (by kernel_rfl) (by kernel_rfl) rfl rfl Tryz.underlying22 Tryz.underlying3 (by kernel_rfl) q1
  simp at e1
  subst e1
  exact ⟨A, c, qs, rfl, h1, h2, h3, h4⟩
end
end Go.Proofs.YtcpeddogckillaaGreat
