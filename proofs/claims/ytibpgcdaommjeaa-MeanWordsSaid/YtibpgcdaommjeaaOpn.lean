/-
  Asks and worlds that are handed in.
-/
import Derived.Test.YtibpgcdaommjeaaG01
namespace Go.Proofs.Ytibpgcdaommjeaa
open Go.ChangeShapes Go.WideShapes Go.ChangeAt Go.RowKit Go.Joins Go.Deep

theorem Try.own : ownKnob Try.prog.godebug = none := by kernel_rfl
theorem Try.laidOut : laidOutB Try.prog = true := by kernel_rfl
section
variable {H : Type} {enc : TypeId × Value → H} {W : World}
theorem Try.cells30 : Try.prog.cellsOf 30 = 3 := by kernel_rfl
theorem Try.cells45 : Try.prog.cellsOf 45 = 3 := by kernel_rfl
theorem Try.cells24 : Try.prog.cellsOf 24 = 5 := by kernel_rfl
set_option maxRecDepth 100000 in
theorem open_ask {base : Nat} {v : Value} {d : DataW H} {p : List MemPlace} (hval : Value.okWide Try.prog W .any base 30 v) (h : DataW.Trod enc Try.prog W 0 (fun _ => true) true 30 v d p) :
    ∃ Ad An Ah dc nc hc qs ns hs, v = .agg #[.slice Ad (List.length qs) dc, .slice An (List.length ns) nc, .slice Ah (List.length hs) hc] ∧ qs.length ≤ dc ∧ dc ≤ maxLen ∧ ns.length ≤ nc ∧ nc ≤ maxLen ∧ hs.length ≤ hc ∧ hc ≤ maxLen ∧ DsAt W Ad qs ∧ NsAt W An ns ∧ Is W Ah hs := by
  obtain ⟨c0, c1, c2, y0, y1, y2, k, rfl, _, _, hy0, hy1, hy2⟩ := open_agg3 Try.underlying30 (by kernel_rfl) Try.cells30 hval h
  obtain ⟨Ad, dc, qs, e0, a1, a2, a3, _, _⟩ := open_ds Try.underlying26 Try.underlying45 Try.cells45 rfl rfl rfl (by kernel_rfl) (by kernel_rfl) (by kernel_rfl) Try.underlying9 rfl rfl Try.underlying22 Try.underlying3 (by kernel_rfl) hy0
  obtain ⟨An, nc, ns, e1, b1, b2, b3, _, _⟩ := open_ns Try.underlying28 Try.underlying24 Try.cells24 rfl rfl rfl rfl rfl (by kernel_rfl) (by kernel_rfl) (by kernel_rfl) (by kernel_rfl) (by kernel_rfl) Try.underlying9 rfl rfl rfl rfl Try.underlying22 Try.underlying3 (by kernel_rfl) hy1
  obtain ⟨Ah, hc, hs, e2, d1, d2, d3, _, _⟩ := open_isP (v := c2) Try.underlying22 Try.underlying3 (by kernel_rfl) hy2
  simp at e0 e1
  subst e0 e1 e2
  exact ⟨Ad, An, Ah, dc, nc, hc, qs, ns, hs, rfl, a1, a2, b1, b2, d1, d2, a3, b3, d3⟩
end
theorem vlT : VlT Try.prog 42 3 := ⟨39, 40, 59, _, _, _, _, _, _, _, Try.underlying42, by kernel_rfl, rfl, rfl, rfl, by kernel_rfl, by kernel_rfl, by kernel_rfl, rfl, rfl, rfl, Try.underlying39, rfl, rfl, rfl, rfl, Try.underlying40, Try.underlying59, by kernel_rfl, rfl, rfl, rfl, rfl, Try.underlying3, by kernel_rfl⟩
section
variable {H : Type} {enc : TypeId × Value → H} {W : World}
theorem Try.cells36 : Try.prog.cellsOf 36 = 1 := by kernel_rfl
theorem array1 {α : Type} {cs : Array α} (h : cs.size = 1) : ∃ c0, cs = #[c0] := by
  obtain ⟨l⟩ := cs
  match l, h with
  | [c0], _ => exact ⟨c0, rfl⟩
set_option maxRecDepth 100000 in
theorem open_world {base : Nat} {v : Value} {d : DataW H} {p : List MemPlace} (hval : Value.okWide Try.prog W .any base 36 v) (h : DataW.Trod enc Try.prog W 0 (fun _ => true) true 36 v d p) :
    ∃ Am mc ms, v = .agg #[.slice Am (List.length ms) mc] ∧ ms.length ≤ mc ∧ mc ≤ maxLen ∧ MsAt W Am ms ∧ ∀ q ∈ ms, Mg.wf q := by
  obtain ⟨cs, rfl, hsz⟩ := okWide_struct Try.underlying36 hval
  obtain ⟨c0, rfl⟩ := array1 (hsz.trans Try.cells36)
  obtain ⟨fuel, hf⟩ := h
  obtain ⟨xs, n, _, _, _, hxl, hg⟩ := DataW.trod_struct Try.underlying36 hf
  have q0 := hg 0 _ rfl
  have e0 : (0 : Nat) < xs.length := by rw [hxl]; decide
  rw [List.getElem?_eq_getElem e0] at q0
  have q1 : DataW.trod enc Try.prog W 0 (fun _ => true) true n 34 [c0] = some xs[0] := q0
  obtain ⟨A, c, qs, e1, h1, h2, h3, h4⟩ := open_ms vlT Try.underlying34 Try.underlying53 (by kernel_rfl) rfl rfl (by kernel_rfl) (by kernel_rfl) rfl rfl Try.underlying51 Try.underlying57 (by kernel_rfl) rfl rfl (by kernel_rfl) (by kernel_rfl) rfl rfl Try.underlying22 Try.underlying3 (by kernel_rfl) q1
  simp at e1
  subst e1
  exact ⟨A, c, qs, rfl, h1, h2, h3, h4⟩
end
end Go.Proofs.Ytibpgcdaommjeaa
