/-
  Worlds: a set of rows of numbers in a map.
-/
import Derived.Test.YtjjjgffpmghfgaaMeaC
import Derived.Maps.OwnOps
import Derived.Maps.Views
import Derived.WideKeyPair
import Derived.Laws.CopyOwn
import Derived.Deep.RegionLaw
namespace Go.Proofs.Ytjjjgffpmghfgaa
open Go.RowKit

/-- A row of at most eight numbers as a key. -/
def kyV (zs : List Int) : Value := .agg #[.int .i64 (nth zs 0), .int .i64 (nth zs 1), .int .i64 (nth zs 2), .int .i64 (nth zs 3), .int .i64 (nth zs 4), .int .i64 (nth zs 5), .int .i64 (nth zs 6), .int .i64 (nth zs 7)]
def kyL (zs : List Int) : Lit := .string (keyBytes [.int .i64 (nth zs 0), .int .i64 (nth zs 1), .int .i64 (nth zs 2), .int .i64 (nth zs 3), .int .i64 (nth zs 4), .int .i64 (nth zs 5), .int .i64 (nth zs 6), .int .i64 (nth zs 7)])
theorem arrK : WideMaps.ArrKey Try.prog 117 3 8 := ⟨Try.underlying117, by kernel_rfl, by kernel_rfl, by kernel_rfl⟩
theorem keyK : Go.Maps.Keyed Try.prog 117 := Go.Maps.Keyed.of_law arrK.law
theorem some_types : ∃ m, Try.prog.types.size = m + 1 := ⟨Try.prog.types.size - 1, by
  have : 0 < Try.prog.types.size := by decide +kernel
  omega⟩
theorem nth_wf {zs : List Int} (h : ∀ z ∈ zs, wf64 z) (i : Nat) : (Lit.int .i64 (nth zs i)).wf = true := by
  by_cases hi : i < zs.length
  · rw [nth_of hi]; exact h _ (List.getElem_mem hi)
  · rw [nth_past (by omega)]; rfl
theorem keyOf_eight {P : Program} {k e : TypeId} {q : IntKind} (A : WideMaps.ArrKey P k e 8) (he : P.underlying e = some (.int q)) (hsz : ∃ m, P.types.size = m + 1) {a0 a1 a2 a3 a4 a5 a6 a7 : Int} (w0 : (Lit.int q a0).wf = true) (w1 : (Lit.int q a1).wf = true) (w2 : (Lit.int q a2).wf = true) (w3 : (Lit.int q a3).wf = true) (w4 : (Lit.int q a4).wf = true) (w5 : (Lit.int q a5).wf = true) (w6 : (Lit.int q a6).wf = true) (w7 : (Lit.int q a7).wf = true) :
    keyOf P k (.agg #[.int q a0, .int q a1, .int q a2, .int q a3, .int q a4, .int q a5, .int q a6, .int q a7]) = some (.string (keyBytes [.int q a0, .int q a1, .int q a2, .int q a3, .int q a4, .int q a5, .int q a6, .int q a7])) := by
  have hkt := A.keyType hsz
  obtain ⟨m, hm⟩ := hsz
  unfold keyOf
  simp only [A.hu]
  rw [if_pos (by simp [hkt, Value.formed, A.hu, A.size]), hm]
  unfold Program.keyLits
  simp only [A.hu, Value.cells]
  rw [if_pos (by rw [A.size]; rfl), show List.range 8 = [0, 1, 2, 3, 4, 5, 6, 7] from rfl, List.mapM_cons, List.mapM_cons, List.mapM_cons, List.mapM_cons, List.mapM_cons, List.mapM_cons, List.mapM_cons, List.mapM_cons, List.mapM_nil]
  simp [A.one, Program.keyLits, he, w0, w1, w2, w3, w4, w5, w6, w7]
theorem key_of {zs : List Int} (h : ∀ z ∈ zs, wf64 z) : keyOf Try.prog 117 (kyV zs) = some (kyL zs) :=
  keyOf_eight arrK Try.underlying3 some_types (nth_wf h 0) (nth_wf h 1) (nth_wf h 2) (nth_wf h 3) (nth_wf h 4) (nth_wf h 5) (nth_wf h 6) (nth_wf h 7)
theorem key_inj {zs ys : List Int} (hl : zs.length = ys.length) (h8 : zs.length ≤ 8) (hz : ∀ z ∈ zs, wf64 z) (hy : ∀ z ∈ ys, wf64 z) (h : kyL zs = kyL ys) : zs = ys := by
  have := keyK.inj (key_of hz) (by rw [h]; exact key_of hy)
  unfold kyV at this
  simp only [Value.agg.injEq, Array.mk.injEq, List.cons.injEq, Value.int.injEq, true_and, and_true] at this
  obtain ⟨e0, e1, e2, e3, e4, e5, e6, e7⟩ := this
  refine list_same hl (fun j hj => ?_)
  have : j = 0 ∨ j = 1 ∨ j = 2 ∨ j = 3 ∨ j = 4 ∨ j = 5 ∨ j = 6 ∨ j = 7 := by omega
  rcases this with rfl | rfl | rfl | rfl | rfl | rfl | rfl | rfl <;> assumption
/-- A map whose keys are just these rows of m numbers. -/
def SetAt (w : World) (b n m : Nat) (L : List (List Int)) : Prop :=
  ∃ D : DataW Unit, w.ownsMap Try.prog 117 (plainElem Try.prog 4) b n D ∧ Go.Maps.IsMap D ∧ ∀ zs : List Int, zs.length = m → (∀ z ∈ zs, wf64 z) → D.atKey (kyL zs) (.lit (.bool false)) = .lit (.bool (decide (zs ∈ L)))
theorem SetAt.lt {w : World} {b n m : Nat} {L : List (List Int)} (h : SetAt w b n m L) : b < w.heap.size := by
  obtain ⟨D, h1, _⟩ := h
  exact h1.lt
theorem SetAt.below {w w' : World} {b n m : Nat} {L : List (List Int)} (h : SetAt w b n m L) (hb : Below w.heap.size w w') : SetAt w' b n m L := by
  obtain ⟨D, ⟨es, clock, h1, h2, h3⟩, h4⟩ := h
  exact ⟨D, ⟨es, clock, (hb.block b (Array.getElem?_eq_some_iff.1 h1).1).trans h1, h2, h3⟩, h4⟩
theorem set_made (w : World) (m : Nat) : SetAt (w.alloc (.map #[] 0)) w.heap.size 0 m [] := ⟨_, World.ownsMap_made w _ _ _, ⟨[], rfl⟩, fun zs _ _ => by simp [DataW.atKey]⟩
theorem set_ne {w : World} {b n m g t : Nat} {L : List (List Int)} {cs : Array Value} (h : SetAt w b n m L) (k : HB w g t cs) : g ≠ b := by
  obtain ⟨D, ⟨es, clock, h1, _⟩, _⟩ := h
  rintro rfl
  unfold HB at k
  rw [h1] at k
  cases k
theorem zero_bool (w : World) : (zeroValue 4).run Try.prog w = .ok (.bool false) w := by kernel_rfl
theorem plain_bool_inv {P : Program} {e : TypeId} (he : P.underlying e = some .bool) {v : Value} {x : Bool} {ps : List MemPlace} (h : plainElem (H := Unit) P e v = some (.lit (.bool x), ps)) : v = .bool x := by
  unfold plainElem at h
  rw [he] at h
  cases v <;> simp at h
  rw [h.1]
section
variable {w : World} {ops : Array Oper} {rest : List Oper} {o : Oper} {a : Act} {Q : Exit → Act → World → Prop}
theorem wpl_look (hg : o.guard = none) (m x : Operand) (hop : o.op = Op.lookup 116 m x false) (b n k : Nat) (L : List (List Int)) (hm : a.eval m = .map (some b)) (hown : SetAt w b n k L) (key : Value) (zs : List Int) (hx : a.eval x = key) (hk : key = kyV zs) (hl : zs.length = k) (hw : ∀ z ∈ zs, wf64 z)
    (hK : wpList Try.prog ops Q rest (a.put o.dst (.bool (decide (zs ∈ L)))) w) : wpList Try.prog ops Q (o :: rest) a w := by
  refine wpList_plain hg fun K' hK' => ?_
  obtain ⟨D, h1, h2, h3⟩ := hown
  obtain ⟨v, ps, hrun, hv⟩ := h1.lookup keyK Try.underlying116 (zero_bool w) (plainElem_bool Try.underlying4 false) (key_of hw)
  rw [h3 zs hl hw] at hv
  obtain rfl := plain_bool_inv Try.underlying4 hv
  subst hk
  unfold Oper.wp
  simp [execOp, hop, hm, hx, hrun, Result.andThen]
  exact hK' _ _ hK
theorem wpl_put (hg : o.guard = none) (m x v : Operand) (hop : o.op = Op.mapUpdate 116 m x v) (b n k : Nat) (L : List (List Int)) (hm : a.eval m = .map (some b)) (hown : SetAt w b n k L) (hn : n < maxLen) (key : Value) (zs : List Int) (hx : a.eval x = key) (hk : key = kyV zs) (hl : zs.length = k) (h8 : zs.length ≤ 8) (hw : ∀ z ∈ zs, wf64 z) (hv : a.eval v = .bool true)
    (hK : ∀ w', Hid (SetAt w' b (n + 1) k (L ++ [zs])) → w.grownBy w' (some b) → wpList Try.prog ops Q rest (a.put o.dst undef) w') : wpList Try.prog ops Q (o :: rest) a w := by
  refine wpList_plain hg fun K' hK' => ?_
  obtain ⟨D, h1, h2, h3⟩ := hown
  obtain ⟨w', hrun, r1, r2⟩ := h1.update keyK Try.underlying116 hn (key_of hw) (plainElem_bool Try.underlying4 true)
  subst hk
  unfold Oper.wp
  simp [execOp, hop, hm, hx, hv, hrun, Result.andThen]
  refine hK' _ _ (hK w' (Lib.hid ⟨_, r1, h2.put _ _, fun ys hy1 hy2 => ?_⟩) r2)
  by_cases e : ys = zs
  · subst e
    rw [Go.Maps.atKey_put_same h2 (keyK.key (key_of hw))]
    simp
  · rw [Go.Maps.atKey_put_other (fun z => e (key_inj (by omega) (by omega) hy2 hw z)), h3 ys hy1 hy2]
    simp [e]
end
/-- The eight cells behind a copy. -/
theorem splice_eight {zs : List Int} (h : zs.length ≤ 8) : splice [.int .i64 0, .int .i64 0, .int .i64 0, .int .i64 0, .int .i64 0, .int .i64 0, .int .i64 0, .int .i64 0] 0 (intV zs) = [.int .i64 (nth zs 0), .int .i64 (nth zs 1), .int .i64 (nth zs 2), .int .i64 (nth zs 3), .int .i64 (nth zs 4), .int .i64 (nth zs 5), .int .i64 (nth zs 6), .int .i64 (nth zs 7)] := by
  match zs, h with
  | [], _ => rfl
  | [_], _ => rfl
  | [_, _], _ => rfl
  | [_, _, _], _ => rfl
  | [_, _, _, _], _ => rfl
  | [_, _, _, _, _], _ => rfl
  | [_, _, _, _, _, _], _ => rfl
  | [_, _, _, _, _, _, _], _ => rfl
  | [_, _, _, _, _, _, _, _], _ => rfl
  | _ :: _ :: _ :: _ :: _ :: _ :: _ :: _ :: _ :: _, h => simp at h
end Go.Proofs.Ytjjjgffpmghfgaa
