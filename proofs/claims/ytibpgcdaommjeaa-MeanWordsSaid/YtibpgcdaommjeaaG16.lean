/-
  Worlds: a set of rows of numbers in a map.
  Worlds: do two rows of a table have the same arguments?
  Worlds: what is wrong with a meaning.
  Asks: ask.Check; lists that are the same; the laws that compare.
-/
import Derived.Test.YtibpgcdaommjeaaG03
import Derived.Maps.OwnOps
import Derived.Maps.Views
import Derived.WideKeyPair
import Derived.Laws.CopyOwn
import Derived.Deep.RegionLaw
import Derived.Test.YtibpgcdaommjeaaG13
namespace Go.Proofs.Ytibpgcdaommjeaa
open Go.RowKit

/-- A row of at most eight numbers as a key. -/
def kyV (zs : List Int) : Value := .agg #[.int .i64 (nth zs 0), .int .i64 (nth zs 1), .int .i64 (nth zs 2), .int .i64 (nth zs 3), .int .i64 (nth zs 4), .int .i64 (nth zs 5), .int .i64 (nth zs 6), .int .i64 (nth zs 7)]
def kyL (zs : List Int) : Lit := .string (keyBytes [.int .i64 (nth zs 0), .int .i64 (nth zs 1), .int .i64 (nth zs 2), .int .i64 (nth zs 3), .int .i64 (nth zs 4), .int .i64 (nth zs 5), .int .i64 (nth zs 6), .int .i64 (nth zs 7)])
theorem arrK : WideMaps.ArrKey Try.prog 108 3 8 := ⟨Try.underlying108, by kernel_rfl, by kernel_rfl, by kernel_rfl⟩
theorem keyK : Go.Maps.Keyed Try.prog 108 := Go.Maps.Keyed.of_law arrK.law
theorem some_types : ∃ m, Try.prog.types.size = m + 1 := ⟨Try.prog.types.size - 1, by
  have : 0 < Try.prog.types.size := by decide +kernel
  omega⟩
theorem nth_wf {zs : List Int} (h : ∀ z ∈ zs, wf64 z) (i : Nat) : (Lit.int .i64 (nth zs i)).wf = true := by
  by_cases hi : i < zs.length
  · rw [nth_of hi]; exact h _ (List.getElem_mem hi)
  · rw [nth_past (by omega)]; rfl
theorem keyOf_eight {P : Program} {k e : TypeId} {q : IntKind} (A : WideMaps.ArrKey P k e 8) (he : P.underlying e = some (.int q)) (hsz : ∃ m, P.types.size = m + 1) {a0 a1 a2 a3 a4 a5 a6 a7 : Int} (w0 : (Lit.int q a0).wf = true) (w1 : (Lit.int q a1).wf = true) (w2 : (Lit.int q a2).wf = true) (w3 : (Lit.int q a3).wf = true) (w4 : (Lit.int q a4).wf = true) (w5 : (Lit.int q a5).wf = true) (w6 : (Lit.int q a6).wf = true) (w7 : (Lit.int q a7).wf = true) :
    keyOf P k (.agg #[.int q a0, .int q a1, .int q a2, .int q a3, .int q a4, .int q a5, .int q a6, .int q a7]) = some (.string (keyBytes [.int q a0, .int q a1, .int q a2, .int q a3, .int q a4, .int q a5, .int q a6, .int q a7])) := by
  have hkt := A.keyType hsz
  obtain ⟨m, hm⟩ := hsz
  unfold keyOf
  simp only [A.hu]
  rw [if_pos (by simp [hkt, Value.formed, A.hu, A.size]), hm]
  unfold Program.keyLits
  simp only [A.hu, Value.cells]
  rw [if_pos (by rw [A.size]; rfl), show List.range 8 = [0, 1, 2, 3, 4, 5, 6, 7] from rfl, List.mapM_cons, List.mapM_cons, List.mapM_cons, List.mapM_cons, List.mapM_cons, List.mapM_cons, List.mapM_cons, List.mapM_cons, List.mapM_nil]
  simp [A.one, Program.keyLits, he, w0, w1, w2, w3, w4, w5, w6, w7]
theorem key_of {zs : List Int} (h : ∀ z ∈ zs, wf64 z) : keyOf Try.prog 108 (kyV zs) = some (kyL zs) :=
  keyOf_eight arrK Try.underlying3 some_types (nth_wf h 0) (nth_wf h 1) (nth_wf h 2) (nth_wf h 3) (nth_wf h 4) (nth_wf h 5) (nth_wf h 6) (nth_wf h 7)
theorem key_inj {zs ys : List Int} (hl : zs.length = ys.length) (h8 : zs.length ≤ 8) (hz : ∀ z ∈ zs, wf64 z) (hy : ∀ z ∈ ys, wf64 z) (h : kyL zs = kyL ys) : zs = ys := by
  have := keyK.inj (key_of hz) (by rw [h]; exact key_of hy)
  unfold kyV at this
  simp only [Value.agg.injEq, Array.mk.injEq, List.cons.injEq, Value.int.injEq, true_and, and_true] at this
  obtain ⟨e0, e1, e2, e3, e4, e5, e6, e7⟩ := this
  refine list_same hl (fun j hj => ?_)
  have : j = 0 ∨ j = 1 ∨ j = 2 ∨ j = 3 ∨ j = 4 ∨ j = 5 ∨ j = 6 ∨ j = 7 := by omega
  rcases this with rfl | rfl | rfl | rfl | rfl | rfl | rfl | rfl <;> assumption
/-- A map whose keys are just these rows of m numbers. -/
def SetAt (w : World) (b n m : Nat) (L : List (List Int)) : Prop :=
  ∃ D : DataW Unit, w.ownsMap Try.prog 108 (plainElem Try.prog 4) b n D ∧ Go.Maps.IsMap D ∧ ∀ zs : List Int, zs.length = m → (∀ z ∈ zs, wf64 z) → D.atKey (kyL zs) (.lit (.bool false)) = .lit (.bool (decide (zs ∈ L)))
theorem SetAt.lt {w : World} {b n m : Nat} {L : List (List Int)} (h : SetAt w b n m L) : b < w.heap.size := by
  obtain ⟨D, h1, _⟩ := h
  exact h1.lt
theorem SetAt.below {w w' : World} {b n m : Nat} {L : List (List Int)} (h : SetAt w b n m L) (hb : Below w.heap.size w w') : SetAt w' b n m L := by
  obtain ⟨D, ⟨es, clock, h1, h2, h3⟩, h4⟩ := h
  exact ⟨D, ⟨es, clock, (hb.block b (Array.getElem?_eq_some_iff.1 h1).1).trans h1, h2, h3⟩, h4⟩
theorem set_made (w : World) (m : Nat) : SetAt (w.alloc (.map #[] 0)) w.heap.size 0 m [] := ⟨_, World.ownsMap_made w _ _ _, ⟨[], rfl⟩, fun zs _ _ => by simp [DataW.atKey]⟩
theorem set_ne {w : World} {b n m g t : Nat} {L : List (List Int)} {cs : Array Value} (h : SetAt w b n m L) (k : HB w g t cs) : g ≠ b := by
  obtain ⟨D, ⟨es, clock, h1, _⟩, _⟩ := h
  rintro rfl
  unfold HB at k
  rw [h1] at k
  cases k
theorem zero_bool (w : World) : (zeroValue 4).run Try.prog w = .ok (.bool false) w := by kernel_rfl
theorem plain_bool_inv {P : Program} {e : TypeId} (he : P.underlying e = some .bool) {v : Value} {x : Bool} {ps : List MemPlace} (h : plainElem (H := Unit) P e v = some (.lit (.bool x), ps)) : v = .bool x := by
  unfold plainElem at h
  rw [he] at h
  cases v <;> simp at h
  rw [h.1]
section
variable {w : World} {ops : Array Oper} {rest : List Oper} {o : Oper} {a : Act} {Q : Exit → Act → World → Prop}
theorem wpl_look (hg : o.guard = none) (m x : Operand) (hop : o.op = Op.lookup 107 m x false) (b n k : Nat) (L : List (List Int)) (hm : a.eval m = .map (some b)) (hown : SetAt w b n k L) (key : Value) (zs : List Int) (hx : a.eval x = key) (hk : key = kyV zs) (hl : zs.length = k) (hw : ∀ z ∈ zs, wf64 z)
    (hK : wpList Try.prog ops Q rest (a.put o.dst (.bool (decide (zs ∈ L)))) w) : wpList Try.prog ops Q (o :: rest) a w := by
  refine wpList_plain hg fun K' hK' => ?_
  obtain ⟨D, h1, h2, h3⟩ := hown
  obtain ⟨v, ps, hrun, hv⟩ := h1.lookup keyK Try.underlying107 (zero_bool w) (plainElem_bool Try.underlying4 false) (key_of hw)
  rw [h3 zs hl hw] at hv
  obtain rfl := plain_bool_inv Try.underlying4 hv
  subst hk
  unfold Oper.wp
  simp [execOp, hop, hm, hx, hrun, Result.andThen]
  exact hK' _ _ hK
theorem wpl_put (hg : o.guard = none) (m x v : Operand) (hop : o.op = Op.mapUpdate 107 m x v) (b n k : Nat) (L : List (List Int)) (hm : a.eval m = .map (some b)) (hown : SetAt w b n k L) (hn : n < maxLen) (key : Value) (zs : List Int) (hx : a.eval x = key) (hk : key = kyV zs) (hl : zs.length = k) (h8 : zs.length ≤ 8) (hw : ∀ z ∈ zs, wf64 z) (hv : a.eval v = .bool true)
    (hK : ∀ w', Hid (SetAt w' b (n + 1) k (L ++ [zs])) → w.grownBy w' (some b) → wpList Try.prog ops Q rest (a.put o.dst undef) w') : wpList Try.prog ops Q (o :: rest) a w := by
  refine wpList_plain hg fun K' hK' => ?_
  obtain ⟨D, h1, h2, h3⟩ := hown
  obtain ⟨w', hrun, r1, r2⟩ := h1.update keyK Try.underlying107 hn (key_of hw) (plainElem_bool Try.underlying4 true)
  subst hk
  unfold Oper.wp
  simp [execOp, hop, hm, hx, hv, hrun, Result.andThen]
  refine hK' _ _ (hK w' (Lib.hid ⟨_, r1, h2.put _ _, fun ys hy1 hy2 => ?_⟩) r2)
  by_cases e : ys = zs
  · subst e
    rw [Go.Maps.atKey_put_same h2 (keyK.key (key_of hw))]
    simp
  · rw [Go.Maps.atKey_put_other (fun z => e (key_inj (by omega) (by omega) hy2 hw z)), h3 ys hy1 hy2]
    simp [e]
end
/-- The eight cells behind a copy. -/
theorem splice_eight {zs : List Int} (h : zs.length ≤ 8) : splice [.int .i64 0, .int .i64 0, .int .i64 0, .int .i64 0, .int .i64 0, .int .i64 0, .int .i64 0, .int .i64 0] 0 (intV zs) = [.int .i64 (nth zs 0), .int .i64 (nth zs 1), .int .i64 (nth zs 2), .int .i64 (nth zs 3), .int .i64 (nth zs 4), .int .i64 (nth zs 5), .int .i64 (nth zs 6), .int .i64 (nth zs 7)] := by
  match zs, h with
  | [], _ => rfl
  | [_], _ => rfl
  | [_, _], _ => rfl
  | [_, _, _], _ => rfl
  | [_, _, _, _], _ => rfl
  | [_, _, _, _, _], _ => rfl
  | [_, _, _, _, _, _], _ => rfl
  | [_, _, _, _, _, _, _], _ => rfl
  | [_, _, _, _, _, _, _, _], _ => rfl
  | _ :: _ :: _ :: _ :: _ :: _ :: _ :: _ :: _ :: _, h => simp at h
end Go.Proofs.Ytibpgcdaommjeaa
namespace Go.Proofs.Ytibpgcdaommjeaa
open Go.RowKit

theorem below_down {B B' : Nat} {a b : World} (h : Below B a b) (hB : B' ≤ B) : Below B' a b := h.mono hB
/-- What stands while rows are looked at for one that is there twice. -/
def TwI (base : Nat) (w0 : World) (gs b n m : Nat) (L : List (List Int)) (W : World) : Prop := Below base w0 W ∧ base ≤ gs ∧ base ≤ b ∧ HB W gs 107 #[.map (some b)] ∧ SetAt W b n m L
theorem TwI.below {base gs b n m : Nat} {w0 W W' : World} {L : List (List Int)} (h : TwI base w0 gs b n m L W) (hb : Below W.heap.size W W') : TwI base w0 gs b n m L W' := by
  obtain ⟨h1, h2, h3, h4, h5⟩ := h
  have := h4.lt
  exact ⟨h1.trans (hb.mono (by omega)), h2, h3, h4.below hb, h5.below hb⟩
theorem TwI.grown {base gs b n n' m : Nat} {w0 W W' : World} {L L' : List (List Int)} (h : TwI base w0 gs b n m L W) (hg : W.grownBy W' (some b)) (hs : SetAt W' b n' m L') : TwI base w0 gs b n' m L' W' := by
  obtain ⟨h1, h2, h3, h4, h5⟩ := h
  have hl := h4.lt
  refine ⟨h1.grown hg (by omega) (fun j hj => by injection hj with hj; omega), h2, h3, ?_, hs⟩
  exact h4.grown hg (by have := set_ne h5 h4; simpa using this)
theorem enters_tw1 : Enters 69 := fun _ _ => by kernel_rfl
set_option maxRecDepth 100000 in
set_option maxHeartbeats 4000000 in
theorem tw1_any (base gs b n m : Nat) (w0 : World) (L : List (List Int)) (q : En) (Aa Ac : Option Addr) (ca cc : Nat) (hm : q.args.length = m) (h8 : m ≤ 8) (hwf : ∀ z ∈ q.args, wf64 z) (hn : n < maxLen) (W : World) (hI : TwI base w0 gs b n m L W) (hq : enI W q Aa ca Ac cc) :
    Calls Try.prog 69 (#[enV q Aa ca Ac cc] ++ #[.pointer (some ⟨gs, 0, none⟩)]) W fun e w' => e = .returned (.bool (decide (q.args ∈ L))) ∧ TwI base w0 gs b (n + 1) m (L ++ [q.args]) w' := by
  show Calls Try.prog 69 #[.agg #[.slice Aa q.args.length ca, .int .i64 q.too.num, .int .i64 q.too.den, .slice Ac q.too.cells.length cc, .int .i64 q.too.rest], .pointer (some ⟨gs, 0, none⟩)] W _
  obtain ⟨⟨ha1, ha2, ha3⟩, _⟩ := hq
  have HI := Lib.hid hI
  have HWF := Lib.hid hwf
  have HM := Lib.hid hm
  have HN := Lib.hid hn
  have l0 := hI.2.2.2.1.lt
  have HS8 := Lib.hid (splice_eight (zs := q.args) (by omega))
  have HCS : Hid ((intV q.args).length = m ∧ (∀ v ∈ intV q.args, v.oneCell' = true) ∧ (0 < m → ∃ ad : Addr, Aa = some ad ∧ ∀ W', Below W.heap.size W W' → ∀ j v, (intV q.args)[j]? = some v → W'.cell? (ad.add j) = some v)) := Lib.hid (by
    refine ⟨by simp [intV, hm], fun v hv => ?_, fun hp => ?_⟩
    · simp [intV] at hv
      obtain ⟨z, _, rfl⟩ := hv
      rfl
    · obtain ⟨b1, o1, e1, hb1, hc1⟩ := ha3 (by omega)
      refine ⟨⟨b1, o1, none⟩, e1, fun W' hW' j v hj => ?_⟩
      have hjl : j < q.args.length := by
        rcases Nat.lt_or_ge j q.args.length with z | z
        · exact z
        · rw [List.getElem?_eq_none (by simpa [intV] using z)] at hj; cases hj
      rw [Go.WideShapes.add_plain]
      rw [hW'.cell (p := ⟨b1, o1 + j, none⟩) hb1, hc1 j hjl]
      rw [← hj]
      simp [intV, nth, List.getD, hjl])
  have HK0 : Hid (Value.agg #[.int .i64 (nth q.args 0), .int .i64 (nth q.args 1), .int .i64 (nth q.args 2), .int .i64 (nth q.args 3), .int .i64 (nth q.args 4), .int .i64 (nth q.args 5), .int .i64 (nth q.args 6), .int .i64 (nth q.args 7)] = kyV q.args) := Lib.hid rfl
  have NW0 := Lib.hid (HB.new1 W (.cells #[.slice Aa q.args.length ca, .int .i64 q.too.num, .int .i64 q.too.den, .slice Ac q.too.cells.length cc, .int .i64 q.too.rest] 57) 108 #[.int .i64 0, .int .i64 0, .int .i64 0, .int .i64 0, .int .i64 0, .int .i64 0, .int .i64 0, .int .i64 0])
  clear ha3 hI hwf hn
  unfold maxLen at ha2
  rw [hm] at ha1 NW0 ⊢
  clear hm
  generalize hcs : intV q.args = cs at *
  clear hcs
  generalize nth q.args 0 = k0 at *
  generalize nth q.args 1 = k1 at *
  generalize nth q.args 2 = k2 at *
  generalize nth q.args 3 = k3 at *
  generalize nth q.args 4 = k4 at *
  generalize nth q.args 5 = k5 at *
  generalize nth q.args 6 = k6 at *
  generalize nth q.args 7 = k7 at *
  generalize q.args = zs at *
  generalize q.too.cells.length = cl at *
  generalize q.too.num = vn at *
  generalize q.too.den = vd at *
  generalize q.too.rest = vr at *
  have BW0 := Lib.hid (((Below.refl W.heap.size W).alloc (Nat.le_refl _) (.cells #[.slice Aa m ca, .int .i64 vn, .int .i64 vd, .slice Ac cl cc, .int .i64 vr] 57)).alloc (by simp) (.cells #[.int .i64 0, .int .i64 0, .int .i64 0, .int .i64 0, .int .i64 0, .int .i64 0, .int .i64 0, .int .i64 0] 108))
  go_enter Try.func69, Try.ntmps69
  go_wp2_with fail
  have NW1 : Hid (((W.alloc (.cells #[.slice Aa m ca, .int .i64 vn, .int .i64 vd, .slice Ac cl cc, .int .i64 vr] 57)).alloc (.cells #[.int .i64 0, .int .i64 0, .int .i64 0, .int .i64 0, .int .i64 0, .int .i64 0, .int .i64 0, .int .i64 0] 108)).drew.heap[W.heap.size + 1]? = some (.cells [Value.int .i64 0, .int .i64 0, .int .i64 0, .int .i64 0, .int .i64 0, .int .i64 0, .int .i64 0, .int .i64 0].toArray 108 (0, 0))) := NW0
  have HPOS : Hid (0 < cs.length → (some ⟨W.heap.size + 1, 0, none⟩ : Option Addr) = some ⟨W.heap.size + 1, 0, none⟩ ∧ ∃ ad, Aa = some ad ∧ ∀ (j : Nat) (v : Value), cs[j]? = some v → ((W.alloc (.cells #[.slice Aa m ca, .int .i64 vn, .int .i64 vd, .slice Ac cl cc, .int .i64 vr] 57)).alloc (.cells #[.int .i64 0, .int .i64 0, .int .i64 0, .int .i64 0, .int .i64 0, .int .i64 0, .int .i64 0, .int .i64 0] 108)).drew.cell? (ad.add j) = some v) := Lib.hid (fun hp => by
    obtain ⟨ad, h1, h2⟩ := HCS.out.2.2 (by rw [← HCS.out.1]; exact hp)
    exact ⟨rfl, ad, h1, h2 _ BW0.out.drew⟩)
  have HMIN : Hid (cs.length = Nat.min m 8) := Lib.hid (by rw [HCS.out.1]; exact (Nat.min_eq_left h8).symm)
  have HFIT : Hid (0 + cs.length ≤ [Value.int .i64 0, .int .i64 0, .int .i64 0, .int .i64 0, .int .i64 0, .int .i64 0, .int .i64 0, .int .i64 0].length) := Lib.hid (by rw [HCS.out.1]; simp; omega)
  go_region_law (refine step_copy_splice rfl (.tmp 6) (.tmp 8) 22 22 rfl 3 Try.underlying22 (by kernel_rfl) _ _ _ _ _ _ rfl rfl (W.heap.size + 1) 0 [.int .i64 0, .int .i64 0, .int .i64 0, .int .i64 0, .int .i64 0, .int .i64 0, .int .i64 0, .int .i64 0] 108 NW1.out cs HMIN.out HPOS.out HFIT.out HCS.out.2.1 (W.heap.size + 1) _ (Below.refl _ _) (Nat.le_refl _) ?_; intro w3 hg3 hb3)
  have G3 : Hid (HB w3 (W.heap.size + 1) 108 #[.int .i64 k0, .int .i64 k1, .int .i64 k2, .int .i64 k3, .int .i64 k4, .int .i64 k5, .int .i64 k6, .int .i64 k7]) := Lib.hid (by
    have := hg3.out
    rw [HS8.out] at this
    exact this)
  have B3 : Hid (Below W.heap.size W w3) := Lib.hid (BW0.out.drew.trans (hb3.mono (by omega)))
  have I3 := Lib.hid (HI.out.below B3.out)
  clear hg3 hb3 NW1 HPOS HMIN HFIT NW0 BW0 HCS HS8
  obtain ⟨q0, q1⟩ := I3.out.2.2.2.1.one
  have lq := I3.out.2.2.2.1.lt
  have c0 := G3.out.cell 0
  have c1 := G3.out.cell 1
  have c2 := G3.out.cell 2
  have c3 := G3.out.cell 3
  have c4 := G3.out.cell 4
  have c5 := G3.out.cell 5
  have c6 := G3.out.cell 6
  have c7 := G3.out.cell 7
  have lg := G3.out.lt
  simp at c0 c1 c2 c3 c4 c5 c6 c7
  have H8 : Hid (zs.length ≤ 8) := Lib.hid (by have := HM.out; omega)
  go_wp2_with (first | (at_lookup; refine wpl_look rfl _ _ rfl b n m L rfl I3.out.2.2.2.2 _ zs rfl HK0.out HM.out HWF.out ?_) | (at_mapUpdate; refine wpl_put rfl _ _ _ rfl b n m L rfl I3.out.2.2.2.2 HN.out _ zs rfl HK0.out HM.out H8.out HWF.out rfl ?_; intro w5 hs5 hg5))
  have I5 : Hid (TwI base w0 gs b (n + 1) m (L ++ [zs]) w5) := Lib.hid (I3.out.grown hg5 hs5.out)
  clear hg5 hs5 q0 q1 lq c0 c1 c2 c3 c4 c5 c6 c7
  go_wp2_with fail
  go_ret
  exact ⟨rfl, I5.out⟩
/-- The arguments of the first rows. -/
def argL (es : List En) (i : Nat) : List (List Int) := (es.take i).map (·.args)
theorem argL_succ {es : List En} {i : Nat} (h : i < es.length) : argL es (i + 1) = argL es i ++ [(en es i).args] := by
  unfold argL en
  rw [List.take_succ_eq_append_getElem h, List.map_append]
  simp [List.getD, h]
/-- Two rows have the same arguments. -/
def twB (es : List En) : Bool := (List.range es.length).any fun i => decide ((en es i).args ∈ argL es i)
set_option maxHeartbeats 2000000 in
theorem twice_any (es : List En) (A : Option Addr) (c m : Nat) (hl : es.length < maxLen) (h8 : m ≤ 8) (hm : ∀ i, i < es.length → (en es i).args.length = m) (hwf : ∀ i, i < es.length → ∀ z ∈ (en es i).args, wf64 z) (w : World) (h : EsAt w A es) :
    Calls Try.prog 44 #[.slice A es.length c] w fun e w' => e = .returned (.bool (twB es)) ∧ Below w.heap.size w w' := by
  have HX : Hid (∀ W, TwI w.heap.size w (w.heap.size + 1) w.heap.size 0 m [] W → Calls Try.prog 39 #[.slice A es.length c, .func (.func 69) #[] #[.pointer (some ⟨w.heap.size + 1, 0, none⟩)]] W fun e w' => e = .returned (.bool (twB es)) ∧ Below w.heap.size w w') := Lib.hid (fun W hW => by
    refine (conten_any enters_tw1 es A c #[.pointer (some ⟨w.heap.size + 1, 0, none⟩)] (fun i => decide ((en es i).args ∈ argL es i)) (fun i W => TwI w.heap.size w (w.heap.size + 1) w.heap.size i m (argL es i) W) (by omega) (fun i W hW => h.below hW.1) (fun i W Aa ca Ac cc hi hW hq => ?_) W hW).mono ?_
    · have := tw1_any w.heap.size (w.heap.size + 1) w.heap.size i m w (argL es i) (en es i) Aa Ac ca cc (hm i hi) h8 (hwf i hi) (by omega) W hW hq
      rw [argL_succ hi]
      exact this
    · rintro e w' ⟨r, rfl, hr⟩
      rcases hr.out with ⟨i, h1, h2, h3, h4, h5⟩ | ⟨h1, h2, h3⟩
      · subst h4
        refine ⟨ret_bool ?_, h5.1⟩
        unfold twB
        exact (List.any_eq_true.2 ⟨i, List.mem_range.2 h1, h2⟩).symm
      · subst h2
        refine ⟨ret_bool ?_, h3.1⟩
        unfold twB
        exact (List.any_eq_false.2 (fun i hi => by have := h1 i (List.mem_range.1 hi); simp only at this; rw [this]; simp)).symm)
  have HS := Lib.hid (set_made w m)
  clear hl hm hwf h
  generalize es.length = L at *
  generalize twB es = r at *
  have hmm := @run_makeMap Try.prog
  go_enter Try.func44, Try.ntmps44
  go_wp2_with fail
  have HI : Hid (TwI w.heap.size w (w.heap.size + 1) w.heap.size 0 m [] ((w.alloc (.map #[] 0)).alloc (.cells #[.map (some w.heap.size)] 107))) := Lib.hid ⟨((Below.refl _ _).alloc (Nat.le_refl _) _).alloc (by simp) _, by omega, Nat.le_refl _, by simpa using HB.new (w.alloc (.map #[] 0)) 107 #[.map (some w.heap.size)], HS.out.below (new_below _ _)⟩
  refine (HX.out _ HI.out).mono ?_
  rintro e w1 ⟨rfl, hb1⟩
  have HB1 := Lib.hid hb1
  clear hb1
  go_wp2_with fail
  go_ret
  exact ⟨rfl, HB1.out⟩
end Go.Proofs.Ytibpgcdaommjeaa
namespace Go.Proofs.Ytibpgcdaommjeaa
open Go.RowKit

theorem held_any {es : List En} {q : En → Bool} {I : Nat → World → Prop} {r : Bool} {w : World} (h : Held es.length (fun i => q (en es i)) I r w) : r = es.any q ∧ ∃ i, I i w := by
  rcases h with ⟨i, h1, h2, h3, h4, h5⟩ | ⟨h1, h2, h3⟩
  · refine ⟨?_, _, h5⟩
    rw [h4]
    refine (List.any_eq_true.2 ⟨en es i, ?_, h2⟩).symm
    simp [en, List.getD, h1]
  · refine ⟨?_, _, h3⟩
    rw [h2]
    refine (List.any_eq_false.2 (fun x hx => ?_)).symm
    obtain ⟨j, hj, rfl⟩ := List.getElem_of_mem hx
    have := h1 j hj
    simp only [en, List.getD, List.getElem?_eq_getElem hj, Option.getD_some] at this
    rw [this]
    simp
/-- Is there a row of which a function value tells true? -/
theorem some_any {fid : Nat} (hc : Enters fid) (es : List En) (A : Option Addr) (c : Nat) (caps : Array Value) (q : En → Bool) (C : World → Prop) (hC : ∀ W W', C W → Below W.heap.size W W' → C W') (hl : es.length ≤ maxLen)
    (H : ∀ i W Aa ca Ac cc, i < es.length → C W → enI W (en es i) Aa ca Ac cc → Calls Try.prog fid (#[enV (en es i) Aa ca Ac cc] ++ caps) W fun e w' => e = .returned (.bool (q (en es i))) ∧ Below W.heap.size W w')
    (g3 : Nat) (v1 v2 v3 v4 : Value) (w : World) (hw : C w) (h : EsAt w A es) (hg : HB w g3 53 #[.slice A es.length c, v1, v2, v3, v4]) :
    Calls Try.prog 38 #[.func (.func fid) #[] caps, .pointer (some ⟨g3, 0, none⟩)] w fun e w' => e = .returned (.bool (es.any q)) ∧ Below w.heap.size w w' := by
  have HX : Hid (Calls Try.prog 39 #[.slice A es.length c, .func (.func fid) #[] caps] w fun e w' => e = .returned (.bool (es.any q)) ∧ Below w.heap.size w w') := Lib.hid (by
    refine (conten_any hc es A c caps (fun i => q (en es i)) (fun _ W => C W ∧ Below w.heap.size w W) hl (fun i W hW => h.below hW.2) (fun i W Aa ca Ac cc hi hW hq => (H i W Aa ca Ac cc hi hW.1 hq).mono fun e w' ⟨h1, h2⟩ => ⟨h1, hC _ _ hW.1 h2, bw_below (Nat.le_refl _) hW.2 h2⟩) w ⟨hw, Below.refl _ _⟩).mono ?_
    rintro e w' ⟨r, rfl, hr⟩
    obtain ⟨h1, i, h2⟩ := held_any hr.out
    exact ⟨ret_bool h1, h2.2⟩)
  obtain ⟨c0, _⟩ := HB.five hg
  clear hc hC hl H hw h hg
  generalize es.length = L at *
  generalize es.any q = r at *
  go_enter Try.func38, Try.ntmps38
  go_wp2_with fail
  refine HX.out.mono ?_
  rintro e w1 ⟨rfl, hb1⟩
  have HB1 := Lib.hid hb1
  clear hb1
  go_wp2_with fail
  go_ret
  exact ⟨rfl, HB1.out⟩
theorem enters_wm2 : Enters 40 := fun _ _ => by kernel_rfl
theorem enters_wm3 : Enters 41 := fun _ _ => by kernel_rfl
theorem enters_wm4 : Enters 46 := fun _ _ => by kernel_rfl
theorem enters_isno : Enters 43 := fun _ _ => by kernel_rfl
theorem wm2_any (q : En) (Aa Ac Ad : Option Addr) (ca cc dl dc g2 : Nat) (v0 v2 : Value) (hd : dl ≤ maxLen) (W : World) (hq : enI W q Aa ca Ac cc) (hg : HB W g2 45 #[v0, .slice Ad dl dc, v2]) :
    Calls Try.prog 40 (#[enV q Aa ca Ac cc] ++ #[.pointer (some ⟨g2, 0, none⟩)]) W fun e w' => e = .returned (.bool (!decide (q.args.length = dl))) ∧ Below W.heap.size W w' := by
  show Calls Try.prog 40 #[.agg #[.slice Aa q.args.length ca, .int .i64 q.too.num, .int .i64 q.too.den, .slice Ac q.too.cells.length cc, .int .i64 q.too.rest], .pointer (some ⟨g2, 0, none⟩)] W _
  obtain ⟨⟨ha1, ha2, _⟩, hc1, hc2, _⟩ := hq
  obtain ⟨c0, c1, c2, _⟩ := hg.three
  have lg := hg.lt
  clear hg
  unfold maxLen at ha2 hc2 hd
  generalize q.args.length = al at *
  generalize q.too.cells.length = cl at *
  generalize q.too.num = vn at *
  generalize q.too.den = vd at *
  generalize q.too.rest = vr at *
  by_cases h : al = dl
  · subst h
    go_enter Try.func40, Try.ntmps40
    go_wp2_with fail
    go_ret
    exact ⟨by simp, new_below _ _⟩
  · have d1 : ((al : Int) != dl) = true := by simp; omega
    have HD : Hid ((!decide (al = dl)) = true) := Lib.hid (by simp [h])
    clear h
    go_enter Try.func40, Try.ntmps40
    go_wp2_with fail
    go_ret
    exact ⟨by rw [HD.out]; rfl, new_below _ _⟩
theorem wm3_any (q : En) (Aa Ac : Option Addr) (ca cc : Nat) (W : World) (hq : enI W q Aa ca Ac cc) :
    Calls Try.prog 41 (#[enV q Aa ca Ac cc] ++ #[]) W fun e w' => e = .returned (.bool (q.args.any nTh)) ∧ Below W.heap.size W w' := by
  show Calls Try.prog 41 #[.agg #[.slice Aa q.args.length ca, .int .i64 q.too.num, .int .i64 q.too.den, .slice Ac q.too.cells.length cc, .int .i64 q.too.rest]] W _
  obtain ⟨⟨ha1, ha2, ha3⟩, hc1, hc2, _⟩ := hq
  have HX := Lib.hid (contint_any enters_isno q.args Aa ca #[] nTh (fun _ => True) (fun _ _ _ _ => trivial) (by omega) (fun i W _ _ => (nothing_any (nth q.args i) W).mono fun e w' ⟨h1, h2⟩ => ⟨h1, by subst h2; exact Below.refl _ _⟩) (W.alloc (.cells #[.slice Aa q.args.length ca, .int .i64 q.too.num, .int .i64 q.too.den, .slice Ac q.too.cells.length cc, .int .i64 q.too.rest] 57)) (ha3.below (new_below _ _)) trivial)
  clear ha3
  unfold maxLen at ha2 hc2
  generalize q.args.any nTh = r at *
  generalize q.args.length = al at *
  generalize q.too.cells.length = cl at *
  generalize q.too.num = vn at *
  generalize q.too.den = vd at *
  generalize q.too.rest = vr at *
  go_enter Try.func41, Try.ntmps41
  go_wp2_with fail
  refine HX.out.mono ?_
  rintro e w1 ⟨rfl, hb1⟩
  have HB1 := Lib.hid (below_after (new_below W _) hb1)
  clear hb1
  go_wp2_with fail
  go_ret
  exact ⟨rfl, HB1.out⟩
theorem wm4_any (so : Int) (q : En) (Aa Ac : Option Addr) (ca cc g2 : Nat) (v0 v1 : Value) (hs : okSo so) (W : World) (hq : enI W q Aa ca Ac cc) (hg : HB W g2 45 #[v0, v1, .int .i64 so]) :
    Calls Try.prog 46 (#[enV q Aa ca Ac cc] ++ #[.pointer (some ⟨g2, 0, none⟩)]) W fun e w' => e = .returned (.bool (!gdV so q.too)) ∧ Below W.heap.size W w' := by
  show Calls Try.prog 46 #[.agg #[.slice Aa q.args.length ca, .int .i64 q.too.num, .int .i64 q.too.den, .slice Ac q.too.cells.length cc, .int .i64 q.too.rest], .pointer (some ⟨g2, 0, none⟩)] W _
  obtain ⟨⟨ha1, ha2, _⟩, hc1, hc2, hc3⟩ := hq
  obtain ⟨c0, c1, c2, _⟩ := hg.three
  have lg := hg.lt
  have HX := Lib.hid (isvalue_any so q.too Ac cc hs (by omega) (W.alloc (.cells #[.slice Aa q.args.length ca, .int .i64 q.too.num, .int .i64 q.too.den, .slice Ac q.too.cells.length cc, .int .i64 q.too.rest] 57)) (hc3.below (new_below _ _)))
  clear hg hs hc3
  unfold maxLen at ha2 hc2
  generalize gdV so q.too = r at *
  generalize q.args.length = al at *
  generalize q.too.cells.length = cl at *
  generalize q.too.num = vn at *
  generalize q.too.den = vd at *
  generalize q.too.rest = vr at *
  go_enter Try.func46, Try.ntmps46
  go_wp2_with fail
  refine HX.out.mono ?_
  rintro e w1 ⟨rfl, hb1⟩
  have HB1 := Lib.hid (below_after (new_below W _) hb1)
  clear hb1
  go_wp2_with fail
  go_ret
  exact ⟨rfl, HB1.out⟩
/-- What is wrong with a meaning of a name that wants so many things, and is of a sort. -/
def mgC (dl : Nat) (so : Int) (m : Mg) : Int :=
  if 1000 < m.rows.length ∨ (m.rows.any fun e => !decide (e.args.length = dl)) = true then 9 else if (m.rows.any fun e => e.args.any nTh) = true then 3 else if twB m.rows = true then 7 else if gdV so m.rest = false ∨ (m.rows.any fun e => !gdV so e.too) = true then 8 else 0
theorem mgc_9a {dl : Nat} {so : Int} {m : Mg} (h : 1000 < m.rows.length) : mgC dl so m = 9 := by unfold mgC; rw [if_pos (.inl h)]
theorem mgc_9b {dl : Nat} {so : Int} {m : Mg} (h : (m.rows.any fun e => !decide (e.args.length = dl)) = true) : mgC dl so m = 9 := by unfold mgC; rw [if_pos (.inr h)]
theorem mgc_r {dl : Nat} {so : Int} {m : Mg} (h1 : ¬ 1000 < m.rows.length) (h2 : (m.rows.any fun e => !decide (e.args.length = dl)) = false) :
    mgC dl so m = if (m.rows.any fun e => e.args.any nTh) = true then 3 else if twB m.rows = true then 7 else if gdV so m.rest = false ∨ (m.rows.any fun e => !gdV so e.too) = true then 8 else 0 := by
  unfold mgC
  rw [if_neg (by rw [h2]; simp; omega)]
set_option maxHeartbeats 8000000 in
theorem wrongmeaning_any (nm : ByteArray) (ds : List Int) (Ad A Ac : Option Addr) (dc c cc : Nat) (so : Int) (m : Mg) (hs : okSo so) (hd1 : ds.length ≤ dc) (hd2 : dc ≤ maxLen) (h8 : ds.length ≤ 8) (hl1 : m.rows.length ≤ c) (hl2 : c ≤ maxLen) (hc1 : m.rest.cells.length ≤ cc) (hc2 : cc ≤ maxLen) (hwf : m.wf) (w : World) (h : EsAt w A m.rows) (hcs : CsAt w Ac m.rest.cells) :
    Calls Try.prog 20 #[.agg #[.string nm, .slice Ad ds.length dc, .int .i64 so], .agg #[.slice A m.rows.length c, .int .i64 m.rest.num, .int .i64 m.rest.den, .slice Ac m.rest.cells.length cc, .int .i64 m.rest.rest]] w fun e w' => e = .returned (.int .i64 (mgC ds.length so m)) ∧ Below w.heap.size w w' := by
  have HH := Lib.hid h
  have HCS := Lib.hid hcs
  have NB0 : Hid (Below w.heap.size w ((w.alloc (.cells #[.string nm, .slice Ad ds.length dc, .int .i64 so] 45)).alloc (.cells #[.slice A m.rows.length c, .int .i64 m.rest.num, .int .i64 m.rest.den, .slice Ac m.rest.cells.length cc, .int .i64 m.rest.rest] 53))) := Lib.hid (((Below.refl _ _).alloc (Nat.le_refl _) _).alloc (by simp) _)
  have ND0 : Hid (HB ((w.alloc (.cells #[.string nm, .slice Ad ds.length dc, .int .i64 so] 45)).alloc (.cells #[.slice A m.rows.length c, .int .i64 m.rest.num, .int .i64 m.rest.den, .slice Ac m.rest.cells.length cc, .int .i64 m.rest.rest] 53)) w.heap.size 45 #[.string nm, .slice Ad ds.length dc, .int .i64 so]) := Lib.hid ((HB.new _ _ _).alloc _)
  have NM0 : Hid (HB ((w.alloc (.cells #[.string nm, .slice Ad ds.length dc, .int .i64 so] 45)).alloc (.cells #[.slice A m.rows.length c, .int .i64 m.rest.num, .int .i64 m.rest.den, .slice Ac m.rest.cells.length cc, .int .i64 m.rest.rest] 53)) (w.heap.size + 1) 53 #[.slice A m.rows.length c, .int .i64 m.rest.num, .int .i64 m.rest.den, .slice Ac m.rest.cells.length cc, .int .i64 m.rest.rest]) := Lib.hid (HB.new1 _ _ _ _)
  have S2 : Hid (∀ W, Below w.heap.size w W → HB W w.heap.size 45 #[.string nm, .slice Ad ds.length dc, .int .i64 so] → HB W (w.heap.size + 1) 53 #[.slice A m.rows.length c, .int .i64 m.rest.num, .int .i64 m.rest.den, .slice Ac m.rest.cells.length cc, .int .i64 m.rest.rest] → Calls Try.prog 38 #[.func (.func 40) #[] #[.pointer (some ⟨w.heap.size, 0, none⟩)], .pointer (some ⟨w.heap.size + 1, 0, none⟩)] W fun e w' => e = .returned (.bool (m.rows.any fun e => !decide (e.args.length = ds.length))) ∧ Below W.heap.size W w') := Lib.hid (fun W hb hd hm =>
    some_any enters_wm2 m.rows A c #[.pointer (some ⟨w.heap.size, 0, none⟩)] (fun e => !decide (e.args.length = ds.length)) (fun W => HB W w.heap.size 45 #[.string nm, .slice Ad ds.length dc, .int .i64 so]) (fun _ _ h1 h2 => h1.below h2) (by omega) (fun i W Aa ca Ac cc hi hC hq => wm2_any (en m.rows i) Aa Ac Ad ca cc ds.length dc w.heap.size _ _ (by omega) W hq hC) (w.heap.size + 1) _ _ _ _ W hd (h.below hb) hm)
  have S3 : Hid (∀ W, Below w.heap.size w W → HB W (w.heap.size + 1) 53 #[.slice A m.rows.length c, .int .i64 m.rest.num, .int .i64 m.rest.den, .slice Ac m.rest.cells.length cc, .int .i64 m.rest.rest] → Calls Try.prog 38 #[.func (.func 41) #[] #[], .pointer (some ⟨w.heap.size + 1, 0, none⟩)] W fun e w' => e = .returned (.bool (m.rows.any fun e => e.args.any nTh)) ∧ Below W.heap.size W w') := Lib.hid (fun W hb hm =>
    some_any enters_wm3 m.rows A c #[] (fun e => e.args.any nTh) (fun _ => True) (fun _ _ _ _ => trivial) (by omega) (fun i W Aa ca Ac cc hi hC hq => wm3_any (en m.rows i) Aa Ac ca cc W hq) (w.heap.size + 1) _ _ _ _ W trivial (h.below hb) hm)
  have S4 : Hid (∀ W, Below w.heap.size w W → HB W w.heap.size 45 #[.string nm, .slice Ad ds.length dc, .int .i64 so] → HB W (w.heap.size + 1) 53 #[.slice A m.rows.length c, .int .i64 m.rest.num, .int .i64 m.rest.den, .slice Ac m.rest.cells.length cc, .int .i64 m.rest.rest] → Calls Try.prog 38 #[.func (.func 46) #[] #[.pointer (some ⟨w.heap.size, 0, none⟩)], .pointer (some ⟨w.heap.size + 1, 0, none⟩)] W fun e w' => e = .returned (.bool (m.rows.any fun e => !gdV so e.too)) ∧ Below W.heap.size W w') := Lib.hid (fun W hb hd hm =>
    some_any enters_wm4 m.rows A c #[.pointer (some ⟨w.heap.size, 0, none⟩)] (fun e => !gdV so e.too) (fun W => HB W w.heap.size 45 #[.string nm, .slice Ad ds.length dc, .int .i64 so]) (fun _ _ h1 h2 => h1.below h2) (by omega) (fun i W Aa ca Ac cc hi hC hq => wm4_any so (en m.rows i) Aa Ac ca cc w.heap.size _ _ hs W hq hC) (w.heap.size + 1) _ _ _ _ W hd (h.below hb) hm)
  have S5 : Hid (∀ W, Below w.heap.size w W → (m.rows.any fun e => !decide (e.args.length = ds.length)) = false → m.rows.length ≤ 1000 → Calls Try.prog 44 #[.slice A m.rows.length c] W fun e w' => e = .returned (.bool (twB m.rows)) ∧ Below W.heap.size W w') := Lib.hid (fun W hb h2 h3 =>
    twice_any m.rows A c ds.length (by unfold maxLen; omega) h8 (fun i hi => by
      have := List.any_eq_false.1 h2 (en m.rows i) (by simp [en, List.getD, hi])
      simpa using this) (fun i hi => (hwf.1 (en m.rows i) (by simp [en, List.getD, hi])).1) W (h.below hb))
  have S6 : Hid (∀ W, Below w.heap.size w W → Calls Try.prog 45 #[.int .i64 so, .agg #[.int .i64 m.rest.num, .int .i64 m.rest.den, .slice Ac m.rest.cells.length cc, .int .i64 m.rest.rest]] W fun e w' => e = .returned (.bool (gdV so m.rest)) ∧ Below W.heap.size W w') := Lib.hid (fun W hb => isvalue_any so m.rest Ac cc hs (by omega) W (hcs.below hb))
  have E1 : Hid (1000 < m.rows.length → mgC ds.length so m = 9) := Lib.hid mgc_9a
  have E2 : Hid ((m.rows.any fun e => !decide (e.args.length = ds.length)) = true → mgC ds.length so m = 9) := Lib.hid mgc_9b
  have E3 : Hid (¬ 1000 < m.rows.length → (m.rows.any fun e => !decide (e.args.length = ds.length)) = false → mgC ds.length so m = if (m.rows.any fun e => e.args.any nTh) = true then 3 else if twB m.rows = true then 7 else if gdV so m.rest = false ∨ (m.rows.any fun e => !gdV so e.too) = true then 8 else 0) := Lib.hid mgc_r
  clear h hcs hwf hs h8
  unfold maxLen at hd2 hl2 hc2
  generalize mgC ds.length so m = r at *
  generalize gdV so m.rest = b1 at *
  generalize twB m.rows = b2 at *
  generalize (m.rows.any fun e => !decide (e.args.length = ds.length)) = b3 at *
  generalize (m.rows.any fun e => e.args.any nTh) = b4 at *
  generalize (m.rows.any fun e => !gdV so e.too) = b5 at *
  generalize m.rows.length = rl at *
  generalize m.rest.cells.length = cl at *
  generalize m.rest.num = vn at *
  generalize m.rest.den = vd at *
  generalize m.rest.rest = vr at *
  generalize ds.length = dl at *
  by_cases h1 : 1000 < rl
  · have t1 : decide ((1000 : Int) < rl) = true := by simp; omega
    have HR := Lib.hid (E1.out h1)
    go_enter Try.func20, Try.ntmps20
    go_wp2_with fail
    go_ret
    exact ⟨by rw [HR.out]; rfl, NB0.out⟩
  · have t1 : decide ((1000 : Int) < rl) = false := by simp; omega
    have HR1 := Lib.hid (E3.out h1)
    have H10 := Lib.hid h1
    clear E1 E3 h1
    go_enter Try.func20, Try.ntmps20
    go_wp2_with fail
    refine (S2.out _ NB0.out ND0.out NM0.out).mono ?_
    rintro e w1 ⟨rfl, hb1⟩
    have NB1 := Lib.hid (below_after NB0.out hb1)
    have ND1 := Lib.hid (ND0.out.below hb1)
    have NM1 := Lib.hid (NM0.out.below hb1)
    clear hb1 NB0 ND0 NM0 S2
    cases hb : b3 with
    | true =>
      have HR := Lib.hid (E2.out hb)
      clear hb HR1 E2
      go_wp2_with fail
      go_ret
      exact ⟨by rw [HR.out]; rfl, NB1.out⟩
    | false =>
      have HR2 := Lib.hid (HR1.out hb)
      have HB3 := Lib.hid hb
      clear hb HR1 E2
      go_wp2_with fail
      refine (S3.out _ NB1.out NM1.out).mono ?_
      rintro e w2 ⟨rfl, hb2⟩
      have NB2 := Lib.hid (below_after NB1.out hb2)
      have ND2 := Lib.hid (ND1.out.below hb2)
      have NM2 := Lib.hid (NM1.out.below hb2)
      clear hb2 NB1 ND1 NM1 S3
      cases hb : b4 with
      | true =>
        have HR : Hid (r = 3) := Lib.hid (by rw [HR2.out, hb]; rfl)
        clear hb HR2
        go_wp2_with fail
        go_ret
        exact ⟨by rw [HR.out]; rfl, NB2.out⟩
      | false =>
        have HR3 : Hid (r = if b2 = true then 7 else if b1 = false ∨ b5 = true then 8 else 0) := Lib.hid (by rw [HR2.out, hb]; rfl)
        have X5 := Lib.hid (S5.out _ NB2.out HB3.out (by have := H10.out; omega))
        clear hb HR2 S5
        obtain ⟨c0, c1, c2, c3, c4⟩ := NM2.out.five
        have lm := NM2.out.lt
        go_wp2_with fail
        refine X5.out.mono ?_
        rintro e w3 ⟨rfl, hb3⟩
        have NB3 := Lib.hid (below_after NB2.out hb3)
        have ND3 := Lib.hid (ND2.out.below hb3)
        have NM3 := Lib.hid (NM2.out.below hb3)
        clear hb3 NB2 ND2 NM2 X5 c0 c1 c2 c3 c4 lm
        cases hb : b2 with
        | true =>
          have HR : Hid (r = 7) := Lib.hid (by rw [HR3.out, hb]; rfl)
          clear hb HR3
          go_wp2_with fail
          go_ret
          exact ⟨by rw [HR.out]; rfl, NB3.out⟩
        | false =>
          have HR4 : Hid (r = if b1 = false ∨ b5 = true then 8 else 0) := Lib.hid (by rw [HR3.out, hb]; rfl)
          have X6 := Lib.hid (S6.out _ NB3.out)
          clear hb HR3 S6
          obtain ⟨c0, c1, c2, c3, c4⟩ := NM3.out.five
          obtain ⟨d0, d1, d2, _⟩ := ND3.out.three
          have lm := NM3.out.lt
          have ld := ND3.out.lt
          go_wp2_with fail
          refine X6.out.mono ?_
          rintro e w4 ⟨rfl, hb4⟩
          have NB4 := Lib.hid (below_after NB3.out hb4)
          have ND4 := Lib.hid (ND3.out.below hb4)
          have NM4 := Lib.hid (NM3.out.below hb4)
          clear hb4 NB3 ND3 NM3 X6 c0 c1 c2 c3 c4 lm d0 d1 d2 ld
          cases hb : b1 with
          | false =>
            have HR : Hid (r = 8) := Lib.hid (by rw [HR4.out, hb]; rfl)
            clear hb HR4
            go_wp2_with fail
            go_ret
            exact ⟨by rw [HR.out]; rfl, NB4.out⟩
          | true =>
            have HR5 : Hid (r = if b5 = true then 8 else 0) := Lib.hid (by rw [HR4.out, hb]; simp)
            clear hb HR4
            go_wp2_with fail
            refine (S4.out _ NB4.out ND4.out NM4.out).mono ?_
            rintro e w5 ⟨rfl, hb5⟩
            have NB5 := Lib.hid (below_after NB4.out hb5)
            clear hb5 NB4 ND4 NM4 S4
            cases hb : b5 with
            | true =>
              have HR : Hid (r = 8) := Lib.hid (by rw [HR5.out, hb]; rfl)
              clear hb HR5
              go_wp2_with fail
              go_ret
              exact ⟨by rw [HR.out]; rfl, NB5.out⟩
            | false =>
              have HR : Hid (r = 0) := Lib.hid (by rw [HR5.out, hb]; rfl)
              clear hb HR5
              go_wp2_with fail
              go_ret
              exact ⟨by rw [HR.out]; rfl, NB5.out⟩
end Go.Proofs.Ytibpgcdaommjeaa
namespace Go.Proofs.Ytibpgcdaommjeaa
open Go.RowKit

theorem check_any (qs : List Dc) (ns : List Nd) (hs : List Int) (Ad An Ah : Option Addr) (dc nc hc : Nat) (h1 : qs.length ≤ dc) (h2 : dc ≤ maxLen) (h3 : ns.length ≤ maxLen) (h4 : hs.length ≤ maxLen) (w : World) (hd : DsAt w Ad qs) (hn : NsAt w An ns) (hh : Is w Ah hs) :
    Calls Try.prog 19 #[.agg #[.slice Ad qs.length dc, .slice An ns.length nc, .slice Ah hs.length hc]] w fun e w' => e = .returned (.agg #[.int .i64 (akC qs ns hs), .int .i64 (akA qs ns hs)]) ∧ Below w.heap.size w w' := by
  have N1 : Hid (HB ((w.alloc (.cells #[.slice Ad qs.length dc, .slice An ns.length nc, .slice Ah hs.length hc] 30)).alloc (.cells #[.int .i64 0, .int .i64 0] 47)) (w.heap.size + 1) 47 #[.int .i64 0, .int .i64 0]) := Lib.hid (HB.new1 _ _ _ _)
  have G1 : Hid (Below w.heap.size w ((w.alloc (.cells #[.slice Ad qs.length dc, .slice An ns.length nc, .slice Ah hs.length hc] 30)).alloc (.cells #[.int .i64 0, .int .i64 0] 47))) := Lib.hid (by go_grown)
  have X := Lib.hid (sorts_any qs ns hs Ad An Ah dc nc hc h1 h2 h3 h4 _ (hd.below G1.out) (hn.below G1.out) (hh.below G1.out))
  clear hd hn hh h1 h2 h3 h4
  unfold GivesS at X
  generalize akL qs ns hs = L at *
  generalize akC qs ns hs = C at *
  generalize akA qs ns hs = A at *
  generalize qs.length = ql at *
  generalize ns.length = nl at *
  generalize hs.length = hl at *
  go_enter Try.func19, Try.ntmps19
  go_wp2_with fail
  refine X.out.mono ?_
  rintro e w1 ⟨S, sc, rfl, _, _, _, hb1⟩
  have G2 : Hid (Below w.heap.size w w1) := bw_below (Nat.le_refl _) G1.out hb1
  have N2 := Lib.hid (N1.out.below hb1)
  clear hb1 X N1 G1
  obtain ⟨r0, r1, r2, r3⟩ := N2.out.two
  have lr := N2.out.lt
  have RR := (hb_set2 (n := .int .i64 C) (d := .int .i64 A) N2.out).alloc (.cells #[.int .i64 C, .int .i64 A] 47)
  have FF := bw_far G2.out (Nat.le_succ _) (far2 w1 (w.heap.size + 1) (.int .i64 C) (.int .i64 A))
  obtain ⟨y0, y1, _, _⟩ := RR.two
  go_wp2_with fail
  refine bodyPost_ret (v := .agg #[.int .i64 C, .int .i64 A]) (by simp [results, Try.results19, go_sem, y0, y1]) rfl ⟨rfl, Below.alloc FF FF.size _⟩
end Go.Proofs.Ytibpgcdaommjeaa
