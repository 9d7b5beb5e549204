/-
  Worlds: do two rows of a table have the same arguments?
-/
import Derived.Test.YtjjjgffpmghfgaaMeaD
namespace Go.Proofs.Ytjjjgffpmghfgaa
open Go.RowKit

theorem below_down {B B' : Nat} {a b : World} (h : Below B a b) (hB : B' ≤ B) : Below B' a b := h.mono hB
/-- What stands while rows are looked at for one that is there twice. -/
def TwI (base : Nat) (w0 : World) (gs b n m : Nat) (L : List (List Int)) (W : World) : Prop := Below base w0 W ∧ base ≤ gs ∧ base ≤ b ∧ HB W gs 116 #[.map (some b)] ∧ SetAt W b n m L
theorem TwI.below {base gs b n m : Nat} {w0 W W' : World} {L : List (List Int)} (h : TwI base w0 gs b n m L W) (hb : Below W.heap.size W W') : TwI base w0 gs b n m L W' := by
  obtain ⟨h1, h2, h3, h4, h5⟩ := h
  have := h4.lt
  exact ⟨h1.trans (hb.mono (by omega)), h2, h3, h4.below hb, h5.below hb⟩
theorem TwI.grown {base gs b n n' m : Nat} {w0 W W' : World} {L L' : List (List Int)} (h : TwI base w0 gs b n m L W) (hg : W.grownBy W' (some b)) (hs : SetAt W' b n' m L') : TwI base w0 gs b n' m L' W' := by
  obtain ⟨h1, h2, h3, h4, h5⟩ := h
  have hl := h4.lt
  refine ⟨h1.grown hg (by omega) (fun j hj => by injection hj with hj; omega), h2, h3, ?_, hs⟩
  exact h4.grown hg (by have := set_ne h5 h4; simpa using this)
theorem enters_tw1 : Enters 90 := fun _ _ => by kernel_rfl
set_option maxRecDepth 100000 in
set_option maxHeartbeats 4000000 in
theorem tw1_any (base gs b n m : Nat) (w0 : World) (L : List (List Int)) (q : En) (Aa Ac : Option Addr) (ca cc : Nat) (hm : q.args.length = m) (h8 : m ≤ 8) (hwf : ∀ z ∈ q.args, wf64 z) (hn : n < maxLen) (W : World) (hI : TwI base w0 gs b n m L W) (hq : enI W q Aa ca Ac cc) :
    Calls Try.prog 90 (#[enV q Aa ca Ac cc] ++ #[.pointer (some ⟨gs, 0, none⟩)]) W fun e w' => e = .returned (.bool (decide (q.args ∈ L))) ∧ TwI base w0 gs b (n + 1) m (L ++ [q.args]) w' := by
  show Calls Try.prog 90 #[.agg #[.slice Aa q.args.length ca, .int .i64 q.too.num, .int .i64 q.too.den, .slice Ac q.too.cells.length cc, .int .i64 q.too.rest], .pointer (some ⟨gs, 0, none⟩)] W _
  obtain ⟨⟨ha1, ha2, ha3⟩, _⟩ := hq
  have HI := Lib.hid hI
  have HWF := Lib.hid hwf
  have HM := Lib.hid hm
  have HN := Lib.hid hn
  have l0 := hI.2.2.2.1.lt
  have HS8 := Lib.hid (splice_eight (zs := q.args) (by omega))
  have HCS : Hid ((intV q.args).length = m ∧ (∀ v ∈ intV q.args, v.oneCell' = true) ∧ (0 < m → ∃ ad : Addr, Aa = some ad ∧ ∀ W', Below W.heap.size W W' → ∀ j v, (intV q.args)[j]? = some v → W'.cell? (ad.add j) = some v)) := Lib.hid (by
    refine ⟨by simp [intV, hm], fun v hv => ?_, fun hp => ?_⟩
    · simp [intV] at hv
      obtain ⟨z, _, rfl⟩ := hv
      rfl
    · obtain ⟨b1, o1, e1, hb1, hc1⟩ := ha3 (by omega)
      refine ⟨⟨b1, o1, none⟩, e1, fun W' hW' j v hj => ?_⟩
      have hjl : j < q.args.length := by
        rcases Nat.lt_or_ge j q.args.length with z | z
        · exact z
        · rw [List.getElem?_eq_none (by simpa [intV] using z)] at hj; cases hj
      rw [Go.WideShapes.add_plain]
      rw [hW'.cell (p := ⟨b1, o1 + j, none⟩) hb1, hc1 j hjl]
      rw [← hj]
      simp [intV, nth, List.getD, hjl])
  have HK0 : Hid (Value.agg #[.int .i64 (nth q.args 0), .int .i64 (nth q.args 1), .int .i64 (nth q.args 2), .int .i64 (nth q.args 3), .int .i64 (nth q.args 4), .int .i64 (nth q.args 5), .int .i64 (nth q.args 6), .int .i64 (nth q.args 7)] = kyV q.args) := Lib.hid rfl
  have NW0 := Lib.hid (HB.new1 W (.cells #[.slice Aa q.args.length ca, .int .i64 q.too.num, .int .i64 q.too.den, .slice Ac q.too.cells.length cc, .int .i64 q.too.rest] 75) 117 #[.int .i64 0, .int .i64 0, .int .i64 0, .int .i64 0, .int .i64 0, .int .i64 0, .int .i64 0, .int .i64 0])
  clear ha3 hI hwf hn
  unfold maxLen at ha2
  rw [hm] at ha1 NW0 ⊢
  clear hm
  generalize hcs : intV q.args = cs at *
  clear hcs
  generalize nth q.args 0 = k0 at *
  generalize nth q.args 1 = k1 at *
  generalize nth q.args 2 = k2 at *
  generalize nth q.args 3 = k3 at *
  generalize nth q.args 4 = k4 at *
  generalize nth q.args 5 = k5 at *
  generalize nth q.args 6 = k6 at *
  generalize nth q.args 7 = k7 at *
  generalize q.args = zs at *
  generalize q.too.cells.length = cl at *
  generalize q.too.num = vn at *
  generalize q.too.den = vd at *
  generalize q.too.rest = vr at *
  have BW0 := Lib.hid (((Below.refl W.heap.size W).alloc (Nat.le_refl _) (.cells #[.slice Aa m ca, .int .i64 vn, .int .i64 vd, .slice Ac cl cc, .int .i64 vr] 75)).alloc (by simp) (.cells #[.int .i64 0, .int .i64 0, .int .i64 0, .int .i64 0, .int .i64 0, .int .i64 0, .int .i64 0, .int .i64 0] 117))
  go_enter Try.func90, Try.ntmps90
  go_wp2_with fail
  have NW1 : Hid (((W.alloc (.cells #[.slice Aa m ca, .int .i64 vn, .int .i64 vd, .slice Ac cl cc, .int .i64 vr] 75)).alloc (.cells #[.int .i64 0, .int .i64 0, .int .i64 0, .int .i64 0, .int .i64 0, .int .i64 0, .int .i64 0, .int .i64 0] 117)).drew.heap[W.heap.size + 1]? = some (.cells [Value.int .i64 0, .int .i64 0, .int .i64 0, .int .i64 0, .int .i64 0, .int .i64 0, .int .i64 0, .int .i64 0].toArray 117 (0, 0))) := NW0
  have HPOS : Hid (0 < cs.length → (some ⟨W.heap.size + 1, 0, none⟩ : Option Addr) = some ⟨W.heap.size + 1, 0, none⟩ ∧ ∃ ad, Aa = some ad ∧ ∀ (j : Nat) (v : Value), cs[j]? = some v → ((W.alloc (.cells #[.slice Aa m ca, .int .i64 vn, .int .i64 vd, .slice Ac cl cc, .int .i64 vr] 75)).alloc (.cells #[.int .i64 0, .int .i64 0, .int .i64 0, .int .i64 0, .int .i64 0, .int .i64 0, .int .i64 0, .int .i64 0] 117)).drew.cell? (ad.add j) = some v) := Lib.hid (fun hp => by
    obtain ⟨ad, h1, h2⟩ := HCS.out.2.2 (by rw [← HCS.out.1]; exact hp)
    exact ⟨rfl, ad, h1, h2 _ BW0.out.drew⟩)
  have HMIN : Hid (cs.length = Nat.min m 8) := Lib.hid (by rw [HCS.out.1]; exact (Nat.min_eq_left h8).symm)
  have HFIT : Hid (0 + cs.length ≤ [Value.int .i64 0, .int .i64 0, .int .i64 0, .int .i64 0, .int .i64 0, .int .i64 0, .int .i64 0, .int .i64 0].length) := Lib.hid (by rw [HCS.out.1]; simp; omega)
  go_region_law (refine step_copy_splice rfl (.tmp 6) (.tmp 8) 22 22 rfl 3 Try.underlying22 (by kernel_rfl) _ _ _ _ _ _ rfl rfl (W.heap.size + 1) 0 [.int .i64 0, .int .i64 0, .int .i64 0, .int .i64 0, .int .i64 0, .int .i64 0, .int .i64 0, .int .i64 0] 117 NW1.out cs HMIN.out HPOS.out HFIT.out HCS.out.2.1 (W.heap.size + 1) _ (Below.refl _ _) (Nat.le_refl _) ?_; intro w3 hg3 hb3)
  have G3 : Hid (HB w3 (W.heap.size + 1) 117 #[.int .i64 k0, .int .i64 k1, .int .i64 k2, .int .i64 k3, .int .i64 k4, .int .i64 k5, .int .i64 k6, .int .i64 k7]) := Lib.hid (by
    have := hg3.out
    rw [HS8.out] at this
    exact this)
  have B3 : Hid (Below W.heap.size W w3) := Lib.hid (BW0.out.drew.trans (hb3.mono (by omega)))
  have I3 := Lib.hid (HI.out.below B3.out)
  clear hg3 hb3 NW1 HPOS HMIN HFIT NW0 BW0 HCS HS8
  obtain ⟨q0, q1⟩ := I3.out.2.2.2.1.one
  have lq := I3.out.2.2.2.1.lt
  have c0 := G3.out.cell 0
  have c1 := G3.out.cell 1
  have c2 := G3.out.cell 2
  have c3 := G3.out.cell 3
  have c4 := G3.out.cell 4
  have c5 := G3.out.cell 5
  have c6 := G3.out.cell 6
  have c7 := G3.out.cell 7
  have lg := G3.out.lt
  simp at c0 c1 c2 c3 c4 c5 c6 c7
  have H8 : Hid (zs.length ≤ 8) := Lib.hid (by have := HM.out; omega)
  go_wp2_with (first | (at_lookup; refine wpl_look rfl _ _ rfl b n m L rfl I3.out.2.2.2.2 _ zs rfl HK0.out HM.out HWF.out ?_) | (at_mapUpdate; refine wpl_put rfl _ _ _ rfl b n m L rfl I3.out.2.2.2.2 HN.out _ zs rfl HK0.out HM.out H8.out HWF.out rfl ?_; intro w5 hs5 hg5))
  have I5 : Hid (TwI base w0 gs b (n + 1) m (L ++ [zs]) w5) := Lib.hid (I3.out.grown hg5 hs5.out)
  clear hg5 hs5 q0 q1 lq c0 c1 c2 c3 c4 c5 c6 c7
  go_wp2_with fail
  go_ret
  exact ⟨rfl, I5.out⟩
/-- The arguments of the first rows. -/
def argL (es : List En) (i : Nat) : List (List Int) := (es.take i).map (·.args)
theorem argL_succ {es : List En} {i : Nat} (h : i < es.length) : argL es (i + 1) = argL es i ++ [(en es i).args] := by
  unfold argL en
  rw [List.take_succ_eq_append_getElem h, List.map_append]
  simp [List.getD, h]
/-- Two rows have the same arguments. -/
def twB (es : List En) : Bool := (List.range es.length).any fun i => decide ((en es i).args ∈ argL es i)
set_option maxHeartbeats 2000000 in
theorem twice_any (es : List En) (A : Option Addr) (c m : Nat) (hl : es.length < maxLen) (h8 : m ≤ 8) (hm : ∀ i, i < es.length → (en es i).args.length = m) (hwf : ∀ i, i < es.length → ∀ z ∈ (en es i).args, wf64 z) (w : World) (h : EsAt w A es) :
    Calls Try.prog 55 #[.slice A es.length c] w fun e w' => e = .returned (.bool (twB es)) ∧ Below w.heap.size w w' := by
  have HX : Hid (∀ W, TwI w.heap.size w (w.heap.size + 1) w.heap.size 0 m [] W → Calls Try.prog 50 #[.slice A es.length c, .func (.func 90) #[] #[.pointer (some ⟨w.heap.size + 1, 0, none⟩)]] W fun e w' => e = .returned (.bool (twB es)) ∧ Below w.heap.size w w') := Lib.hid (fun W hW => by
    refine (conten_any enters_tw1 es A c #[.pointer (some ⟨w.heap.size + 1, 0, none⟩)] (fun i => decide ((en es i).args ∈ argL es i)) (fun i W => TwI w.heap.size w (w.heap.size + 1) w.heap.size i m (argL es i) W) (by omega) (fun i W hW => h.below hW.1) (fun i W Aa ca Ac cc hi hW hq => ?_) W hW).mono ?_
    · have := tw1_any w.heap.size (w.heap.size + 1) w.heap.size i m w (argL es i) (en es i) Aa Ac ca cc (hm i hi) h8 (hwf i hi) (by omega) W hW hq
      rw [argL_succ hi]
      exact this
    · rintro e w' ⟨r, rfl, hr⟩
      rcases hr.out with ⟨i, h1, h2, h3, h4, h5⟩ | ⟨h1, h2, h3⟩
      · subst h4
        refine ⟨ret_bool ?_, h5.1⟩
        unfold twB
        exact (List.any_eq_true.2 ⟨i, List.mem_range.2 h1, h2⟩).symm
      · subst h2
        refine ⟨ret_bool ?_, h3.1⟩
        unfold twB
        exact (List.any_eq_false.2 (fun i hi => by have := h1 i (List.mem_range.1 hi); simp only at this; rw [this]; simp)).symm)
  have HS := Lib.hid (set_made w m)
  clear hl hm hwf h
  generalize es.length = L at *
  generalize twB es = r at *
  have hmm := @run_makeMap Try.prog
  go_enter Try.func55, Try.ntmps55
  go_wp2_with fail
  have HI : Hid (TwI w.heap.size w (w.heap.size + 1) w.heap.size 0 m [] ((w.alloc (.map #[] 0)).alloc (.cells #[.map (some w.heap.size)] 116))) := Lib.hid ⟨((Below.refl _ _).alloc (Nat.le_refl _) _).alloc (by simp) _, by omega, Nat.le_refl _, by simpa using HB.new (w.alloc (.map #[] 0)) 116 #[.map (some w.heap.size)], HS.out.below (new_below _ _)⟩
  refine (HX.out _ HI.out).mono ?_
  rintro e w1 ⟨rfl, hb1⟩
  have HB1 := Lib.hid hb1
  clear hb1
  go_wp2_with fail
  go_ret
  exact ⟨rfl, HB1.out⟩
end Go.Proofs.Ytjjjgffpmghfgaa
