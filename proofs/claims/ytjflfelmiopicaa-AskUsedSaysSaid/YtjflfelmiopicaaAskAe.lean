/-
  Asks: the law that compares ask.Check with the reference; asks that are handed in.
-/
import Derived.Test.YtjflfelmiopicaaAskAd
namespace Go.Proofs.Ytjflfelmiopicaa
open Go.ChangeShapes Go.WideShapes Go.ChangeAt Go.RowKit Go.Joins Go.Deep

theorem ak_bad : akC [] [] [0] = 3 := by decide
set_option maxHeartbeats 2000000 in
theorem checksays_any (qs : List Dc) (ns : List Nd) (hs : List Int) (Ad An Ah : Option Addr) (dc nc hc : Nat) (h1 : qs.length ≤ dc) (h2 : dc ≤ maxLen) (h3 : ns.length ≤ maxLen) (h4 : hs.length ≤ maxLen) (w : World) (hd : DsAt w Ad qs) (hn : NsAt w An ns) (hh : Is w Ah hs) :
    Calls Try.prog 4 #[.agg #[.slice Ad qs.length dc, .slice An ns.length nc, .slice Ah hs.length hc]] w fun e w' => e = .returned (.bool true) ∧ Below w.heap.size w w' := by
  have H1 := Lib.hid (fun W (G : Below w.heap.size w W) => check_any qs ns hs Ad An Ah dc nc hc h1 h2 h3 h4 W (hd.below G) (hn.below G) (hh.below G))
  have H2 := Lib.hid (fun W (G : Below w.heap.size w W) => refsorts_any qs ns hs Ad An Ah dc nc hc h1 h2 h3 h4 W (hd.below G) (hn.below G) (hh.below G))
  have H3 := Lib.hid (fun (W : World) (g : Nat) (hg : HB W g 3 #[.int .i64 0]) => check_any [] [] [0] none none (some ⟨g, 0, none⟩) 0 0 1 (Nat.le_refl _) (Nat.zero_le _) (Nat.zero_le _) (by unfold maxLen; decide) W (fun z => absurd z (by simp)) (fun z => absurd z (by simp)) (is_row hg (fun k hk => by
    simp at hk; subst hk; rfl)))
  rw [ak_bad] at H3
  generalize akA [] [] [0] = A3 at *
  simp only [List.length_nil, List.length_cons, Nat.zero_add] at H3
  have N0 : Hid (HB (w.alloc (.cells #[.slice Ad qs.length dc, .slice An ns.length nc, .slice Ah hs.length hc] 26)) w.heap.size 26 #[.slice Ad qs.length dc, .slice An ns.length nc, .slice Ah hs.length hc]) := Lib.hid (HB.new _ _ _)
  clear hd hn hh h1 h2 h3 h4
  unfold GivesS at H2
  generalize akL qs ns hs = L at *
  generalize akC qs ns hs = C at *
  generalize akA qs ns hs = A at *
  generalize qs.length = ql at *
  generalize ns.length = nl at *
  generalize hs.length = hl at *
  go_enter Try.func4, Try.ntmps4
  go_wp2_with fail
  refine (H2.out _ (new_below _ _)).mono ?_
  rintro e w1 ⟨S, sc, rfl, is1, l1, m1, hb1⟩
  have G1 : Hid (Below w.heap.size w w1) := bw_below (Nat.le_refl _) (new_below _ _) hb1
  have N1 := Lib.hid (N0.out.below hb1)
  clear is1 hb1 N0 H2 l1 m1
  generalize L.length = ll at *
  obtain ⟨x0, x1, x2, _⟩ := N1.out.three
  have lx := N1.out.lt
  have G2 := Lib.hid (Below.alloc (Below.alloc G1.out G1.out.size (.cells #[.int .i64 C, .int .i64 A] 29)) (by have := G1.out.size; simp; omega) (.cells #[.int .i64 0] 3))
  have T2 := Lib.hid ((HB.new w1 29 #[.int .i64 C, .int .i64 A]).alloc (.cells #[.int .i64 0] 3))
  have N2 := Lib.hid ((N1.out.alloc (.cells #[.int .i64 C, .int .i64 A] 29)).alloc (.cells #[.int .i64 0] 3))
  have X3 := Lib.hid (H3.out _ (w1.heap.size + 1) (HB.new1 w1 (.cells #[.int .i64 C, .int .i64 A] 29) 3 #[.int .i64 0]))
  clear H3
  go_wp2_with fail
  refine X3.out.mono ?_
  rintro e w2 ⟨rfl, hb2⟩
  have G3 : Hid (Below w.heap.size w w2) := bw_below (Nat.le_refl _) G2.out hb2
  have T3 := Lib.hid (T2.out.below hb2)
  have N3 := Lib.hid (N2.out.below hb2)
  clear hb2 x0 x1 x2 lx G2 T2 N2 N1 X3
  have G4 : Hid (Below w.heap.size w ((w2.alloc (.cells #[.int .i64 3, .int .i64 A3] 29)).drew)) := Lib.hid (Below.alloc G3.out G3.out.size _).drew
  have T4 : Hid (HB ((w2.alloc (.cells #[.int .i64 3, .int .i64 A3] 29)).drew) w1.heap.size 29 #[.int .i64 C, .int .i64 A]) := Lib.hid (T3.out.alloc _).drew
  have U4 : Hid (HB ((w2.alloc (.cells #[.int .i64 3, .int .i64 A3] 29)).drew) w2.heap.size 29 #[.int .i64 3, .int .i64 A3]) := Lib.hid (HB.new _ _ _).drew
  obtain ⟨x0, x1, x2, _⟩ := N3.out.three
  have lx := N3.out.lt
  obtain ⟨r0, r1, _, _⟩ := T3.out.two
  have lr := T3.out.lt
  have X1 := Lib.hid (H1.out _ G4.out)
  go_wp2_with fail
  go_region_with (go_at_call 13; (with_reducible refine X1.out.mono ?_); rintro e w3 ⟨rfl, hb3⟩; have G5 : Hid (Below w.heap.size w w3) := bw_below (Nat.le_refl _) G4.out hb3; have T5 := T4.out.below hb3; have U5 := U4.out.below hb3; clear hb3; obtain ⟨p0, p1, _, _⟩ := T5.two; obtain ⟨q0, q1, _, _⟩ := U5.two; clear T5 U5)
  all_goals
    go_wp2_with fail
    go_ret
    exact ⟨by first | rfl | (simp [Act.put]; done) | simp, G5.out⟩
theorem Try.own : ownKnob Try.prog.godebug = none := by kernel_rfl
theorem Try.laidOut : laidOutB Try.prog = true := by kernel_rfl
section
variable {H : Type} {enc : TypeId × Value → H} {W : World}
theorem Try.cells26 : Try.prog.cellsOf 26 = 3 := by kernel_rfl
theorem Try.cells64 : Try.prog.cellsOf 64 = 3 := by kernel_rfl
theorem Try.cells56 : Try.prog.cellsOf 56 = 5 := by kernel_rfl
set_option maxRecDepth 100000 in
theorem open_ask {base : Nat} {v : Value} {d : DataW H} {p : List MemPlace} (hval : Value.okWide Try.prog W .any base 26 v) (h : DataW.Trod enc Try.prog W 0 (fun _ => true) true 26 v d p) :
    ∃ Ad An Ah dc nc hc qs ns hs, v = .agg #[.slice Ad (List.length qs) dc, .slice An (List.length ns) nc, .slice Ah (List.length hs) hc] ∧ qs.length ≤ dc ∧ dc ≤ maxLen ∧ ns.length ≤ nc ∧ nc ≤ maxLen ∧ hs.length ≤ hc ∧ hc ≤ maxLen ∧ DsAt W Ad qs ∧ NsAt W An ns ∧ Is W Ah hs := by
  obtain ⟨c0, c1, c2, y0, y1, y2, k, rfl, _, _, hy0, hy1, hy2⟩ := open_agg3 Try.underlying26 (by kernel_rfl) Try.cells26 hval h
  obtain ⟨Ad, dc, qs, e0, a1, a2, a3, _, _⟩ := open_ds Try.underlying23 Try.underlying64 Try.cells64 rfl rfl rfl (by kernel_rfl) (by kernel_rfl) (by kernel_rfl) Try.underlying9 rfl rfl Try.underlying22 Try.underlying3 (by kernel_rfl) hy0
  obtain ⟨An, nc, ns, e1, b1, b2, b3, _, _⟩ := open_ns Try.underlying24 Try.underlying56 Try.cells56 rfl rfl rfl rfl rfl (by kernel_rfl) (by kernel_rfl) (by kernel_rfl) (by kernel_rfl) (by kernel_rfl) Try.underlying9 rfl rfl rfl rfl Try.underlying22 Try.underlying3 (by kernel_rfl) hy1
  obtain ⟨Ah, hc, hs, e2, d1, d2, d3, _, _⟩ := open_isP (v := c2) Try.underlying22 Try.underlying3 (by kernel_rfl) hy2
  simp at e0 e1
  subst e0 e1 e2
  exact ⟨Ad, An, Ah, dc, nc, hc, qs, ns, hs, rfl, a1, a2, b1, b2, d1, d2, a3, b3, d3⟩
end
end Go.Proofs.Ytjflfelmiopicaa
