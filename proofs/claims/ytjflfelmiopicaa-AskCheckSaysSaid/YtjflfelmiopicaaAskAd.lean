/-
  Asks: the laws that compare ask.Sorts and ask.Check with the reference.
-/
import Derived.Test.YtjflfelmiopicaaAskAc
namespace Go.Proofs.Ytjflfelmiopicaa
open Go.RowKit

set_option maxHeartbeats 2000000 in
theorem sortssays_any (qs : List Dc) (ns : List Nd) (hs : List Int) (Ad An Ah : Option Addr) (dc nc hc : Nat) (h1 : qs.length ≤ dc) (h2 : dc ≤ maxLen) (h3 : ns.length ≤ maxLen) (h4 : hs.length ≤ maxLen) (w : World) (hd : DsAt w Ad qs) (hn : NsAt w An ns) (hh : Is w Ah hs) :
    Calls Try.prog 5 #[.agg #[.slice Ad qs.length dc, .slice An ns.length nc, .slice Ah hs.length hc]] w fun e w' => e = .returned (.bool true) ∧ Below w.heap.size w w' := by
  have H1 := Lib.hid (fun W (G : Below w.heap.size w W) => sorts_any qs ns hs Ad An Ah dc nc hc h1 h2 h3 h4 W (hd.below G) (hn.below G) (hh.below G))
  have H2 := Lib.hid (fun W (G : Below w.heap.size w W) => refsorts_any qs ns hs Ad An Ah dc nc hc h1 h2 h3 h4 W (hd.below G) (hn.below G) (hh.below G))
  have N0 : Hid (HB (w.alloc (.cells #[.slice Ad qs.length dc, .slice An ns.length nc, .slice Ah hs.length hc] 26)) w.heap.size 26 #[.slice Ad qs.length dc, .slice An ns.length nc, .slice Ah hs.length hc]) := Lib.hid (HB.new _ _ _)
  clear hd hn hh h1 h2 h3 h4
  unfold GivesS at H1 H2
  generalize akL qs ns hs = L at *
  generalize akC qs ns hs = C at *
  generalize akA qs ns hs = A at *
  generalize qs.length = ql at *
  generalize ns.length = nl at *
  generalize hs.length = hl at *
  go_enter Try.func5, Try.ntmps5
  go_wp2_with fail
  refine (H1.out _ (new_below _ _)).mono ?_
  rintro e w1 ⟨S, sc, rfl, is1, l1, m1, hb1⟩
  have G1 : Hid (Below w.heap.size w w1) := bw_below (Nat.le_refl _) (new_below _ _) hb1
  have I1 := Lib.hid is1.is
  have ML := Lib.hid (Nat.le_trans l1 m1)
  have N1 := Lib.hid (N0.out.below hb1)
  clear is1 hb1 N0 H1
  obtain ⟨x0, x1, x2, _⟩ := N1.out.three
  have lx := N1.out.lt
  have G2 := Lib.hid (Below.alloc G1.out G1.out.size (.cells #[.int .i64 C, .int .i64 A] 29))
  have T2 := Lib.hid (HB.new w1 29 #[.int .i64 C, .int .i64 A])
  have I2 := Lib.hid (I1.out.below (new_below w1 (.cells #[.int .i64 C, .int .i64 A] 29)))
  go_wp2_with fail
  refine (H2.out _ G2.out).mono ?_
  rintro e w2 ⟨S2, sc2, rfl, is2, l2, m2, hb2⟩
  have G3 : Hid (Below w.heap.size w w2) := bw_below (Nat.le_refl _) G2.out hb2
  have T3 := Lib.hid (T2.out.below hb2)
  have I3 := Lib.hid (I2.out.below hb2)
  have J3 := Lib.hid is2.is
  clear is2 hb2 x0 x1 x2 lx G2 T2 I2 H2 N1 I1
  obtain ⟨r0, r1, r2, r3⟩ := T3.out.two
  have lr := T3.out.lt
  have I4 := Lib.hid (I3.out.below (new_below w2 (.cells #[.int .i64 C, .int .i64 A] 29)))
  have J4 := Lib.hid (J3.out.below (new_below w2 (.cells #[.int .i64 C, .int .i64 A] 29)))
  have XI := Lib.hid (ints_same L S S2 sc sc2 ML.out _ I4.out J4.out)
  have G4 := Lib.hid (Below.alloc G3.out G3.out.size (.cells #[.int .i64 C, .int .i64 A] 29))
  have T4 := Lib.hid (T3.out.alloc (.cells #[.int .i64 C, .int .i64 A] 29))
  have U4 := Lib.hid (HB.new w2 29 #[.int .i64 C, .int .i64 A])
  generalize L.length = ll at *
  go_wp2_with fail
  refine XI.out.mono ?_
  rintro e w3 ⟨rfl, hb3⟩
  have G5 : Hid (Below w.heap.size w w3) := bw_below (Nat.le_refl _) G4.out hb3
  have T5 := Lib.hid (T4.out.below hb3)
  have U5 := Lib.hid (U4.out.below hb3)
  clear hb3 r0 r1 r2 r3 lr
  obtain ⟨r0, r1, _, _⟩ := T5.out.two
  obtain ⟨s0, s1, _, _⟩ := U5.out.two
  have lr := T5.out.lt
  have ls := U5.out.lt
  go_wp2_with fail
  go_ret
  exact ⟨by simp, G5.out⟩
end Go.Proofs.Ytjflfelmiopicaa
