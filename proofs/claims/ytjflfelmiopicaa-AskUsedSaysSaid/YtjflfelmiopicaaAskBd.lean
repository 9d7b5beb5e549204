/-
  Asks: the law that compares ask.Used with the reference.
-/
import Derived.Test.YtjflfelmiopicaaAskBc
namespace Go.Proofs.Ytjflfelmiopicaa
open Go.RowKit

set_option maxHeartbeats 4000000 in
theorem usedsays_any (qs : List Dc) (ns : List Nd) (hs : List Int) (Ad An Ah : Option Addr) (dc nc hc : Nat) (h1 : qs.length ≤ dc) (h2 : dc ≤ maxLen) (h3 : ns.length ≤ maxLen) (h4 : hs.length ≤ maxLen) (w : World) (hd : DsAt w Ad qs) (hn : NsAt w An ns) (hh : Is w Ah hs) :
    Calls Try.prog 6 #[.agg #[.slice Ad qs.length dc, .slice An ns.length nc, .slice Ah hs.length hc]] w fun e w' => e = .returned (.bool true) ∧ Below w.heap.size w w' := by
  have H1 := Lib.hid (fun W (G : Below w.heap.size w W) => used_any qs ns hs Ad An Ah dc nc hc h1 h2 h3 h4 W (hd.below G) (hn.below G) (hh.below G))
  have H2 := Lib.hid (fun W (G : Below w.heap.size w W) => refsorts_any qs ns hs Ad An Ah dc nc hc h1 h2 h3 h4 W (hd.below G) (hn.below G) (hh.below G))
  have H3 := Lib.hid (fun W (G : Below w.heap.size w W) (z : akC qs ns hs = 0) => usedref_any qs ns hs Ad An Ah dc nc hc (ak_sound z).1 (ak_sound z).2.1 (ak_sound z).2.2.1 (ak_sound z).2.2.2 W (hn.below G) (hh.below G))
  have H5 := Lib.hid (fun z : akC qs ns hs = 0 => (ak_sound z).1)
  have HAZ := Lib.hid (fun z => ak_zero (qs := qs) (ns := ns) (hs := hs) z)
  have N0 : Hid (HB (w.alloc (.cells #[.slice Ad qs.length dc, .slice An ns.length nc, .slice Ah hs.length hc] 26)) w.heap.size 26 #[.slice Ad qs.length dc, .slice An ns.length nc, .slice Ah hs.length hc]) := Lib.hid (HB.new _ _ _)
  clear hd hn hh h1 h2 h3 h4
  unfold GivesU at H1
  unfold GivesS at H2
  generalize akL qs ns hs = L at *
  generalize akC qs ns hs = C at *
  generalize akA qs ns hs = A at *
  generalize qs.length = ql at *
  generalize ns.length = nl at *
  generalize hs.length = hl at *
  by_cases hc0 : C = 0
  · have HA0 := HAZ.out hc0
    subst hc0 HA0
    clear HAZ
    have H6 := Lib.hid (H5.out (by trivial))
    go_enter Try.func6, Try.ntmps6
    go_wp2_with fail
    refine (H1.out _ (new_below _ _)).mono ?_
    rintro e w1 ⟨_, hz, hb1⟩
    obtain ⟨g, b, rfl, hB, hI⟩ := hz (by trivial)
    have G1 : Hid (Below w.heap.size w w1) := bw_below (Nat.le_refl _) (new_below _ _) hb1
    have N1 := Lib.hid (N0.out.below hb1)
    have B1 := Lib.hid hB
    have I1 := Lib.hid hI
    clear hz hb1 N0 H1 hB hI
    obtain ⟨x0, x1, x2, _⟩ := N1.out.three
    have lx := N1.out.lt
    have G2 := Lib.hid (Below.alloc G1.out G1.out.size (.cells #[.int .i64 0, .int .i64 0] 29))
    have T2 := Lib.hid (HB.new w1 29 #[.int .i64 0, .int .i64 0])
    have B2 := Lib.hid (B1.out.alloc (.cells #[.int .i64 0, .int .i64 0] 29))
    have N2 := Lib.hid (N1.out.alloc (.cells #[.int .i64 0, .int .i64 0] 29))
    go_wp2_with fail
    refine (H2.out _ G2.out).mono ?_
    rintro e w2 ⟨S2, sc2, rfl, _, _, _, hb2⟩
    have G3 : Hid (Below w.heap.size w w2) := bw_below (Nat.le_refl _) G2.out hb2
    have T3 := Lib.hid (T2.out.below hb2)
    have B3 := Lib.hid (B2.out.below hb2)
    have N3 := Lib.hid (N2.out.below hb2)
    clear hb2 x0 x1 x2 lx G2 T2 H2 N1 N2 B1 B2
    generalize L.length = ll at *
    obtain ⟨r0, r1, _, _⟩ := T3.out.two
    have lr := T3.out.lt
    obtain ⟨x0, x1, x2, _⟩ := N3.out.three
    have lx := N3.out.lt
    have G4 := Lib.hid (Below.alloc G3.out G3.out.size (.cells #[.int .i64 0, .int .i64 0] 29))
    have B4 := Lib.hid (B3.out.alloc (.cells #[.int .i64 0, .int .i64 0] 29))
    have X3 := Lib.hid (H3.out _ G4.out (by trivial))
    clear H3
    go_wp2_with fail
    refine X3.out.mono ?_
    rintro e w3 ⟨g3, b3, rfl, hB3, hI3, hb3⟩
    have G5 : Hid (Below w.heap.size w w3) := bw_below (Nat.le_refl _) G4.out hb3
    have XI := Lib.hid (bools_same b b3 nl g g3 H6.out (fun j hj => by
      have a := I1.out j hj
      have c := hI3 j hj
      rw [Bool.eq_iff_iff, a, c]) w3 (B4.out.below hb3) hB3)
    clear hb3 hB3 hI3 r0 r1 lr x0 x1 x2 lx
    go_wp2_with fail
    refine XI.out.mono ?_
    rintro e w4 ⟨rfl, hb4⟩
    have G6 : Hid (Below w.heap.size w w4) := bw_below (Nat.le_refl _) G5.out hb4
    clear hb4
    go_wp2_with fail
    go_ret
    exact ⟨rfl, G6.out⟩
  · have t1 : (C != 0) = true := by simpa using hc0
    have HC0 := Lib.hid hc0
    clear hc0 H3 H5 HAZ
    go_enter Try.func6, Try.ntmps6
    go_wp2_with fail
    refine (H1.out _ (new_below _ _)).mono ?_
    rintro e w1 ⟨hz, _, hb1⟩
    obtain rfl := hz HC0.out
    have G1 : Hid (Below w.heap.size w w1) := bw_below (Nat.le_refl _) (new_below _ _) hb1
    have N1 := Lib.hid (N0.out.below hb1)
    clear hz hb1 N0 H1
    obtain ⟨x0, x1, x2, _⟩ := N1.out.three
    have lx := N1.out.lt
    have G2 := Lib.hid (Below.alloc G1.out G1.out.size (.cells #[.int .i64 C, .int .i64 A] 29))
    have T2 := Lib.hid (HB.new w1 29 #[.int .i64 C, .int .i64 A])
    go_wp2_with fail
    refine (H2.out _ G2.out).mono ?_
    rintro e w2 ⟨S2, sc2, rfl, _, _, _, hb2⟩
    have G3 : Hid (Below w.heap.size w w2) := bw_below (Nat.le_refl _) G2.out hb2
    have T3 := Lib.hid (T2.out.below hb2)
    clear hb2 x0 x1 x2 lx G2 T2 H2 N1
    generalize L.length = ll at *
    obtain ⟨r0, r1, _, _⟩ := T3.out.two
    have lr := T3.out.lt
    have G4 := Lib.hid (Below.alloc G3.out G3.out.size (.cells #[.int .i64 C, .int .i64 A] 29))
    go_wp2_with fail
    go_ret
    exact ⟨by simp, G4.out⟩
end Go.Proofs.Ytjflfelmiopicaa
