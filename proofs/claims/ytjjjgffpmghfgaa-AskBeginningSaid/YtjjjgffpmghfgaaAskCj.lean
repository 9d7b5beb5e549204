/-
  Asks that are made of raw numbers: a beginning of an ask.
-/
import Derived.Test.YtjjjgffpmghfgaaAskCi
namespace Go.Proofs.Ytjjjgffpmghfgaa
open Go.RowKit

/-- What an ask made of raw numbers is. -/
def AskOfQ (w : World) (e : Ending) (w' : World) : Prop :=
  ∃ (Ad An Ah : Option Addr) (nc hc : Nat) (ns : List Nd) (ss hs : List Int), e = .returned (.agg #[.slice Ad 14 14, .slice An ns.length nc, .slice Ah hs.length hc]) ∧ DsAt w' Ad dqs ∧ NsAt w' An ns ∧ Is w' Ah hs ∧ ns.length ≤ nc ∧ nc ≤ maxLen ∧ Ok ns ss ∧ ns.length ≤ 200 ∧ hs.length ≤ 200 ∧ (∀ i, i < hs.length → 0 ≤ nth hs i ∧ nth hs i < ss.length ∧ nth ss (nth hs i).toNat = 1) ∧ Below w.heap.size w w'
set_option maxHeartbeats 4000000 in
theorem beginning_of (A : Option Addr) (l c : Nat) (cut : Int) (w : World) (HA : Calls Try.prog 7 #[.slice A l c, .int .i64 30, .int .i64 0] w (AskOfQ w)) :
    Calls Try.prog 3 #[.slice A l c, .int .i64 cut] w fun e w' => e = .returned (.bool true) ∧ Below w.heap.size w w' := by
  have X7 := Lib.hid HA
  clear HA
  go_enter Try.func3, Try.ntmps3
  go_wp2_with fail
  refine X7.out.mono ?_
  rintro e w1 ⟨Ad, An, Ah, nc, hc, ns, ss, hs, rfl, hd, hn, hh, hnc, hnm, hok, n200, h200, hho, hb1⟩
  have G1 : Hid (Below w.heap.size w w1) := Lib.hid hb1
  have H1 : Hid (∀ W, Below w1.heap.size w1 W → Calls Try.prog 8 #[.agg #[.slice Ad 14 14, .slice An ns.length nc, .slice Ah hs.length hc]] W (GivesS ss 0 0 W)) := Lib.hid (fun W k => by
    have := sorts_any dqs ns hs Ad An Ah 14 nc hc (by decide) (by decide) (by unfold maxLen; omega) (by unfold maxLen; omega) W (hd.below k) (hn.below k) (hh.below k)
    obtain ⟨a, b, c⟩ := ask_fine hok n200 h200 hho
    rw [a, b, c] at this
    exact this)
  have H2 : Hid (∀ W (n : Nat), n ≤ ns.length → Below w1.heap.size w1 W → Calls Try.prog 8 #[.agg #[.slice Ad 14 14, .slice An n nc, .slice none 0 0]] W (GivesS (ss.take n) 0 0 W)) := Lib.hid (fun W n hn' k => by
    have hl : (ns.take n).length = n := by simp; omega
    have := sorts_any dqs (ns.take n) [] Ad An none 14 nc 0 (by decide) (by decide) (by unfold maxLen; omega) (Nat.zero_le _) W (hd.below k) ((hn.below k).take n) (is_nil _ _)
    obtain ⟨a, b, c⟩ := ask_fine (hs := []) (ok_take hok hn') (by omega) (by simp) (fun i hi => absurd hi (by simp))
    rw [a, b, c, hl] at this
    exact this)
  have HSL := Lib.hid (ok_len hok)
  have HPK : Hid (∀ a W, Calls Try.prog 9 #[.int .i64 a, .int .i64 ((ns.length : Int) + 1)] W fun e w' => ∃ n : Nat, e = .returned (.int .i64 n) ∧ n ≤ ns.length ∧ w' = W) := Lib.hid (fun a W => (pick_rng a (ns.length + 1) (by omega) (by omega) W).mono fun e w' ⟨r, h1, h2, h3, h4⟩ => ⟨r.toNat, by rw [h1, Int.toNat_of_nonneg h2], by omega, h4⟩)
  have N1 := Lib.hid (HB.new w1 26 #[.slice Ad 14 14, .slice An ns.length nc, .slice Ah hs.length hc])
  have X8 := Lib.hid (H1.out (w1.alloc (.cells #[.slice Ad 14 14, .slice An ns.length nc, .slice Ah hs.length hc] 26)) (new_below _ _))
  have G2 := Lib.hid (Below.alloc G1.out G1.out.size (.cells #[.slice Ad 14 14, .slice An ns.length nc, .slice Ah hs.length hc] 26))
  unfold GivesS at X8 H2
  clear hd hn hh hok hho hb1 h200 H1 X7
  unfold maxLen at hnm
  generalize hnl : ns.length = nl at *
  generalize hs.length = hl at *
  generalize hsl : ss.length = sl at *
  obtain rfl : sl = nl := HSL.out
  have HSS := Lib.hid hsl
  clear hsl hnl
  go_wp2_with fail
  refine X8.out.mono ?_
  rintro e w2 ⟨S, sc, rfl, is1, l1, m1, hb2⟩
  have B2 : Hid (Below w1.heap.size w1 w2) := Lib.hid ((new_below w1 _).trans (Below.mono hb2 (by simp)))
  have G3 : Hid (Below w.heap.size w w2) := bw_below (Nat.le_refl _) G2.out hb2
  have N3 := Lib.hid (N1.out.below hb2)
  have I3 := Lib.hid is1.is
  clear is1 hb2 X8 N1 G2
  obtain ⟨x0, x1, x2, _⟩ := N3.out.three
  have lx := N3.out.lt
  go_wp2_with fail
  refine (HPK.out _ _).mono ?_
  rintro e w3 ⟨n, rfl, hn, rfl⟩
  have hnn : n ≤ nc := by omega
  have u1 : (n : Int) ≤ nc := by omega
  have u0 : (0 : Int) ≤ n := by omega
  have N4 := Lib.hid (N3.out.alloc (.cells #[.int .i64 0, .int .i64 0] 29))
  have R4 := Lib.hid (HB.new w2 29 #[.int .i64 0, .int .i64 0])
  have G4 := Lib.hid (Below.alloc G3.out G3.out.size (.cells #[.int .i64 0, .int .i64 0] 29))
  have B4 := Lib.hid (Below.alloc B2.out B2.out.size (.cells #[.int .i64 0, .int .i64 0] 29))
  have I4 := Lib.hid (I3.out.below (new_below w2 (.cells #[.int .i64 0, .int .i64 0] 29)))
  have lx2 : w1.heap.size < (w2.alloc (.cells #[.int .i64 0, .int .i64 0] 29)).heap.size := by simp; omega
  have z0 := N4.out.three.1
  have z1 := N4.out.three.2.1
  have N5 := Lib.hid (N4.out.alloc (.cells #[.slice none 0 0, .slice none 0 0, .slice none 0 0] 26))
  have v0 := N5.out.three.1
  have v1 := N5.out.three.2.1
  clear G3 B2
  go_wp2_with fail
  go_region
  all_goals
    go_wp2_with fail
    have B5 : Hid (Below w1.heap.size w1 (((w2.alloc (.cells #[.int .i64 0, .int .i64 0] 29)).alloc (.cells #[.slice Ad 14 14, .slice An n nc, .slice none 0 0] 26)).drew)) := Lib.hid (Below.alloc B4.out B4.out.size _).drew
    have G5 : Hid (Below w.heap.size w (((w2.alloc (.cells #[.int .i64 0, .int .i64 0] 29)).alloc (.cells #[.slice Ad 14 14, .slice An n nc, .slice none 0 0] 26)).drew)) := Lib.hid (Below.alloc G4.out G4.out.size _).drew
    have N6 : Hid (HB (((w2.alloc (.cells #[.int .i64 0, .int .i64 0] 29)).alloc (.cells #[.slice Ad 14 14, .slice An n nc, .slice none 0 0] 26)).drew) w1.heap.size 26 #[.slice Ad 14 14, .slice An sl nc, .slice Ah hl hc]) := Lib.hid (N4.out.alloc _).drew
    have R6 : Hid (HB (((w2.alloc (.cells #[.int .i64 0, .int .i64 0] 29)).alloc (.cells #[.slice Ad 14 14, .slice An n nc, .slice none 0 0] 26)).drew) w2.heap.size 29 #[.int .i64 0, .int .i64 0]) := Lib.hid (R4.out.alloc _).drew
    have I6 : Hid (Is (((w2.alloc (.cells #[.int .i64 0, .int .i64 0] 29)).alloc (.cells #[.slice Ad 14 14, .slice An n nc, .slice none 0 0] 26)).drew) S ss) := Lib.hid (I4.out.below (new_below _ _)).drew
    have hl2 : (ss.take n).length = n := by have := HSS.out; simp; omega
    have X5 := Lib.hid (H2.out _ n hn B5.out)
    have XI : Hid (∀ (S2 : Option Addr) (sc2 : Nat) (W : World), Is W S (ss.take n) → Is W S2 (ss.take n) → Calls Try.prog 11 #[.slice S n sc, .slice S2 n sc2] W fun e w' => e = .returned (.bool true) ∧ Below W.heap.size W w') := Lib.hid (fun S2 sc2 W h1 h2 => by
      have := ints_same (ss.take n) S S2 sc sc2 (by rw [hl2]; unfold maxLen; omega) W h1 h2
      rw [hl2] at this
      exact this)
    rw [hl2] at X5
    clear B5 B4 G4 N4 N5 R4 I4 x0 x1 x2 lx z0 z1 v0 v1 lx2 N3 I3 H2 hl2
    refine X5.out.mono ?_
    rintro e w4 ⟨S2, sc2, rfl, is2, l2, m2, hb4⟩
    have G7 : Hid (Below w.heap.size w w4) := bw_below (Nat.le_refl _) G5.out hb4
    have N7 := Lib.hid (N6.out.below hb4)
    have R7 := Lib.hid (R6.out.below hb4)
    have I7 := Lib.hid (I6.out.below hb4)
    have J7 := Lib.hid is2.is
    clear is2 hb4 X5 G5 N6 R6 I6
    obtain ⟨r0, r1, _, _⟩ := R7.out.two
    have lr := R7.out.lt
    have G8 := Lib.hid (Below.alloc G7.out G7.out.size (.cells #[.int .i64 0, .int .i64 0] 29))
    have N8 := Lib.hid (N7.out.alloc (.cells #[.int .i64 0, .int .i64 0] 29))
    have I8 := Lib.hid (I7.out.below (new_below w4 (.cells #[.int .i64 0, .int .i64 0] 29)))
    have J8 := Lib.hid (J7.out.below (new_below w4 (.cells #[.int .i64 0, .int .i64 0] 29)))
    have XS := Lib.hid (sure_any (w4.alloc (.cells #[.int .i64 0, .int .i64 0] 29)))
    have u2 : (n : Int) ≤ sc := by omega
    go_wp2_with fail
    refine XS.out.mono ?_
    rintro e w5 ⟨rfl, hb5⟩
    have G9 : Hid (Below w.heap.size w w5) := bw_below (Nat.le_refl _) G8.out hb5
    have N9 := Lib.hid (N8.out.below hb5)
    have X11 := Lib.hid (XI.out S2 sc2 w5 (is_take (I8.out.below hb5) n) (J8.out.below hb5))
    clear hb5 XS r0 r1 lr
    obtain ⟨x0, x1, x2, _⟩ := N9.out.three
    have lx := N9.out.lt
    go_wp2_with fail
    refine X11.out.mono ?_
    rintro e w6 ⟨rfl, hb6⟩
    have G10 : Hid (Below w.heap.size w w6) := bw_below (Nat.le_refl _) G9.out hb6
    go_wp2_with fail
    go_ret
    exact ⟨rfl, G10.out⟩
end Go.Proofs.Ytjjjgffpmghfgaa
