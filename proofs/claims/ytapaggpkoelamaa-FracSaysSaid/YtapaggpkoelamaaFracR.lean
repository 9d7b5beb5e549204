/-
  The law FracMakes walked: Make and the reference's wide fraction tell the same.
-/
import Derived.Test.YtapaggpkoelamaaWideI
import Derived.Test.YtapaggpkoelamaaFracM
namespace Go.Proofs.Ytapaggpkoelamaa
open Go.RowKit

theorem made_wide {num' den : Int} (hd : den ≠ 0) {N D : Nat} (hN : mag num' / Nat.gcd (mag num') (mag den) = N) (hD : mag den / Nat.gcd (mag num') (mag den) = D) :
    ofN (qsign (decide (num' < 0)) (decide (den < 0)) N) N D = madeN num' den ∧ ofD N D = madeD num' den ∧ wideC N D = madeC num' den := by
  unfold madeN madeD madeC ofN ofD wideC
  rw [if_neg hd, if_neg hd, if_neg hd, hN, hD]
  by_cases h : 1073741824 < N ∨ 1073741824 < D
  · have hk : ofK N D = false := by unfold ofK; simp; omega
    rw [hk, if_pos h, if_pos h, if_pos h]
    simp
  · have hk : ofK N D = true := by unfold ofK; simp; omega
    rw [hk, if_neg h, if_neg h, if_neg h]
    refine ⟨?_, rfl, rfl⟩
    simp only [if_true]
    by_cases hs : (decide (num' < 0) == decide (den < 0)) = true
    · rw [if_pos hs]
      have e : qsign (decide (num' < 0)) (decide (den < 0)) N = false := by
        unfold qsign
        have : (decide (num' < 0) != decide (den < 0)) = false := by simp only [bne, hs]; rfl
        rw [this]; rfl
      rw [e]; simp [num]
    · rw [if_neg hs]
      have hs' : (decide (num' < 0) != decide (den < 0)) = true := by
        have : (decide (num' < 0) == decide (den < 0)) = false := by simpa using hs
        simp only [bne, this]; rfl
      unfold qsign
      rw [hs']
      by_cases z : N = 0
      · simp [num, z]
      · simp [num, z]
theorem made_turned : madeN 6 (-4) = -3 ∧ madeD 6 (-4) = 2 ∧ madeC 6 (-4) = 0 := by decide
theorem made_zero (n : Int) : madeN n 0 = 0 ∧ madeD n 0 = 0 ∧ madeC n 0 = 6 := by simp [madeN, madeD, madeC]
set_option maxHeartbeats 1000000 in
theorem makes_zero (n : Int) (h1 : -9223372036854775808 ≤ n) (h2 : n ≤ 9223372036854775807) (w : World) :
    Calls Try.prog 4 #[.int .i64 n, .int .i64 0] w fun e w' => e = .returned (.bool true) ∧ Below w.heap.size w w' := by
  have LT2 : ∀ n : Nat, n < n + 1 + 1 := lt_two
  have LT3 : ∀ n : Nat, n < n + 1 + 1 + 1 := fun n => by omega
  have hz := make_any n 0 h1 h2 (by omega) (by omega)
  obtain ⟨e1, e2, e3⟩ := made_zero n
  rw [e1, e2, e3] at hz
  have ht := make_any 6 (-4) (by omega) (by omega) (by omega) (by omega)
  obtain ⟨e4, e5, e6⟩ := made_turned
  rw [e4, e5, e6] at ht
  have HZ := Lib.hid hz
  have HT := Lib.hid ht
  clear hz ht e1 e2 e3 e4 e5 e6
  go_enter Try.func4, Try.ntmps4
  go_wp2_with fail
  refine (HZ.out _).mono ?_
  rintro e w1 ⟨rfl, hb1⟩
  have g1 : Below w.heap.size w w1 := below_after (by go_grown) hb1
  go_wp2_with fail
  refine (HT.out _).mono ?_
  rintro e w2 ⟨rfl, hb2⟩
  have g2 : Below w.heap.size w w2 := below_more g1 hb2 (by go_grown)
  obtain ⟨hc2, hf2, hl2, hm2, hn2, ho2⟩ := bsix hb2
  go_wp2_with fail
  go_ret
  refine ⟨rfl, ?_⟩
  have z := g2.size
  go_grown

set_option maxHeartbeats 2000000 in
theorem makes_in (n d : Int) (p q c : Int) (N D G : Nat) (h1 : -9223372036854775808 ≤ n) (h2 : n ≤ 9223372036854775807) (h3 : -9223372036854775808 ≤ d) (h4 : d ≤ 9223372036854775807) (hd : d ≠ 0) (w : World)
    (hG : Nat.gcd (mag n) (mag d) = G) (hN : mag n / G = N) (hD : mag d / G = D) (dpos : D ≠ 0)
    (hmake : ∀ w, Calls Try.prog 20 #[.int .i64 n, .int .i64 d] w (Gives p q c 0 w)) (e1 : ofN (qsign (decide (n < 0)) (decide (d < 0)) N) N D = p) (e2 : ofD N D = q) (e3 : wideC N D = c) :
    Calls Try.prog 4 #[.int .i64 n, .int .i64 d] w fun e w' => e = .returned (.bool true) ∧ Below w.heap.size w w' := by
  have LT2 : ∀ n : Nat, n < n + 1 + 1 := lt_two
  have LT3 : ∀ n : Nat, n < n + 1 + 1 + 1 := fun n => by omega
  have hm1 : mag n ≤ 18446744073709551615 := mag_le n h1 h2
  have hm2 : mag d ≤ 18446744073709551615 := mag_le d h3 h4
  have hm0 : mag d ≠ 0 := by unfold mag; omega
  have nle : N ≤ 18446744073709551615 := by rw [← hN]; exact Nat.le_trans (Nat.div_le_self _ _) hm1
  have dle : D ≤ 18446744073709551615 := by rw [← hD]; exact Nat.le_trans (Nat.div_le_self _ _) hm2
  have t0 : ((d : Int) == 0) = false := by simpa using hd
  have HK := Lib.hid hmake
  have E1 := Lib.hid e1
  have E2 := Lib.hid e2
  have E3 := Lib.hid e3
  have HG := Lib.hid hG
  have HN := Lib.hid hN
  have HD := Lib.hid hD
  have H0 := Lib.hid hm0
  have D0 := Lib.hid dpos
  clear hmake e1 e2 e3 hG hN hD hm0 dpos
  go_enter Try.func4, Try.ntmps4
  go_wp2_with fail
  refine (HK.out _).mono ?_
  rintro e w1 ⟨rfl, hb1⟩
  have g1 : Below w.heap.size w w1 := below_after (by go_grown) hb1
  go_wp2_with fail
  refine (new_at n h1 h2 _).mono ?_
  rintro e w2 ⟨rfl, hi2, hb2⟩
  have hr1 : RHdr (((w1.alloc (.cells #[.int .i64 p, .int .i64 q] 23)).alloc (.cells #[.int .i64 c, .int .i64 0] 25)).alloc (.cells #[.bool false, .slice none 0 0, .bool false, .slice none 0 0] 46)) (w1.heap.size + 1 + 1) := by
    simpa using rhdr_new ((w1.alloc (.cells #[.int .i64 p, .int .i64 q] 23)).alloc (.cells #[.int .i64 c, .int .i64 0] 25))
  have hi2' : IntAt w2 (w1.heap.size + 1 + 1 + 1) 0 (decide (n < 0)) (mag n) := by simpa using hi2
  have HR2 := Lib.hid (hr1.below hb2)
  have HI2 := Lib.hid hi2'
  have g2 : Below w.heap.size w w2 := below_more g1 hb2 (by go_grown)
  have k2 : Below ((w1.alloc (.cells #[.int .i64 p, .int .i64 q] 23)).alloc (.cells #[.int .i64 c, .int .i64 0] 25)).heap.size ((w1.alloc (.cells #[.int .i64 p, .int .i64 q] 23)).alloc (.cells #[.int .i64 c, .int .i64 0] 25)) w2 := below_after (by go_grown) hb2
  have l2 := hi2'.1
  clear hr1 hi2 hi2' hb2
  go_wp2_with fail
  refine (new_at d h3 h4 _).mono ?_
  rintro e w3 ⟨rfl, hi3, hb3⟩
  have HR3 := Lib.hid (HR2.out.below hb3)
  have HI3 := Lib.hid (HI2.out.below hb3)
  have HJ3 := Lib.hid hi3
  have g3 : Below w.heap.size w w3 := below_after g2 hb3
  have k3 := below_after k2 hb3
  have l3 := hi3.1
  clear hi3 hb3 g2 k2
  go_wp2_with fail
  refine (setfrac_any (w1.heap.size + 1 + 1) _ 0 _ 0 (mag n) (mag d) G N D (decide (n < 0)) (decide (d < 0)) hm1 hm2 H0.out HG.out HN.out HD.out _ HR3.out HI3.out HJ3.out).mono ?_
  rintro e w4 ⟨rfl, hq4, hc4⟩
  have HQ4 := Lib.hid hq4
  have kk : ((w1.alloc (.cells #[.int .i64 p, .int .i64 q] 23)).alloc (.cells #[.int .i64 c, .int .i64 0] 25)).heap.size = w1.heap.size + 1 + 1 := by simp
  have b4 : Below (w1.heap.size + 1 + 1) w3 w4 := hc4.below (by omega) (fun g hg hs => by omega)
  have sz := g1.size
  have l4 := hc4.size
  have g4 : Below w.heap.size w w4 := g3.trans (b4.mono (by omega))
  have k4 := k3.trans (b4.mono (by omega))
  clear hq4 hc4 b4 g3 k3 kk
  go_wp2_with fail
  refine (fracmade_any (w1.heap.size + 1 + 1) N D _ nle dle D0.out _ HQ4.out).mono ?_
  rintro e w5 ⟨rfl, hb5⟩
  rw [E1.out, E2.out, E3.out]
  have g5 : Below w.heap.size w w5 := below_after g4 hb5
  have k5 := k4.trans (hb5.mono (by simp; omega))
  obtain ⟨hc5, hf5, hl5, hm5, hn5, ho5⟩ := bsix k5
  clear g4 k4 hb5
  go_wp2_with fail
  go_ret
  refine ⟨rfl, ?_⟩
  have z := g5.size
  go_grown

theorem makes_any (n d : Int) (h1 : -9223372036854775808 ≤ n) (h2 : n ≤ 9223372036854775807) (h3 : -9223372036854775808 ≤ d) (h4 : d ≤ 9223372036854775807) (w : World) :
    Calls Try.prog 4 #[.int .i64 n, .int .i64 d] w fun e w' => e = .returned (.bool true) ∧ Below w.heap.size w w' := by
  by_cases hd : d = 0
  · subst hd; exact makes_zero n h1 h2 w
  · obtain ⟨x, y, g, hx, hy, e1, e2, hg, hy0, _⟩ := terms n d hd
    obtain ⟨k1, k2, k3⟩ := made_wide (num' := n) hd rfl rfl
    exact makes_in n d _ _ _ _ _ _ h1 h2 h3 h4 hd w rfl rfl rfl (by rw [← hy]; omega) (fun w => make_any n d h1 h2 h3 h4 w) k1 k2 k3
end Go.Proofs.Ytapaggpkoelamaa
