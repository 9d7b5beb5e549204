/-
  The contract of the reference's FracTwo: what a reckoning of two fractions tells.
-/
import Derived.Test.YtapaggpkoelamaaWideS
import Derived.Test.YtapaggpkoelamaaFracR
namespace Go.Proofs.Ytapaggpkoelamaa
open Go.RowKit
attribute [local go_sem ↓] Go.wp_at_zero Go.wp_at_succ

theorem sign_num {s : Bool} {n : Nat} (h : n = 0 → s = false) : decide (num s n < 0) = s := by
  rcases (num_mag s n).2 with ⟨z, e⟩ | ⟨_, e⟩
  · rw [e, h z]
  · exact e
theorem made_z (r : Nat) (P Q : Int) (hP : mag P ≤ 18446744073709551615) (hQ : mag Q ≤ 18446744073709551615) (h0 : Q ≠ 0) (w : World) (h : RV w r (redN P Q) (redD P Q)) :
    Calls Try.prog 21 #[.pointer (some ⟨r, 0, none⟩)] w (Gives (madeN P Q) (madeD P Q) (madeC P Q) 0 w) := by
  obtain ⟨h1, h2⟩ := h
  obtain ⟨e1, e2, e3⟩ := made_wide (num' := P) h0 rfl rfl
  have hz : mag P / Nat.gcd (mag P) (mag Q) = 0 → qsign (decide (P < 0)) (decide (Q < 0)) (mag P / Nat.gcd (mag P) (mag Q)) = false := fun z => qsign_zero z
  unfold ZAt redN at h1
  rw [(num_mag _ _).1, sign_num hz] at h1
  have gp : 0 < Nat.gcd (mag P) (mag Q) := Nat.gcd_pos_of_pos_right _ (by unfold mag; omega)
  have gl : Nat.gcd (mag P) (mag Q) ≤ mag Q := Nat.gcd_le_right _ (by unfold mag; omega)
  have hd : redD P Q ≠ 0 := by unfold redD; have := Nat.div_pos gl gp; omega
  have k := fracmade_any r _ (redD P Q) _ (Nat.le_trans (Nat.div_le_self _ _) hP) (Nat.le_trans (Nat.div_le_self _ _) hQ) hd w ⟨h1, h2⟩
  unfold redD at k
  rw [e1, e2, e3] at k
  exact k
theorem made_neg (p q : Int) : madeN (-p) (-q) = madeN p q ∧ madeD (-p) (-q) = madeD p q ∧ madeC (-p) (-q) = madeC p q := by
  have m : ∀ x : Int, mag (-x) = mag x := fun x => by unfold mag; exact Int.natAbs_neg x
  by_cases hq : q = 0
  · subst hq; simp [madeN, madeD, madeC]
  · have hq' : -q ≠ 0 := by omega
    unfold madeN madeD madeC
    rw [if_neg hq, if_neg hq, if_neg hq, if_neg hq', if_neg hq', if_neg hq', m, m]
    refine ⟨?_, rfl, rfl⟩
    by_cases h : 1073741824 < mag p / Nat.gcd (mag p) (mag q) ∨ 1073741824 < mag q / Nat.gcd (mag p) (mag q)
    · rw [if_pos h, if_pos h]
    · rw [if_neg h, if_neg h]
      by_cases hp : p = 0
      · subst hp; simp [mag]
      · have e : (decide (-p < 0) == decide (-q < 0)) = (decide (p < 0) == decide (q < 0)) := by
          have a : decide (-p < 0) = !decide (p < 0) := by by_cases x : p < 0 <;> simp [x] <;> omega
          have b : decide (-q < 0) = !decide (q < 0) := by by_cases x : q < 0 <;> simp [x] <;> omega
          rw [a, b]; cases decide (p < 0) <;> cases decide (q < 0) <;> rfl
        rw [e]
set_option maxHeartbeats 2000000 in
theorem two_bad0 (op an ad bn bd : Int) (ha : fvalid an ad = false)  (w : World) : Calls Try.prog 14 #[.int .i64 op, .agg #[.int .i64 an, .int .i64 ad], .agg #[.int .i64 bn, .int .i64 bd]] w (Gives 0 0 3 0 w) := by
  have LT2 : ∀ n : Nat, n < n + 1 + 1 := lt_two
  have LT3 : ∀ n : Nat, n < n + 1 + 1 + 1 := fun n => by omega
  have HA := Lib.hid (right_any an ad)
  have HB := Lib.hid (right_any bn bd)
  rw [ha] at HA
  skip
  go_enter Try.func14, Try.ntmps14
  go_wp2_with fail
  refine (HA.out _).mono ?_
  rintro en w1 ⟨rfl, hb1⟩
  have g1 : Below w.heap.size w w1 := below_after (by go_grown) hb1
  obtain ⟨hc1, hf1, hl1, hm1, hn1, ho1⟩ := bsix hb1
  go_wp2_with fail
  refine bodyPost_ret (v := .tuple #[.agg #[.int .i64 0, .int .i64 0], .agg #[.int .i64 3, .int .i64 0]]) (by simp [results, Try.results14, go_sem, hc1, hl1, lt_two]) rfl ⟨rfl, ?_⟩
  have z := g1.size
  go_grown
set_option maxHeartbeats 2000000 in
theorem two_bad1 (op an ad bn bd : Int) (ha : fvalid an ad = true) (hb : fvalid bn bd = false) (w : World) : Calls Try.prog 14 #[.int .i64 op, .agg #[.int .i64 an, .int .i64 ad], .agg #[.int .i64 bn, .int .i64 bd]] w (Gives 0 0 3 1 w) := by
  have LT2 : ∀ n : Nat, n < n + 1 + 1 := lt_two
  have LT3 : ∀ n : Nat, n < n + 1 + 1 + 1 := fun n => by omega
  have HA := Lib.hid (right_any an ad)
  have HB := Lib.hid (right_any bn bd)
  rw [ha] at HA
  rw [hb] at HB
  go_enter Try.func14, Try.ntmps14
  go_wp2_with fail
  refine (HA.out _).mono ?_
  rintro en w1 ⟨rfl, hb1⟩
  have g1 : Below w.heap.size w w1 := below_after (by go_grown) hb1
  obtain ⟨hc1, hf1, hl1, hm1, hn1, ho1⟩ := bsix hb1
  go_wp2_with fail
  refine (HB.out _).mono ?_
  rintro en w2 ⟨rfl, hb2⟩
  have g2 : Below w.heap.size w w2 := below_more g1 hb2 (by go_grown)
  have k2 := below_more hb1 hb2 (by go_grown)
  clear hc1 hf1 hl1 hm1 hn1 ho1
  obtain ⟨hc2, hf2, hl2, hm2, hn2, ho2⟩ := bsix k2
  go_wp2_with fail
  refine bodyPost_ret (v := .tuple #[.agg #[.int .i64 0, .int .i64 0], .agg #[.int .i64 3, .int .i64 1]]) (by simp [results, Try.results14, go_sem, hc2, hl2, lt_two]) rfl ⟨rfl, ?_⟩
  have z := g2.size
  go_grown
set_option maxRecDepth 100000 in
set_option maxHeartbeats 4000000 in
theorem two_op1 (an ad bn bd : Int) (ha : fvalid an ad = true) (hb : fvalid bn bd = true)  (w : World) : Calls Try.prog 14 #[.int .i64 1, .agg #[.int .i64 an, .int .i64 ad], .agg #[.int .i64 bn, .int .i64 bd]] w (Gives (madeN (an * bd + bn * ad) (ad * bd)) (madeD (an * bd + bn * ad) (ad * bd)) (madeC (an * bd + bn * ad) (ad * bd)) 0 w) := by
  have LT2 : ∀ n : Nat, n < n + 1 + 1 := lt_two
  have LT3 : ∀ n : Nat, n < n + 1 + 1 + 1 := fun n => by omega
  obtain ⟨a1, a2, a3, a4, ga⟩ := fvalid_bd ha
  obtain ⟨b1, b2, b3, b4, gb⟩ := fvalid_bd hb
  have bu : mag an ≤ 1073741824 := by unfold mag; omega
  have bv : mag bn ≤ 1073741824 := by unfold mag; omega
  have bp : mag ad ≤ 1073741824 := by unfold mag; omega
  have bq : mag bd ≤ 1073741824 := by unfold mag; omega
  have np : mag ad ≠ 0 := by unfold mag; omega
  have nq : mag bd ≠ 0 := by unfold mag; omega
  have ea : ((mag ad : Nat) : Int) = ad := by unfold mag; omega
  have eb : ((mag bd : Nat) : Int) = bd := by unfold mag; omega
  have mP : mag (an * ((mag bd : Nat) : Int) + bn * ((mag ad : Nat) : Int)) ≤ 18446744073709551615 := by have := mag_add (an * ((mag bd : Nat) : Int)) (bn * ((mag ad : Nat) : Int)); rw [mag_mul, mag_mul, mag_cast, mag_cast] at this; have := mul_small bu bq; have := mul_small bv bp; omega
  have mQ : mag (((mag ad : Nat) : Int) * ((mag bd : Nat) : Int)) ≤ 18446744073709551615 := by rw [mag_mul, mag_cast, mag_cast]; have := mul_small bp bq; omega
  have q0 : (((mag ad : Nat) : Int) * ((mag bd : Nat) : Int)) ≠ 0 := Int.mul_ne_zero (by omega) (by omega)
  have MP := Lib.hid mP
  have MQ := Lib.hid mQ
  have Q0 := Lib.hid q0
  have GB := Lib.hid gb
  have eP : (an * ((mag bd : Nat) : Int) + bn * ((mag ad : Nat) : Int)) = (an * bd + bn * ad) := by rw [ea, eb]
  have eQ : (((mag ad : Nat) : Int) * ((mag bd : Nat) : Int)) = (ad * bd) := by rw [ea, eb]
  have E1 : Hid (madeN (an * ((mag bd : Nat) : Int) + bn * ((mag ad : Nat) : Int)) (((mag ad : Nat) : Int) * ((mag bd : Nat) : Int)) = madeN (an * bd + bn * ad) (ad * bd) ∧ madeD (an * ((mag bd : Nat) : Int) + bn * ((mag ad : Nat) : Int)) (((mag ad : Nat) : Int) * ((mag bd : Nat) : Int)) = madeD (an * bd + bn * ad) (ad * bd) ∧ madeC (an * ((mag bd : Nat) : Int) + bn * ((mag ad : Nat) : Int)) (((mag ad : Nat) : Int) * ((mag bd : Nat) : Int)) = madeC (an * bd + bn * ad) (ad * bd)) := by show _ ∧ _ ∧ _; rw [eP, eQ]; exact ⟨rfl, rfl, rfl⟩
  have HA := Lib.hid (right_any an ad)
  have HB := Lib.hid (right_any bn bd)
  rw [ha] at HA
  rw [hb] at HB
  have RA := Lib.hid (rat_any an ad ha)
  have RB := Lib.hid (rat_any bn bd hb)
  clear ea eb mP mQ q0 ga gb eP eQ ha hb
  go_enter Try.func14, Try.ntmps14
  go_wp2_with fail
  refine (HA.out _).mono ?_
  rintro en w1 ⟨rfl, hb1⟩
  have g1 : Below w.heap.size w w1 := below_after (by go_grown) hb1
  obtain ⟨hc1, hf1, hl1, hm1, hn1, ho1⟩ := bsix hb1
  go_wp2_with fail
  refine (HB.out _).mono ?_
  rintro en w2 ⟨rfl, hb2⟩
  have g2 : Below w.heap.size w w2 := below_more g1 hb2 (by go_grown)
  have k2 := below_more hb1 hb2 (by go_grown)
  clear hc1 hf1 hl1 hm1 hn1 ho1 g1 hb1 hb2
  obtain ⟨hc2, hf2, hl2, hm2, hn2, ho2⟩ := bsix k2
  have zz := k2.size
  simp at zz
  have z0 : w.heap.size < w2.heap.size := by omega
  have z1 : w.heap.size + 1 < w2.heap.size := by omega
  have z2 : w.heap.size + 1 + 1 < w2.heap.size := by omega
  have z3 : w.heap.size + 1 + 1 + 1 < w2.heap.size := by omega
  clear zz
  go_wp2_with fail
  go_upto_region 6 with fail
  go_cut [8, 9] (fun s8 s9 wx => ∃ x y, s8 = .pointer (some ⟨x, 0, none⟩) ∧ s9 = .pointer (some ⟨y, 0, none⟩) ∧ Hid (RV wx x an (mag ad)) ∧ Hid (RV wx y bn (mag bd)) ∧ Below w2.heap.size w2 wx)
  case first =>
    go_region_law (first
      | (go_simp; go_at_call 18; refine (RA.out _).mono ?_; rintro en w3 ⟨rfl, hi3, hb3⟩; have q3 : Below w2.heap.size w2 w3 := below_after (by go_grown) hb3; obtain ⟨hc3, hf3, hl3, hm3, hn3, ho3⟩ := bsix q3; have HI3 := Lib.hid hi3; clear hi3)
      | (go_simp; go_at_call 18; refine (RB.out _).mono ?_; rintro en w4 ⟨rfl, hi4, hb4⟩; have q4 : Below w2.heap.size w2 w4 := below_after q3 hb4; have HI4 := Lib.hid hi4; clear hi4))
    all_goals
      go_wp2_with fail
      go_meet
      exact ⟨_, _, rfl, rfl, HI3.out.below hb4, HI4.out, q4⟩
  case rest =>
    obtain ⟨x, y, rfl, rfl, hx, hy, hb3⟩ := hcut
    have g3 := below_more g2 hb3 (by go_grown)
    have k3 := below_more k2 hb3 (by go_grown)
    have lz := hb3.size
    have H1' := hx
    have H2' := hy
    clear hc2 hf2 hl2 hm2 hn2 ho2 g2 hb3
    obtain ⟨hc3, hf3, hl3, hm3, hn3, ho3⟩ := bsix k3
    have H1 := Lib.hid (hx.out.below (new_below wc (.cells #[.bool false, .slice none 0 0, .bool false, .slice none 0 0] 46)))
    have H2 := Lib.hid (hy.out.below (new_below wc (.cells #[.bool false, .slice none 0 0, .bool false, .slice none 0 0] 46)))
    clear H1' H2' hx hy
    go_wp2_with fail
    refine (radd_z _ _ _ (mag ad) (mag bd) an bn bu bv bp bq np nq _ (rhdr_new _) H1.out H2.out).mono ?_
    rintro en w5 ⟨rfl, hz, hc⟩
    have HZ := Lib.hid hz
    have b5 : Below wc.heap.size wc w5 := Below.trans (new_below wc _) (hc.below (by simp) (fun g hg hs => by omega))
    have g5 := below_after g3 b5
    have k5 := below_after k3 b5
    have lz5 := b5.size
    clear hz hc b5 g3 k3 hc3 hf3 hl3 hm3 hn3 ho3
    obtain ⟨hc5, hf5, hl5, hm5, hn5, ho5⟩ := bsix k5
    go_wp2_with fail
    refine (made_z _ (an * ((mag bd : Nat) : Int) + bn * ((mag ad : Nat) : Int)) (((mag ad : Nat) : Int) * ((mag bd : Nat) : Int)) MP.out MQ.out Q0.out _ HZ.out).mono ?_
    rintro en w6 ⟨rfl, hb6⟩
    have g6 := below_after g5 hb6
    have k6 := below_after k5 hb6
    clear g5 k5 hb6 hc5 hf5 hl5 hm5 hn5 ho5
    obtain ⟨hc6, hf6, hl6, hm6, hn6, ho6⟩ := bsix k6
    obtain ⟨e1, e2, e3⟩ := E1.out
    rw [e1, e2, e3]
    clear e1 e2 e3
    go_wp2_with fail
    refine bodyPost_ret (v := .tuple #[.agg #[.int .i64 (madeN (an * bd + bn * ad) (ad * bd)), .int .i64 (madeD (an * bd + bn * ad) (ad * bd))], .agg #[.int .i64 (madeC (an * bd + bn * ad) (ad * bd)), .int .i64 0]]) (by simp [results, Try.results14, go_sem, hc6, hl6, lt_two]) rfl ⟨rfl, ?_⟩
    have z := g6.size
    go_grown
end Go.Proofs.Ytapaggpkoelamaa
