/-
  The contract of the reference's FracTwo: quotients.
-/
import Derived.Test.YtapaggpkoelamaaWideV
namespace Go.Proofs.Ytapaggpkoelamaa
open Go.RowKit
attribute [local go_sem ↓] Go.wp_at_zero Go.wp_at_succ

set_option maxRecDepth 100000 in
set_option maxHeartbeats 4000000 in
theorem two_op4 (an ad bn bd : Int) (ha : fvalid an ad = true) (hb : fvalid bn bd = true) (nb : bn ≠ 0) (w : World) : Calls Try.prog 14 #[.int .i64 4, .agg #[.int .i64 an, .int .i64 ad], .agg #[.int .i64 bn, .int .i64 bd]] w (Gives (madeN (an * bd) (ad * bn)) (madeD (an * bd) (ad * bn)) (madeC (an * bd) (ad * bn)) 0 w) := by
  have LT2 : ∀ n : Nat, n < n + 1 + 1 := lt_two
  have LT3 : ∀ n : Nat, n < n + 1 + 1 + 1 := fun n => by omega
  obtain ⟨a1, a2, a3, a4, ga⟩ := fvalid_bd ha
  obtain ⟨b1, b2, b3, b4, gb⟩ := fvalid_bd hb
  have bu : mag an ≤ 1073741824 := by unfold mag; omega
  have bv : mag bn ≤ 1073741824 := by unfold mag; omega
  have bp : mag ad ≤ 1073741824 := by unfold mag; omega
  have bq : mag bd ≤ 1073741824 := by unfold mag; omega
  have np : mag ad ≠ 0 := by unfold mag; omega
  have nq : mag bd ≠ 0 := by unfold mag; omega
  have ea : ((mag ad : Nat) : Int) = ad := by unfold mag; omega
  have eb : ((mag bd : Nat) : Int) = bd := by unfold mag; omega
  have mP : mag (an * num (decide (bn < 0)) (mag bd)) ≤ 18446744073709551615 := by rw [mag_mul, (num_mag _ _).1]; have := mul_small bu bq; omega
  have mQ : mag (((mag ad : Nat) : Int) * ((mag bn : Nat) : Int)) ≤ 18446744073709551615 := by rw [mag_mul, mag_cast, mag_cast]; have := mul_small bp bv; omega
  have q0 : (((mag ad : Nat) : Int) * ((mag bn : Nat) : Int)) ≠ 0 := Int.mul_ne_zero (by omega) (by have h9 : mag bn ≠ 0 := (by unfold mag; omega); omega)
  have MP := Lib.hid mP
  have MQ := Lib.hid mQ
  have Q0 := Lib.hid q0
  have GB := Lib.hid gb
  have E1 : Hid (madeN (an * num (decide (bn < 0)) (mag bd)) (((mag ad : Nat) : Int) * ((mag bn : Nat) : Int)) = madeN (an * bd) (ad * bn) ∧ madeD (an * num (decide (bn < 0)) (mag bd)) (((mag ad : Nat) : Int) * ((mag bn : Nat) : Int)) = madeD (an * bd) (ad * bn) ∧ madeC (an * num (decide (bn < 0)) (mag bd)) (((mag ad : Nat) : Int) * ((mag bn : Nat) : Int)) = madeC (an * bd) (ad * bn)) := by
    show _ ∧ _ ∧ _
    by_cases x : bn < 0
    · have eP : (an * num (decide (bn < 0)) (mag bd)) = -(an * bd) := by simp only [num, x, decide_true, if_true]; rw [eb, Int.mul_neg]
      have eQ : (((mag ad : Nat) : Int) * ((mag bn : Nat) : Int)) = -(ad * bn) := by
        have : ((mag bn : Nat) : Int) = -bn := by unfold mag; omega
        rw [ea, this, Int.mul_neg]
      rw [eP, eQ]; exact made_neg _ _
    · have eP : (an * num (decide (bn < 0)) (mag bd)) = (an * bd) := by simp [num, x]; rw [eb]
      have eQ : (((mag ad : Nat) : Int) * ((mag bn : Nat) : Int)) = (ad * bn) := by
        have : ((mag bn : Nat) : Int) = bn := by unfold mag; omega
        rw [ea, this]
      rw [eP, eQ]; exact ⟨rfl, rfl, rfl⟩
  have nb0 : (bn == 0) = false := by simpa using nb
  have NB := Lib.hid nb
  clear nb
  have HA := Lib.hid (right_any an ad)
  have HB := Lib.hid (right_any bn bd)
  rw [ha] at HA
  rw [hb] at HB
  have RA := Lib.hid (rat_any an ad ha)
  have RB := Lib.hid (rat_any bn bd hb)
  clear ea eb mP mQ q0 ga gb  ha hb
  go_enter Try.func14, Try.ntmps14
  go_wp2_with fail
  refine (HA.out _).mono ?_
  rintro en w1 ⟨rfl, hb1⟩
  have g1 : Below w.heap.size w w1 := below_after (by go_grown) hb1
  obtain ⟨hc1, hf1, hl1, hm1, hn1, ho1⟩ := bsix hb1
  go_wp2_with fail
  refine (HB.out _).mono ?_
  rintro en w2 ⟨rfl, hb2⟩
  have g2 : Below w.heap.size w w2 := below_more g1 hb2 (by go_grown)
  have k2 := below_more hb1 hb2 (by go_grown)
  clear hc1 hf1 hl1 hm1 hn1 ho1 g1 hb1 hb2
  obtain ⟨hc2, hf2, hl2, hm2, hn2, ho2⟩ := bsix k2
  have zz := k2.size
  simp at zz
  have z0 : w.heap.size < w2.heap.size := by omega
  have z1 : w.heap.size + 1 < w2.heap.size := by omega
  have z2 : w.heap.size + 1 + 1 < w2.heap.size := by omega
  have z3 : w.heap.size + 1 + 1 + 1 < w2.heap.size := by omega
  clear zz
  go_wp2_with fail
  go_upto_region 6 with fail
  go_cut [8, 9] (fun s8 s9 wx => ∃ x y, s8 = .pointer (some ⟨x, 0, none⟩) ∧ s9 = .pointer (some ⟨y, 0, none⟩) ∧ Hid (RV wx x an (mag ad)) ∧ Hid (RV wx y bn (mag bd)) ∧ Below w2.heap.size w2 wx)
  case first =>
    go_region_law (first
      | (go_simp; go_at_call 18; refine (RA.out _).mono ?_; rintro en w3 ⟨rfl, hi3, hb3⟩; have q3 : Below w2.heap.size w2 w3 := below_after (by go_grown) hb3; obtain ⟨hc3, hf3, hl3, hm3, hn3, ho3⟩ := bsix q3; have HI3 := Lib.hid hi3; clear hi3)
      | (go_simp; go_at_call 18; refine (RB.out _).mono ?_; rintro en w4 ⟨rfl, hi4, hb4⟩; have q4 : Below w2.heap.size w2 w4 := below_after q3 hb4; have HI4 := Lib.hid hi4; clear hi4))
    all_goals
      go_wp2_with fail
      go_meet
      exact ⟨_, _, rfl, rfl, HI3.out.below hb4, HI4.out, q4⟩
  case rest =>
    obtain ⟨x, y, rfl, rfl, hx, hy, hb3⟩ := hcut
    have g3 := below_more g2 hb3 (by go_grown)
    have k3 := below_more k2 hb3 (by go_grown)
    have lz := hb3.size
    have H1' := hx
    have H2' := hy
    clear hc2 hf2 hl2 hm2 hn2 ho2 g2 hb3
    obtain ⟨hc3, hf3, hl3, hm3, hn3, ho3⟩ := bsix k3
    have H1 := Lib.hid (hx.out.below (new_below wc (.cells #[.bool false, .slice none 0 0, .bool false, .slice none 0 0] 46)))
    have H2 := Lib.hid (hy.out.below (new_below wc (.cells #[.bool false, .slice none 0 0, .bool false, .slice none 0 0] 46)))
    clear H1' H2' hx hy
    go_wp2_with fail
    refine (rquo_z _ _ _ (mag ad) (mag bd) an bn bu bv bp bq np nq NB.out GB.out _ (rhdr_new _) H1.out H2.out).mono ?_
    rintro en w5 ⟨rfl, hz, hc⟩
    have HZ := Lib.hid hz
    have b5 : Below wc.heap.size wc w5 := Below.trans (new_below wc _) (hc.below (by simp) (fun g hg hs => by omega))
    have g5 := below_after g3 b5
    have k5 := below_after k3 b5
    have lz5 := b5.size
    clear hz hc b5 g3 k3 hc3 hf3 hl3 hm3 hn3 ho3
    obtain ⟨hc5, hf5, hl5, hm5, hn5, ho5⟩ := bsix k5
    go_wp2_with fail
    refine (made_z _ (an * num (decide (bn < 0)) (mag bd)) (((mag ad : Nat) : Int) * ((mag bn : Nat) : Int)) MP.out MQ.out Q0.out _ HZ.out).mono ?_
    rintro en w6 ⟨rfl, hb6⟩
    have g6 := below_after g5 hb6
    have k6 := below_after k5 hb6
    clear g5 k5 hb6 hc5 hf5 hl5 hm5 hn5 ho5
    obtain ⟨hc6, hf6, hl6, hm6, hn6, ho6⟩ := bsix k6
    obtain ⟨e1, e2, e3⟩ := E1.out
    rw [e1, e2, e3]
    clear e1 e2 e3
    go_wp2_with fail
    refine bodyPost_ret (v := .tuple #[.agg #[.int .i64 (madeN (an * bd) (ad * bn)), .int .i64 (madeD (an * bd) (ad * bn))], .agg #[.int .i64 (madeC (an * bd) (ad * bn)), .int .i64 0]]) (by simp [results, Try.results14, go_sem, hc6, hl6, lt_two]) rfl ⟨rfl, ?_⟩
    have z := g6.size
    go_grown
set_option maxRecDepth 100000 in
set_option maxHeartbeats 4000000 in
theorem two_op4_zero (an ad bn bd : Int) (ha : fvalid an ad = true) (hb : fvalid bn bd = true) (nb : bn = 0) (w : World) : Calls Try.prog 14 #[.int .i64 4, .agg #[.int .i64 an, .int .i64 ad], .agg #[.int .i64 bn, .int .i64 bd]] w (Gives 0 0 6 0 w) := by
  have LT2 : ∀ n : Nat, n < n + 1 + 1 := lt_two
  have LT3 : ∀ n : Nat, n < n + 1 + 1 + 1 := fun n => by omega
  obtain ⟨a1, a2, a3, a4, ga⟩ := fvalid_bd ha
  obtain ⟨b1, b2, b3, b4, gb⟩ := fvalid_bd hb
  have bu : mag an ≤ 1073741824 := by unfold mag; omega
  have bv : mag bn ≤ 1073741824 := by unfold mag; omega
  have bp : mag ad ≤ 1073741824 := by unfold mag; omega
  have bq : mag bd ≤ 1073741824 := by unfold mag; omega
  have np : mag ad ≠ 0 := by unfold mag; omega
  have nq : mag bd ≠ 0 := by unfold mag; omega
  have ea : ((mag ad : Nat) : Int) = ad := by unfold mag; omega
  have eb : ((mag bd : Nat) : Int) = bd := by unfold mag; omega
  have GB := Lib.hid gb
  have HA := Lib.hid (right_any an ad)
  have HB := Lib.hid (right_any bn bd)
  rw [ha] at HA
  rw [hb] at HB
  have RA := Lib.hid (rat_any an ad ha)
  have RB := Lib.hid (rat_any bn bd hb)
  have nb0 : (bn == 0) = true := by simpa using nb
  clear nb ea eb ga gb  ha hb
  go_enter Try.func14, Try.ntmps14
  go_wp2_with fail
  refine (HA.out _).mono ?_
  rintro en w1 ⟨rfl, hb1⟩
  have g1 : Below w.heap.size w w1 := below_after (by go_grown) hb1
  obtain ⟨hc1, hf1, hl1, hm1, hn1, ho1⟩ := bsix hb1
  go_wp2_with fail
  refine (HB.out _).mono ?_
  rintro en w2 ⟨rfl, hb2⟩
  have g2 : Below w.heap.size w w2 := below_more g1 hb2 (by go_grown)
  have k2 := below_more hb1 hb2 (by go_grown)
  clear hc1 hf1 hl1 hm1 hn1 ho1 g1 hb1 hb2
  obtain ⟨hc2, hf2, hl2, hm2, hn2, ho2⟩ := bsix k2
  have zz := k2.size
  simp at zz
  have z0 : w.heap.size < w2.heap.size := by omega
  have z1 : w.heap.size + 1 < w2.heap.size := by omega
  have z2 : w.heap.size + 1 + 1 < w2.heap.size := by omega
  have z3 : w.heap.size + 1 + 1 + 1 < w2.heap.size := by omega
  clear zz
  go_wp2_with fail
  go_upto_region 6 with fail
  go_cut [8, 9] (fun s8 s9 wx => ∃ x y, s8 = .pointer (some ⟨x, 0, none⟩) ∧ s9 = .pointer (some ⟨y, 0, none⟩) ∧ Hid (RV wx x an (mag ad)) ∧ Hid (RV wx y bn (mag bd)) ∧ Below w2.heap.size w2 wx)
  case first =>
    go_region_law (first
      | (go_simp; go_at_call 18; refine (RA.out _).mono ?_; rintro en w3 ⟨rfl, hi3, hb3⟩; have q3 : Below w2.heap.size w2 w3 := below_after (by go_grown) hb3; obtain ⟨hc3, hf3, hl3, hm3, hn3, ho3⟩ := bsix q3; have HI3 := Lib.hid hi3; clear hi3)
      | (go_simp; go_at_call 18; refine (RB.out _).mono ?_; rintro en w4 ⟨rfl, hi4, hb4⟩; have q4 : Below w2.heap.size w2 w4 := below_after q3 hb4; have HI4 := Lib.hid hi4; clear hi4))
    all_goals
      go_wp2_with fail
      go_meet
      exact ⟨_, _, rfl, rfl, HI3.out.below hb4, HI4.out, q4⟩
  case rest =>
    obtain ⟨x, y, rfl, rfl, hx, hy, hb3⟩ := hcut
    have g3 := below_more g2 hb3 (by go_grown)
    have k3 := below_more k2 hb3 (by go_grown)
    have lz := hb3.size
    have H1' := hx
    have H2' := hy
    clear hc2 hf2 hl2 hm2 hn2 ho2 g2 hb3
    obtain ⟨hc3, hf3, hl3, hm3, hn3, ho3⟩ := bsix k3
    clear H1' H2' hx hy
    go_wp2_with fail
    refine bodyPost_ret (v := .tuple #[.agg #[.int .i64 0, .int .i64 0], .agg #[.int .i64 6, .int .i64 0]]) (by simp [results, Try.results14, go_sem, hc3, hl3, lt_two]) rfl ⟨rfl, ?_⟩
    have z := g3.size
    go_grown
end Go.Proofs.Ytapaggpkoelamaa
