/-
  The contracts of the reference's FracRight, Rat and FracFloor.
-/
import Derived.Test.YtapaggpkoelamaaWideR
import Derived.Deep.DeepCutAuto
namespace Go.Proofs.Ytapaggpkoelamaa
open Go.RowKit
attribute [local go_sem ↓] Go.wp_at_zero Go.wp_at_succ

set_option maxHeartbeats 2000000 in
theorem cmp_pos (b o n b' o' n' : Nat) (M : Nat) (hM : M ≤ 1073741824) (hn : n < 4294967296 ^ M) (hn' : n' < 4294967296 ^ M) (w : World) (h : IntAt w b o false n) (h' : IntAt w b' o' false n') :
    Calls Try.prog 37 #[.pointer (some ⟨b, o, none⟩), .pointer (some ⟨b', o', none⟩)] w fun e w' => e = .returned (.int .i64 (cmpN n n')) ∧ ∃ k, w' = w.drewN k := by
  obtain ⟨k1, _, _, _, k5, _⟩ := id h
  obtain ⟨j1, _, _, _, j5, _⟩ := id h'
  have H := Lib.hid h
  have H' := Lib.hid h'
  have HN := Lib.hid hn
  have HN' := Lib.hid hn'
  clear h h' hn hn'
  go_enter Try.func37, Try.ntmps37
  go_wp2_with fail
  go_quiet (fail)
  go_wp2_with fail
  refine (cmpabs_any b o n b' o' n' false false M hM HN.out HN'.out _ (H.out.below (drew_below _ _)) (H'.out.below (drew_below _ _))).mono ?_
  rintro en w1 ⟨rfl, k, rfl⟩
  go_wp2
  go_ret
  exact ⟨rfl, _, rfl⟩
def GivesT (k : Bool) (w : World) (e : Ending) (w' : World) : Prop := e = .returned (.bool k) ∧ Below w.heap.size w w'
theorem Hdr.drew {w : World} {b o : Nat} (h : Hdr w b o) : Hdr w.drew b o := h
theorem IntAt.drew {w : World} {b o n : Nat} {s : Bool} (h : IntAt w b o s n) : IntAt w.drew b o s n := h
theorem one_nat {w : World} {b : Nat} (h : IntAt w b 0 (decide ((1 : Int) < 0)) (mag 1)) : IntAt w b 0 false 1 := h
set_option maxHeartbeats 4000000 in
theorem right_in (n d : Int) (k : Bool) (h1 : 1 ≤ d) (h2 : d ≤ 1073741824) (h3 : -1073741824 ≤ n) (h4 : n ≤ 1073741824) (hk : (cmpN (Nat.gcd (mag n) (mag d)) 1 == 0) = k) (w : World) :
    Calls Try.prog 15 #[.agg #[.int .i64 n, .int .i64 d]] w (GivesT k w) := by
  have n1 : -9223372036854775808 ≤ n := by omega
  have n2 : n ≤ 9223372036854775807 := by omega
  have d1 : -9223372036854775808 ≤ d := by omega
  have d2 : d ≤ 9223372036854775807 := by omega
  have hA : mag n ≤ 18446744073709551615 := mag_le n n1 n2
  have hB : mag d ≤ 18446744073709551615 := mag_le d d1 d2
  obtain ⟨G, hG⟩ : ∃ G, Nat.gcd (mag n) (mag d) = G := ⟨_, rfl⟩
  rw [hG] at hk
  have gle : G < 4294967296 ^ 2 := by
    rw [← hG]
    refine Nat.lt_of_le_of_lt (Nat.gcd_le_right _ (by unfold mag; omega)) (below_two hB)
  have HG := Lib.hid hG
  have GL := Lib.hid gle
  clear hG gle
  go_enter Try.func15, Try.ntmps15
  go_wp2_with fail
  go_upto_region 4 with fail
  go_cut [3] (fun s3 wx => ∃ z, s3 = .pointer (some ⟨z, 0, none⟩) ∧ Hid (IntAt wx z 0 false G) ∧ Below w.heap.size w wx)
  case first =>
    go_region_law (first
      | (go_simp; go_at_call 23; refine (new_at n n1 n2 _).mono ?_; rintro en w1 ⟨rfl, hi1, hb1⟩; (try simp at hi1); obtain ⟨hc1, hf1, hl1, hm1, hn1, ho1⟩ := bsix hb1; have q1 : Below w.heap.size w w1 := below_after (by go_grown) hb1)
      | (go_simp; go_at_call 23; refine (new_at d d1 d2 _).mono ?_; rintro en w2 ⟨rfl, hi2, hb2⟩; (try simp at hi2); obtain ⟨hc2, hf2, hl2, hm2, hn2, ho2⟩ := bsix hb2; have q2 : Below w.heap.size w w2 := below_more q1 hb2 (by go_grown))
      | (go_simp; go_at_call 36; refine (gcd_any _ _ 0 _ 0 (mag n) (mag d) (decide (n < 0)) (decide (d < 0)) hA hB _
          (by first | (have q := ((hdr_new _).drew.below hb1).below hb2; simpa using q) | (have q := ((hdr_new _).below hb1).below hb2; simpa using q) | (have q := (hdr_new w1).below hb2; simpa using q) | (have q := hdr_new w2; simpa using q))
          (by first | (with_reducible exact hi1.below hb2) | exact hi1.below (below_after (new_below w1 _) hb2) | exact (hi1.below hb2).below (new_below _ _))
          (by first | (with_reducible exact hi2) | exact hi2.below (new_below _ _))).mono ?_; rintro en w3 ⟨rfl, hg3, hc3⟩))
    all_goals
      go_wp2_with fail
      go_meet
      rw [HG.out] at hg3
      have z1 := q1.size
      have z2 := q2.size
      refine ⟨_, rfl, hg3, ?_⟩
      first
        | exact q2.trans (hc3.below (by omega) (fun g hg hs => by omega))
        | exact (q2.alloc (by omega) _).trans (hc3.below (by simp; omega) (fun g hg hs => by omega))
  case rest =>
    obtain ⟨z, rfl, hi, hb⟩ := hcut
    have lz := hi.out.1
    go_wp2_with fail
    refine (new_at 1 (by omega) (by omega) _).mono ?_
    rintro en w4 ⟨rfl, ho, hb4⟩
    have HO := Lib.hid (one_nat ho)
    have HZ4 := Lib.hid (hi.out.below hb4)
    have g4 : Below w.heap.size w w4 := below_after hb hb4
    clear ho hb4
    go_wp2_with fail
    refine (cmp_pos z 0 G _ 0 1 2 (by omega) GL.out (by omega) _ HZ4.out HO.out).mono ?_
    rintro en w5 ⟨rfl, k', rfl⟩
    go_wp2
    go_ret
    exact ⟨rfl, below_drewN g4 _⟩
theorem right_out (n d : Int) (h : ¬ (1 ≤ d ∧ d ≤ 1073741824 ∧ -1073741824 ≤ n ∧ n ≤ 1073741824)) (w : World) :
    Calls Try.prog 15 #[.agg #[.int .i64 n, .int .i64 d]] w (GivesT false w) := by
  by_cases c1 : d < 1
  · have t1 : decide (d < 1) = true := by simpa using c1
    clear h
    go_enter Try.func15, Try.ntmps15
    go_wp2
    go_ret
    exact ⟨rfl, new_below w _⟩
  · have t1 : decide (d < 1) = false := by simpa using c1
    by_cases c2 : 1073741824 < d
    · have t2 : decide (1073741824 < d) = true := by simpa using c2
      clear h
      go_enter Try.func15, Try.ntmps15
      go_wp2
      go_ret
      exact ⟨rfl, new_below w _⟩
    · have t2 : decide (1073741824 < d) = false := by simpa using c2
      by_cases c3 : n < -1073741824
      · have t3 : decide (n < -1073741824) = true := by simpa using c3
        clear h
        go_enter Try.func15, Try.ntmps15
        go_wp2
        go_ret
        exact ⟨rfl, new_below w _⟩
      · have t3 : decide (n < -1073741824) = false := by simpa using c3
        have c4 : 1073741824 < n := by omega
        have t4 : decide (1073741824 < n) = true := by simpa using c4
        clear h
        go_enter Try.func15, Try.ntmps15
        go_wp2
        go_ret
        exact ⟨rfl, new_below w _⟩
theorem right_any (n d : Int) (w : World) : Calls Try.prog 15 #[.agg #[.int .i64 n, .int .i64 d]] w (GivesT (fvalid n d) w) := by
  by_cases h : 1 ≤ d ∧ d ≤ 1073741824 ∧ -1073741824 ≤ n ∧ n ≤ 1073741824
  · obtain ⟨h1, h2, h3, h4⟩ := h
    refine right_in n d _ h1 h2 h3 h4 ?_ w
    have gp : 0 < Nat.gcd (mag n) (mag d) := Nat.gcd_pos_of_pos_right _ (by unfold mag; omega)
    by_cases g : Nat.gcd (mag n) (mag d) = 1
    · have k1 : fvalid n d = true := by unfold fvalid; rw [decide_eq_true_iff]; exact ⟨h1, h2, h3, h4, g⟩
      rw [k1, g]; rfl
    · have k1 : fvalid n d = false := by unfold fvalid; rw [decide_eq_false_iff_not]; intro ⟨_, _, _, _, e⟩; exact g e
      have k2 : cmpN (Nat.gcd (mag n) (mag d)) 1 = 1 := by unfold cmpN; rw [if_neg (by omega), if_pos (by omega)]
      rw [k1, k2]; rfl
  · rw [← fvalid_no h]; exact right_out n d h w
/-- A fraction's wide one. -/
def RatMade (n : Int) (d : Nat) (w : World) (e : Ending) (w' : World) : Prop := e = .returned (.pointer (some ⟨w.heap.size + 1, 0, none⟩)) ∧ RV w' (w.heap.size + 1) n d ∧ Below w.heap.size w w'
theorem rat_any (n d : Int) (h : fvalid n d = true) (w : World) : Calls Try.prog 18 #[.agg #[.int .i64 n, .int .i64 d]] w (RatMade n (mag d) w) := by
  obtain ⟨h1, h2, h3, h4, hg⟩ := fvalid_bd h
  have HG := Lib.hid hg
  clear h hg
  go_enter Try.func18, Try.ntmps18
  go_wp2_with fail
  refine (newrat_z n d (by unfold mag; omega) (by omega) h2 HG.out _).mono ?_
  rintro en w1 ⟨rfl, hi, hb⟩
  have hi' : RV w1 (w.heap.size + 1) n (mag d) := by simpa using hi
  have HI := Lib.hid hi'
  clear hi hi'
  go_wp2
  go_ret
  exact ⟨rfl, HI.out, below_after (new_below w _) hb⟩
end Go.Proofs.Ytapaggpkoelamaa
