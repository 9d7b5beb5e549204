/-
  The contract of the reference's FracFloor.
-/
import Derived.Test.YtapaggpkoelamaaWideS
namespace Go.Proofs.Ytapaggpkoelamaa
open Go.RowKit
attribute [local go_sem ↓] Go.wp_at_zero Go.wp_at_succ

set_option maxHeartbeats 4000000 in
theorem ffloor_any (n d : Int) (h : fvalid n d = true) (w : World) :
    Calls Try.prog 17 #[.agg #[.int .i64 n, .int .i64 d]] w (GivesN (n / d) w) := by
  obtain ⟨h1, h2, h3, h4, _⟩ := fvalid_bd h
  have n1 : -9223372036854775808 ≤ n := by omega
  have n2 : n ≤ 9223372036854775807 := by omega
  have d1 : -9223372036854775808 ≤ d := by omega
  have d2 : d ≤ 9223372036854775807 := by omega
  have hA : mag n ≤ 18446744073709551615 := mag_le n n1 n2
  have hB : mag d ≤ 18446744073709551615 := mag_le d d1 d2
  have h0 : mag d ≠ 0 := by unfold mag; omega
  have hd0 : decide (d < 0) = false := by simp; omega
  have ev : num (decide (n < 0)) (mag n) / ((mag d : Nat) : Int) = n / d := by
    have e : ((mag d : Nat) : Int) = d := by unfold mag; omega
    rw [num_of, e]
  have hV : mag (num (decide (n < 0)) (mag n) / ((mag d : Nat) : Int)) ≤ 9223372036854775807 := by
    rw [ev]
    have a1 : n / d ≤ 1073741824 := by
      apply Int.ediv_le_of_le_mul (by omega)
      have := Int.mul_le_mul_of_nonneg_left (a := 1) (b := d) (c := 1073741824) (by omega) (by omega)
      omega
    have a2 : -1073741824 ≤ n / d := by
      apply Int.le_ediv_of_mul_le (by omega)
      have := Int.mul_le_mul_of_nonneg_left (a := 1) (b := d) (c := 1073741824) (by omega) (by omega)
      omega
    unfold mag; omega
  have EV := Lib.hid ev
  clear h ev
  go_enter Try.func17, Try.ntmps17
  go_wp2_with fail
  go_region_law (first
    | (go_simp; go_at_call 23; refine (new_at n n1 n2 _).mono ?_; rintro en w1 ⟨rfl, hi1, hb1⟩; (try simp at hi1); obtain ⟨hc1, hf1, hl1, hm1, hn1, ho1⟩ := bsix hb1; have q1 : Below w.heap.size w w1 := below_after (by go_grown) hb1)
    | (go_simp; go_at_call 23; refine (new_at d d1 d2 _).mono ?_; rintro en w2 ⟨rfl, hi2, hb2⟩; (try simp at hi2); rw [hd0] at hi2; obtain ⟨hc2, hf2, hl2, hm2, hn2, ho2⟩ := bsix hb2; have q2 : Below w.heap.size w w2 := below_more q1 hb2 (by go_grown))
    | (go_simp; go_at_call 39; refine (div_any _ _ 0 _ 0 (mag n) (mag d) (decide (n < 0)) hA hB h0 _
        (by first | (have q := ((hdr_new _).drew.below hb1).below hb2; simpa using q) | (have q := ((hdr_new _).below hb1).below hb2; simpa using q) | (have q := (hdr_new w1).below hb2; simpa using q) | (have q := hdr_new w2; simpa using q))
        (by first | (with_reducible exact hi1.below hb2) | exact hi1.below (below_after (new_below w1 _) hb2) | exact (hi1.below hb2).below (new_below _ _))
        (by first | (with_reducible exact hi2) | exact hi2.below (new_below _ _)) (by have := q1.size; have := q2.size; have := hi1.1; have := hi2.1; omega) (by have := q1.size; have := q2.size; have := hi1.1; have := hi2.1; omega)).mono ?_; rintro en w3 ⟨rfl, hg3, hc3⟩)
    | (go_simp; go_at_call 40; refine (int64_any _ 0 (mag (num (decide (n < 0)) (mag n) / ((mag d : Nat) : Int))) _ hV _ hg3).mono ?_; rintro en w4 ⟨rfl, rfl⟩))
  all_goals
    go_wp2
    go_ret
    have z1 := q1.size
    have z2 := q2.size
    refine ⟨?_, ?_⟩
    · rw [num_of, EV.out]; rfl
    first
      | exact q2.trans (hc3.below (by omega) (fun g hg hs => by omega))
      | exact (q2.alloc (by omega) _).trans (hc3.below (by simp; omega) (fun g hg hs => by omega))
end Go.Proofs.Ytapaggpkoelamaa
