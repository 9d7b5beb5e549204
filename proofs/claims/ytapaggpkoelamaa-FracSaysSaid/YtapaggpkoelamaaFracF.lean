/-
  The closed fact of the laws of fractions, and the law FracFloors: a fraction lies between its floor and one more.
-/
import Derived.Test.YtapaggpkoelamaaFracE
namespace Go.Proofs.Ytapaggpkoelamaa
open Go.RowKit

theorem add_fact (w : World) : Calls Try.prog 8 #[.agg #[.int .i64 1, .int .i64 2], .agg #[.int .i64 1, .int .i64 3]] w (Gives 5 6 0 0 w) := add_good 1 2 1 3 w (by decide) (by decide)
theorem floor_fact (w : World) : Calls Try.prog 13 #[.agg #[.int .i64 (-7), .int .i64 2]] w (GivesI (-4) 0 0 w) := floor_good (-7) 2 w (by decide)
theorem less_fact (w : World) : Calls Try.prog 12 #[.agg #[.int .i64 1, .int .i64 3], .agg #[.int .i64 1, .int .i64 2]] w (GivesB true 0 0 w) := less_good 1 3 1 2 w (by decide) (by decide)
set_option maxHeartbeats 1000000 in
theorem fact_any (w : World) : Calls Try.prog 24 #[] w fun e w' => e = .returned (.bool true) ∧ Below w.heap.size w w' := by
  have LT2 : ∀ n : Nat, n < n + 1 + 1 := lt_two
  go_enter Try.func24, Try.ntmps24
  go_wp2_with fail
  refine (add_fact _).mono ?_
  rintro e w1 ⟨rfl, hb1⟩
  have g1 : Below w.heap.size w w1 := below_after (by go_grown) hb1
  go_wp2_with fail
  refine (floor_fact _).mono ?_
  rintro e w2 ⟨rfl, hb2⟩
  have g2 : Below w.heap.size w w2 := below_more g1 hb2 (by go_grown)
  clear g1
  obtain ⟨hc2, hf2, hl2, hm2⟩ := bfour hb2
  go_wp2_with fail
  refine (less_fact _).mono ?_
  rintro e w3 ⟨rfl, hb3⟩
  have g3 : Below w.heap.size w w3 := below_more g2 hb3 (by go_grown)
  have hb3_2 := below_more hb2 hb3 (by go_grown)
  clear hc2 hf2 hl2 hm2 g2
  obtain ⟨hc3_2, hf3_2, hl3_2, hm3_2⟩ := bfour hb3_2
  obtain ⟨hc3, hf3, hl3, hm3⟩ := bfour hb3
  go_wp2_with fail
  go_ret
  refine ⟨rfl, ?_⟩
  have z := g3.size
  go_grown

set_option maxHeartbeats 1000000 in
theorem floors_bad (n d m : Int) (w : World) (h : fvalid n d = false) :
    Calls Try.prog 7 #[.agg #[.int .i64 n, .int .i64 d], .int .i64 m] w fun e w' => e = .returned (.bool true) ∧ Below w.heap.size w w' := by
  have LT2 : ∀ n : Nat, n < n + 1 + 1 := lt_two
  go_enter Try.func7, Try.ntmps7
  go_wp2_with fail
  refine (fact_any _).mono ?_
  rintro e w1 ⟨rfl, hb1⟩
  have g1 : Below w.heap.size w w1 := below_after (by go_grown) hb1
  obtain ⟨hc1, hf1, hl1, hm1⟩ := bfour hb1
  go_wp2_with fail
  refine (floor_bad _ _ _ h).mono ?_
  rintro e w2 ⟨rfl, hb2⟩
  have g2 : Below w.heap.size w w2 := below_more g1 hb2 (by go_grown)
  have hb2_1 := below_more hb1 hb2 (by go_grown)
  clear hc1 hf1 hl1 hm1 g1
  obtain ⟨hc2_1, hf2_1, hl2_1, hm2_1⟩ := bfour hb2_1
  go_wp2_with fail
  go_ret
  refine ⟨rfl, ?_⟩
  have z := g2.size
  go_grown

set_option maxHeartbeats 1000000 in
theorem floors_fit_in (n d m : Int) (w : World) (k : Int) (k1 : -1073741824 ≤ k) (k2 : k ≤ 1073741824) (hf : ∀ w, Calls Try.prog 13 #[.agg #[.int .i64 n, .int .i64 d]] w (GivesI k 0 0 w)) (hl : ∀ w, Calls Try.prog 12 #[.agg #[.int .i64 n, .int .i64 d], .agg #[.int .i64 k, .int .i64 1]] w (GivesB false 0 0 w)) (hh : ∀ w, Calls Try.prog 12 #[.agg #[.int .i64 n, .int .i64 d], .agg #[.int .i64 (k + 1), .int .i64 1]] w (GivesB true 0 0 w)) (hi : -1073741824 ≤ m) (hj : m ≤ 1073741824) (hw : ∀ w, Calls Try.prog 13 #[.agg #[.int .i64 m, .int .i64 1]] w (GivesI m 0 0 w)) :
    Calls Try.prog 7 #[.agg #[.int .i64 n, .int .i64 d], .int .i64 m] w fun e w' => e = .returned (.bool true) ∧ Below w.heap.size w w' := by
  have LT2 : ∀ n : Nat, n < n + 1 + 1 := lt_two
  go_enter Try.func7, Try.ntmps7
  go_wp2_with fail
  refine (fact_any _).mono ?_
  rintro e w1 ⟨rfl, hb1⟩
  have g1 : Below w.heap.size w w1 := below_after (by go_grown) hb1
  obtain ⟨hc1, hf1, hl1, hm1⟩ := bfour hb1
  go_wp2_with fail
  refine (hf _).mono ?_
  rintro e w2 ⟨rfl, hb2⟩
  have g2 : Below w.heap.size w w2 := below_more g1 hb2 (by go_grown)
  have hb2_1 := below_more hb1 hb2 (by go_grown)
  clear hc1 hf1 hl1 hm1 g1
  obtain ⟨hc2_1, hf2_1, hl2_1, hm2_1⟩ := bfour hb2_1
  go_wp2_with fail
  refine (hl _).mono ?_
  rintro e w3 ⟨rfl, hb3⟩
  have g3 : Below w.heap.size w w3 := below_more g2 hb3 (by go_grown)
  have hb3_1 := below_more hb2_1 hb3 (by go_grown)
  clear hc2_1 hf2_1 hl2_1 hm2_1 g2
  obtain ⟨hc3_1, hf3_1, hl3_1, hm3_1⟩ := bfour hb3_1
  obtain ⟨hc3, hf3, hl3, hm3⟩ := bfour hb3
  go_wp2_with fail
  refine (hh _).mono ?_
  rintro e w4 ⟨rfl, hb4⟩
  have g4 : Below w.heap.size w w4 := below_more g3 hb4 (by go_grown)
  have hb4_1 := below_more hb3_1 hb4 (by go_grown)
  have hb4_3 := below_more hb3 hb4 (by go_grown)
  clear hc3_1 hf3_1 hl3_1 hm3_1 hc3 hf3 hl3 hm3 g3
  obtain ⟨hc4_1, hf4_1, hl4_1, hm4_1⟩ := bfour hb4_1
  obtain ⟨hc4_3, hf4_3, hl4_3, hm4_3⟩ := bfour hb4_3
  obtain ⟨hc4, hf4, hl4, hm4⟩ := bfour hb4
  go_wp2_with fail
  refine (hw _).mono ?_
  rintro e w5 ⟨rfl, hb5⟩
  have g5 : Below w.heap.size w w5 := below_more g4 hb5 (by go_grown)
  have hb5_1 := below_more hb4_1 hb5 (by go_grown)
  have hb5_3 := below_more hb4_3 hb5 (by go_grown)
  have hb5_4 := below_more hb4 hb5 (by go_grown)
  clear hc4_1 hf4_1 hl4_1 hm4_1 hc4_3 hf4_3 hl4_3 hm4_3 hc4 hf4 hl4 hm4 g4
  obtain ⟨hc5_1, hf5_1, hl5_1, hm5_1⟩ := bfour hb5_1
  obtain ⟨hc5_3, hf5_3, hl5_3, hm5_3⟩ := bfour hb5_3
  obtain ⟨hc5_4, hf5_4, hl5_4, hm5_4⟩ := bfour hb5_4
  obtain ⟨hc5, hf5, hl5, hm5⟩ := bfour hb5
  go_wp2_with fail
  go_ret
  refine ⟨rfl, ?_⟩
  have z := g5.size
  go_grown

set_option maxHeartbeats 1000000 in
theorem floors_fit_lo (n d m : Int) (w : World) (k : Int) (k1 : -1073741824 ≤ k) (k2 : k ≤ 1073741824) (hf : ∀ w, Calls Try.prog 13 #[.agg #[.int .i64 n, .int .i64 d]] w (GivesI k 0 0 w)) (hl : ∀ w, Calls Try.prog 12 #[.agg #[.int .i64 n, .int .i64 d], .agg #[.int .i64 k, .int .i64 1]] w (GivesB false 0 0 w)) (hh : ∀ w, Calls Try.prog 12 #[.agg #[.int .i64 n, .int .i64 d], .agg #[.int .i64 (k + 1), .int .i64 1]] w (GivesB true 0 0 w)) (hi : decide (m < -1073741824) = true) :
    Calls Try.prog 7 #[.agg #[.int .i64 n, .int .i64 d], .int .i64 m] w fun e w' => e = .returned (.bool true) ∧ Below w.heap.size w w' := by
  have LT2 : ∀ n : Nat, n < n + 1 + 1 := lt_two
  go_enter Try.func7, Try.ntmps7
  go_wp2_with fail
  refine (fact_any _).mono ?_
  rintro e w1 ⟨rfl, hb1⟩
  have g1 : Below w.heap.size w w1 := below_after (by go_grown) hb1
  obtain ⟨hc1, hf1, hl1, hm1⟩ := bfour hb1
  go_wp2_with fail
  refine (hf _).mono ?_
  rintro e w2 ⟨rfl, hb2⟩
  have g2 : Below w.heap.size w w2 := below_more g1 hb2 (by go_grown)
  have hb2_1 := below_more hb1 hb2 (by go_grown)
  clear hc1 hf1 hl1 hm1 g1
  obtain ⟨hc2_1, hf2_1, hl2_1, hm2_1⟩ := bfour hb2_1
  go_wp2_with fail
  refine (hl _).mono ?_
  rintro e w3 ⟨rfl, hb3⟩
  have g3 : Below w.heap.size w w3 := below_more g2 hb3 (by go_grown)
  have hb3_1 := below_more hb2_1 hb3 (by go_grown)
  clear hc2_1 hf2_1 hl2_1 hm2_1 g2
  obtain ⟨hc3_1, hf3_1, hl3_1, hm3_1⟩ := bfour hb3_1
  obtain ⟨hc3, hf3, hl3, hm3⟩ := bfour hb3
  go_wp2_with fail
  refine (hh _).mono ?_
  rintro e w4 ⟨rfl, hb4⟩
  have g4 : Below w.heap.size w w4 := below_more g3 hb4 (by go_grown)
  have hb4_1 := below_more hb3_1 hb4 (by go_grown)
  have hb4_3 := below_more hb3 hb4 (by go_grown)
  clear hc3_1 hf3_1 hl3_1 hm3_1 hc3 hf3 hl3 hm3 g3
  obtain ⟨hc4_1, hf4_1, hl4_1, hm4_1⟩ := bfour hb4_1
  obtain ⟨hc4_3, hf4_3, hl4_3, hm4_3⟩ := bfour hb4_3
  obtain ⟨hc4, hf4, hl4, hm4⟩ := bfour hb4
  go_wp2_with fail
  go_ret
  refine ⟨rfl, ?_⟩
  have z := g4.size
  go_grown

set_option maxHeartbeats 1000000 in
theorem floors_fit_hi (n d m : Int) (w : World) (k : Int) (k1 : -1073741824 ≤ k) (k2 : k ≤ 1073741824) (hf : ∀ w, Calls Try.prog 13 #[.agg #[.int .i64 n, .int .i64 d]] w (GivesI k 0 0 w)) (hl : ∀ w, Calls Try.prog 12 #[.agg #[.int .i64 n, .int .i64 d], .agg #[.int .i64 k, .int .i64 1]] w (GivesB false 0 0 w)) (hh : ∀ w, Calls Try.prog 12 #[.agg #[.int .i64 n, .int .i64 d], .agg #[.int .i64 (k + 1), .int .i64 1]] w (GivesB true 0 0 w)) (hi : decide (m < -1073741824) = false) (hj : decide (1073741824 < m) = true) :
    Calls Try.prog 7 #[.agg #[.int .i64 n, .int .i64 d], .int .i64 m] w fun e w' => e = .returned (.bool true) ∧ Below w.heap.size w w' := by
  have LT2 : ∀ n : Nat, n < n + 1 + 1 := lt_two
  go_enter Try.func7, Try.ntmps7
  go_wp2_with fail
  refine (fact_any _).mono ?_
  rintro e w1 ⟨rfl, hb1⟩
  have g1 : Below w.heap.size w w1 := below_after (by go_grown) hb1
  obtain ⟨hc1, hf1, hl1, hm1⟩ := bfour hb1
  go_wp2_with fail
  refine (hf _).mono ?_
  rintro e w2 ⟨rfl, hb2⟩
  have g2 : Below w.heap.size w w2 := below_more g1 hb2 (by go_grown)
  have hb2_1 := below_more hb1 hb2 (by go_grown)
  clear hc1 hf1 hl1 hm1 g1
  obtain ⟨hc2_1, hf2_1, hl2_1, hm2_1⟩ := bfour hb2_1
  go_wp2_with fail
  refine (hl _).mono ?_
  rintro e w3 ⟨rfl, hb3⟩
  have g3 : Below w.heap.size w w3 := below_more g2 hb3 (by go_grown)
  have hb3_1 := below_more hb2_1 hb3 (by go_grown)
  clear hc2_1 hf2_1 hl2_1 hm2_1 g2
  obtain ⟨hc3_1, hf3_1, hl3_1, hm3_1⟩ := bfour hb3_1
  obtain ⟨hc3, hf3, hl3, hm3⟩ := bfour hb3
  go_wp2_with fail
  refine (hh _).mono ?_
  rintro e w4 ⟨rfl, hb4⟩
  have g4 : Below w.heap.size w w4 := below_more g3 hb4 (by go_grown)
  have hb4_1 := below_more hb3_1 hb4 (by go_grown)
  have hb4_3 := below_more hb3 hb4 (by go_grown)
  clear hc3_1 hf3_1 hl3_1 hm3_1 hc3 hf3 hl3 hm3 g3
  obtain ⟨hc4_1, hf4_1, hl4_1, hm4_1⟩ := bfour hb4_1
  obtain ⟨hc4_3, hf4_3, hl4_3, hm4_3⟩ := bfour hb4_3
  obtain ⟨hc4, hf4, hl4, hm4⟩ := bfour hb4
  go_wp2_with fail
  go_ret
  refine ⟨rfl, ?_⟩
  have z := g4.size
  go_grown

set_option maxHeartbeats 1000000 in
theorem floors_over_in (n d m : Int) (w : World) (k : Int) (k1 : -1073741824 ≤ k) (k2 : k ≤ 1073741824) (hf : ∀ w, Calls Try.prog 13 #[.agg #[.int .i64 n, .int .i64 d]] w (GivesI k 0 0 w)) (hl : ∀ w, Calls Try.prog 12 #[.agg #[.int .i64 n, .int .i64 d], .agg #[.int .i64 k, .int .i64 1]] w (GivesB false 0 0 w)) (hh : ∀ w, Calls Try.prog 12 #[.agg #[.int .i64 n, .int .i64 d], .agg #[.int .i64 (k + 1), .int .i64 1]] w (GivesB false 3 1 w)) (hi : -1073741824 ≤ m) (hj : m ≤ 1073741824) (hw : ∀ w, Calls Try.prog 13 #[.agg #[.int .i64 m, .int .i64 1]] w (GivesI m 0 0 w)) :
    Calls Try.prog 7 #[.agg #[.int .i64 n, .int .i64 d], .int .i64 m] w fun e w' => e = .returned (.bool true) ∧ Below w.heap.size w w' := by
  have LT2 : ∀ n : Nat, n < n + 1 + 1 := lt_two
  go_enter Try.func7, Try.ntmps7
  go_wp2_with fail
  refine (fact_any _).mono ?_
  rintro e w1 ⟨rfl, hb1⟩
  have g1 : Below w.heap.size w w1 := below_after (by go_grown) hb1
  obtain ⟨hc1, hf1, hl1, hm1⟩ := bfour hb1
  go_wp2_with fail
  refine (hf _).mono ?_
  rintro e w2 ⟨rfl, hb2⟩
  have g2 : Below w.heap.size w w2 := below_more g1 hb2 (by go_grown)
  have hb2_1 := below_more hb1 hb2 (by go_grown)
  clear hc1 hf1 hl1 hm1 g1
  obtain ⟨hc2_1, hf2_1, hl2_1, hm2_1⟩ := bfour hb2_1
  go_wp2_with fail
  refine (hl _).mono ?_
  rintro e w3 ⟨rfl, hb3⟩
  have g3 : Below w.heap.size w w3 := below_more g2 hb3 (by go_grown)
  have hb3_1 := below_more hb2_1 hb3 (by go_grown)
  clear hc2_1 hf2_1 hl2_1 hm2_1 g2
  obtain ⟨hc3_1, hf3_1, hl3_1, hm3_1⟩ := bfour hb3_1
  obtain ⟨hc3, hf3, hl3, hm3⟩ := bfour hb3
  go_wp2_with fail
  refine (hh _).mono ?_
  rintro e w4 ⟨rfl, hb4⟩
  have g4 : Below w.heap.size w w4 := below_more g3 hb4 (by go_grown)
  have hb4_1 := below_more hb3_1 hb4 (by go_grown)
  have hb4_3 := below_more hb3 hb4 (by go_grown)
  clear hc3_1 hf3_1 hl3_1 hm3_1 hc3 hf3 hl3 hm3 g3
  obtain ⟨hc4_1, hf4_1, hl4_1, hm4_1⟩ := bfour hb4_1
  obtain ⟨hc4_3, hf4_3, hl4_3, hm4_3⟩ := bfour hb4_3
  obtain ⟨hc4, hf4, hl4, hm4⟩ := bfour hb4
  go_wp2_with fail
  refine (hw _).mono ?_
  rintro e w5 ⟨rfl, hb5⟩
  have g5 : Below w.heap.size w w5 := below_more g4 hb5 (by go_grown)
  have hb5_1 := below_more hb4_1 hb5 (by go_grown)
  have hb5_3 := below_more hb4_3 hb5 (by go_grown)
  have hb5_4 := below_more hb4 hb5 (by go_grown)
  clear hc4_1 hf4_1 hl4_1 hm4_1 hc4_3 hf4_3 hl4_3 hm4_3 hc4 hf4 hl4 hm4 g4
  obtain ⟨hc5_1, hf5_1, hl5_1, hm5_1⟩ := bfour hb5_1
  obtain ⟨hc5_3, hf5_3, hl5_3, hm5_3⟩ := bfour hb5_3
  obtain ⟨hc5_4, hf5_4, hl5_4, hm5_4⟩ := bfour hb5_4
  obtain ⟨hc5, hf5, hl5, hm5⟩ := bfour hb5
  go_wp2_with fail
  go_ret
  refine ⟨rfl, ?_⟩
  have z := g5.size
  go_grown

set_option maxHeartbeats 1000000 in
theorem floors_over_lo (n d m : Int) (w : World) (k : Int) (k1 : -1073741824 ≤ k) (k2 : k ≤ 1073741824) (hf : ∀ w, Calls Try.prog 13 #[.agg #[.int .i64 n, .int .i64 d]] w (GivesI k 0 0 w)) (hl : ∀ w, Calls Try.prog 12 #[.agg #[.int .i64 n, .int .i64 d], .agg #[.int .i64 k, .int .i64 1]] w (GivesB false 0 0 w)) (hh : ∀ w, Calls Try.prog 12 #[.agg #[.int .i64 n, .int .i64 d], .agg #[.int .i64 (k + 1), .int .i64 1]] w (GivesB false 3 1 w)) (hi : decide (m < -1073741824) = true) :
    Calls Try.prog 7 #[.agg #[.int .i64 n, .int .i64 d], .int .i64 m] w fun e w' => e = .returned (.bool true) ∧ Below w.heap.size w w' := by
  have LT2 : ∀ n : Nat, n < n + 1 + 1 := lt_two
  go_enter Try.func7, Try.ntmps7
  go_wp2_with fail
  refine (fact_any _).mono ?_
  rintro e w1 ⟨rfl, hb1⟩
  have g1 : Below w.heap.size w w1 := below_after (by go_grown) hb1
  obtain ⟨hc1, hf1, hl1, hm1⟩ := bfour hb1
  go_wp2_with fail
  refine (hf _).mono ?_
  rintro e w2 ⟨rfl, hb2⟩
  have g2 : Below w.heap.size w w2 := below_more g1 hb2 (by go_grown)
  have hb2_1 := below_more hb1 hb2 (by go_grown)
  clear hc1 hf1 hl1 hm1 g1
  obtain ⟨hc2_1, hf2_1, hl2_1, hm2_1⟩ := bfour hb2_1
  go_wp2_with fail
  refine (hl _).mono ?_
  rintro e w3 ⟨rfl, hb3⟩
  have g3 : Below w.heap.size w w3 := below_more g2 hb3 (by go_grown)
  have hb3_1 := below_more hb2_1 hb3 (by go_grown)
  clear hc2_1 hf2_1 hl2_1 hm2_1 g2
  obtain ⟨hc3_1, hf3_1, hl3_1, hm3_1⟩ := bfour hb3_1
  obtain ⟨hc3, hf3, hl3, hm3⟩ := bfour hb3
  go_wp2_with fail
  refine (hh _).mono ?_
  rintro e w4 ⟨rfl, hb4⟩
  have g4 : Below w.heap.size w w4 := below_more g3 hb4 (by go_grown)
  have hb4_1 := below_more hb3_1 hb4 (by go_grown)
  have hb4_3 := below_more hb3 hb4 (by go_grown)
  clear hc3_1 hf3_1 hl3_1 hm3_1 hc3 hf3 hl3 hm3 g3
  obtain ⟨hc4_1, hf4_1, hl4_1, hm4_1⟩ := bfour hb4_1
  obtain ⟨hc4_3, hf4_3, hl4_3, hm4_3⟩ := bfour hb4_3
  obtain ⟨hc4, hf4, hl4, hm4⟩ := bfour hb4
  go_wp2_with fail
  go_ret
  refine ⟨rfl, ?_⟩
  have z := g4.size
  go_grown

set_option maxHeartbeats 1000000 in
theorem floors_over_hi (n d m : Int) (w : World) (k : Int) (k1 : -1073741824 ≤ k) (k2 : k ≤ 1073741824) (hf : ∀ w, Calls Try.prog 13 #[.agg #[.int .i64 n, .int .i64 d]] w (GivesI k 0 0 w)) (hl : ∀ w, Calls Try.prog 12 #[.agg #[.int .i64 n, .int .i64 d], .agg #[.int .i64 k, .int .i64 1]] w (GivesB false 0 0 w)) (hh : ∀ w, Calls Try.prog 12 #[.agg #[.int .i64 n, .int .i64 d], .agg #[.int .i64 (k + 1), .int .i64 1]] w (GivesB false 3 1 w)) (hi : decide (m < -1073741824) = false) (hj : decide (1073741824 < m) = true) :
    Calls Try.prog 7 #[.agg #[.int .i64 n, .int .i64 d], .int .i64 m] w fun e w' => e = .returned (.bool true) ∧ Below w.heap.size w w' := by
  have LT2 : ∀ n : Nat, n < n + 1 + 1 := lt_two
  go_enter Try.func7, Try.ntmps7
  go_wp2_with fail
  refine (fact_any _).mono ?_
  rintro e w1 ⟨rfl, hb1⟩
  have g1 : Below w.heap.size w w1 := below_after (by go_grown) hb1
  obtain ⟨hc1, hf1, hl1, hm1⟩ := bfour hb1
  go_wp2_with fail
  refine (hf _).mono ?_
  rintro e w2 ⟨rfl, hb2⟩
  have g2 : Below w.heap.size w w2 := below_more g1 hb2 (by go_grown)
  have hb2_1 := below_more hb1 hb2 (by go_grown)
  clear hc1 hf1 hl1 hm1 g1
  obtain ⟨hc2_1, hf2_1, hl2_1, hm2_1⟩ := bfour hb2_1
  go_wp2_with fail
  refine (hl _).mono ?_
  rintro e w3 ⟨rfl, hb3⟩
  have g3 : Below w.heap.size w w3 := below_more g2 hb3 (by go_grown)
  have hb3_1 := below_more hb2_1 hb3 (by go_grown)
  clear hc2_1 hf2_1 hl2_1 hm2_1 g2
  obtain ⟨hc3_1, hf3_1, hl3_1, hm3_1⟩ := bfour hb3_1
  obtain ⟨hc3, hf3, hl3, hm3⟩ := bfour hb3
  go_wp2_with fail
  refine (hh _).mono ?_
  rintro e w4 ⟨rfl, hb4⟩
  have g4 : Below w.heap.size w w4 := below_more g3 hb4 (by go_grown)
  have hb4_1 := below_more hb3_1 hb4 (by go_grown)
  have hb4_3 := below_more hb3 hb4 (by go_grown)
  clear hc3_1 hf3_1 hl3_1 hm3_1 hc3 hf3 hl3 hm3 g3
  obtain ⟨hc4_1, hf4_1, hl4_1, hm4_1⟩ := bfour hb4_1
  obtain ⟨hc4_3, hf4_3, hl4_3, hm4_3⟩ := bfour hb4_3
  obtain ⟨hc4, hf4, hl4, hm4⟩ := bfour hb4
  go_wp2_with fail
  go_ret
  refine ⟨rfl, ?_⟩
  have z := g4.size
  go_grown

theorem fvalid_one (k : Int) (h1 : -1073741824 ≤ k) (h2 : k ≤ 1073741824) : fvalid k 1 = true := by
  unfold fvalid; rw [decide_eq_true_iff]; exact ⟨by omega, by omega, h1, h2, by simp [mag]⟩
theorem fvalid_big (k : Int) (h : ¬ k ≤ 1073741824) : fvalid k 1 = false := (fvalid_no (by omega)).symm
theorem floors_any (n d m : Int) (w : World) : Calls Try.prog 7 #[.agg #[.int .i64 n, .int .i64 d], .int .i64 m] w fun e w' => e = .returned (.bool true) ∧ Below w.heap.size w w' := by
  by_cases h : fvalid n d = true
  · obtain ⟨A1, A2, A3, A4, _⟩ := fvalid_bd h
    have e1 : n / d * d ≤ n := Int.ediv_mul_le n (by omega)
    have e2 : n < (n / d + 1) * d := Int.lt_ediv_add_one_mul_self n (by omega)
    have k1 : -1073741824 ≤ n / d := by rw [Int.le_ediv_iff_mul_le (by omega)]; omega
    have k2 : n / d ≤ 1073741824 := by
      have : n / d < 1073741825 := by rw [Int.ediv_lt_iff_lt_mul (by omega)]; omega
      omega
    have hf := fun w => floor_good n d w h
    have hl : ∀ w, Calls Try.prog 12 #[.agg #[.int .i64 n, .int .i64 d], .agg #[.int .i64 (n / d), .int .i64 1]] w (GivesB false 0 0 w) := fun w => less_good' n d (n / d) 1 w false (by rw [decide_eq_false_iff_not]; omega) h (fvalid_one _ k1 k2)
    have hin : ∀ w, -1073741824 ≤ m → m ≤ 1073741824 → Calls Try.prog 13 #[.agg #[.int .i64 m, .int .i64 1]] w (GivesI m 0 0 w) := fun w a b => by
      have := floor_good m 1 w (fvalid_one _ a b)
      rwa [Int.ediv_one] at this
    by_cases hk : n / d + 1 ≤ 1073741824
    · have hh : ∀ w, Calls Try.prog 12 #[.agg #[.int .i64 n, .int .i64 d], .agg #[.int .i64 (n / d + 1), .int .i64 1]] w (GivesB true 0 0 w) := fun w => less_good' n d (n / d + 1) 1 w true (by rw [decide_eq_true_iff]; omega) h (fvalid_one _ (by omega) hk)
      by_cases h1 : m < -1073741824
      · exact floors_fit_lo n d m w _ k1 k2 hf hl hh (by simpa using h1)
      · by_cases h2 : 1073741824 < m
        · exact floors_fit_hi n d m w _ k1 k2 hf hl hh (by simpa using h1) (by simpa using h2)
        · exact floors_fit_in n d m w _ k1 k2 hf hl hh (by omega) (by omega) (fun w => hin w (by omega) (by omega))
    · have hh : ∀ w, Calls Try.prog 12 #[.agg #[.int .i64 n, .int .i64 d], .agg #[.int .i64 (n / d + 1), .int .i64 1]] w (GivesB false 3 1 w) := fun w => less_bad1 n d (n / d + 1) 1 w h (fvalid_big _ hk)
      by_cases h1 : m < -1073741824
      · exact floors_over_lo n d m w _ k1 k2 hf hl hh (by simpa using h1)
      · by_cases h2 : 1073741824 < m
        · exact floors_over_hi n d m w _ k1 k2 hf hl hh (by simpa using h1) (by simpa using h2)
        · exact floors_over_in n d m w _ k1 k2 hf hl hh (by omega) (by omega) (fun w => hin w (by omega) (by omega))
  · exact floors_bad n d m w (by simpa using h)
end Go.Proofs.Ytapaggpkoelamaa
