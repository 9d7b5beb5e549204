/-
  The law FracField walked: sums and products of fractions are those of a field, wherever all that is reckoned fits.
-/
import Derived.Test.YtapaggpkoelamaaFracO
namespace Go.Proofs.Ytapaggpkoelamaa
open Go.RowKit

set_option maxRecDepth 100000 in
set_option maxHeartbeats 4000000 in
theorem field_bad (an ad bn bd cn cd : Int) (sn sd rn rd pn pd qn qd on od c1 i1 c2 i2 c3 i3 c4 i4 c5 i5 c6 i6 c7 i7 : Int) (w : World)
    (hab : (∀ w, Calls Try.prog 8 #[.agg #[.int .i64 an, .int .i64 ad], .agg #[.int .i64 bn, .int .i64 bd]] w (Gives sn sd c1 i1 w)))
    (hba : (∀ w, Calls Try.prog 8 #[.agg #[.int .i64 bn, .int .i64 bd], .agg #[.int .i64 an, .int .i64 ad]] w (Gives sn sd c2 i2 w)))
    (hbc : (∀ w, Calls Try.prog 8 #[.agg #[.int .i64 bn, .int .i64 bd], .agg #[.int .i64 cn, .int .i64 cd]] w (Gives rn rd c3 i3 w)))
    (hpq : (∀ w, Calls Try.prog 10 #[.agg #[.int .i64 an, .int .i64 ad], .agg #[.int .i64 bn, .int .i64 bd]] w (Gives pn pd c4 i4 w)))
    (hqp : (∀ w, Calls Try.prog 10 #[.agg #[.int .i64 bn, .int .i64 bd], .agg #[.int .i64 an, .int .i64 ad]] w (Gives pn pd c5 i5 w)))
    (hqr : (∀ w, Calls Try.prog 10 #[.agg #[.int .i64 bn, .int .i64 bd], .agg #[.int .i64 cn, .int .i64 cd]] w (Gives qn qd c6 i6 w)))
    (hpr : (∀ w, Calls Try.prog 10 #[.agg #[.int .i64 an, .int .i64 ad], .agg #[.int .i64 cn, .int .i64 cd]] w (Gives on od c7 i7 w)))
    (some : ¬ (c1 = 0 ∧ c2 = 0 ∧ c3 = 0 ∧ c4 = 0 ∧ c5 = 0 ∧ c6 = 0 ∧ c7 = 0)) :
    Calls Try.prog 5 #[.agg #[.int .i64 an, .int .i64 ad], .agg #[.int .i64 bn, .int .i64 bd], .agg #[.int .i64 cn, .int .i64 cd]] w fun e w' => e = .returned (.bool true) ∧ Below w.heap.size w w' := by
  have LT2 : ∀ n : Nat, n < n + 1 + 1 := lt_two
  have LT3 : ∀ n : Nat, n < n + 1 + 1 + 1 := fun n => by omega
  go_enter Try.func5, Try.ntmps5
  go_wp2_with fail
  refine (fact_any _).mono ?_
  rintro e w1 ⟨rfl, hb1⟩
  have g1 : Below w.heap.size w w1 := below_after (by go_grown) hb1
  obtain ⟨hc1, hf1, hl1, hm1, hn1, ho1⟩ := bsix hb1
  go_wp2_with fail
  refine (hab _).mono ?_
  rintro e w2 ⟨rfl, hb2⟩
  have g2 : Below w.heap.size w w2 := below_more g1 hb2 (by go_grown)
  have hb2_1 := below_more hb1 hb2 (by go_grown)
  clear hc1 hf1 hl1 hm1 hn1 ho1 g1 hb1
  obtain ⟨hc2_1, hf2_1, hl2_1, hm2_1, hn2_1, ho2_1⟩ := bsix hb2_1
  go_wp2_with fail
  refine (hba _).mono ?_
  rintro e w3 ⟨rfl, hb3⟩
  have g3 : Below w.heap.size w w3 := below_more g2 hb3 (by go_grown)
  have hb3_1 := below_more hb2_1 hb3 (by go_grown)
  clear hc2_1 hf2_1 hl2_1 hm2_1 hn2_1 ho2_1 g2 hb2_1
  obtain ⟨hc3_1, hf3_1, hl3_1, hm3_1, hn3_1, ho3_1⟩ := bsix hb3_1
  obtain ⟨hc3, hf3, hl3, hm3, hn3, ho3⟩ := bsix hb3
  go_wp2_with fail
  refine (hbc _).mono ?_
  rintro e w4 ⟨rfl, hb4⟩
  have g4 : Below w.heap.size w w4 := below_more g3 hb4 (by go_grown)
  have hb4_1 := below_more hb3_1 hb4 (by go_grown)
  have hb4_3 := below_more hb3 hb4 (by go_grown)
  clear hc3_1 hf3_1 hl3_1 hm3_1 hn3_1 ho3_1 hc3 hf3 hl3 hm3 hn3 ho3 g3 hb3_1 hb3
  obtain ⟨hc4_1, hf4_1, hl4_1, hm4_1, hn4_1, ho4_1⟩ := bsix hb4_1
  obtain ⟨hc4_3, hf4_3, hl4_3, hm4_3, hn4_3, ho4_3⟩ := bsix hb4_3
  obtain ⟨hc4, hf4, hl4, hm4, hn4, ho4⟩ := bsix hb4
  go_wp2_with fail
  refine (hpq _).mono ?_
  rintro e w5 ⟨rfl, hb5⟩
  have g5 : Below w.heap.size w w5 := below_more g4 hb5 (by go_grown)
  have hb5_1 := below_more hb4_1 hb5 (by go_grown)
  have hb5_3 := below_more hb4_3 hb5 (by go_grown)
  have hb5_4 := below_more hb4 hb5 (by go_grown)
  clear hc4_1 hf4_1 hl4_1 hm4_1 hn4_1 ho4_1 hc4_3 hf4_3 hl4_3 hm4_3 hn4_3 ho4_3 hc4 hf4 hl4 hm4 hn4 ho4 g4 hb4_1 hb4_3 hb4
  obtain ⟨hc5_1, hf5_1, hl5_1, hm5_1, hn5_1, ho5_1⟩ := bsix hb5_1
  obtain ⟨hc5_3, hf5_3, hl5_3, hm5_3, hn5_3, ho5_3⟩ := bsix hb5_3
  obtain ⟨hc5_4, hf5_4, hl5_4, hm5_4, hn5_4, ho5_4⟩ := bsix hb5_4
  obtain ⟨hc5, hf5, hl5, hm5, hn5, ho5⟩ := bsix hb5
  go_wp2_with fail
  refine (hqp _).mono ?_
  rintro e w6 ⟨rfl, hb6⟩
  have g6 : Below w.heap.size w w6 := below_more g5 hb6 (by go_grown)
  have hb6_1 := below_more hb5_1 hb6 (by go_grown)
  have hb6_3 := below_more hb5_3 hb6 (by go_grown)
  have hb6_4 := below_more hb5_4 hb6 (by go_grown)
  have hb6_5 := below_more hb5 hb6 (by go_grown)
  clear hc5_1 hf5_1 hl5_1 hm5_1 hn5_1 ho5_1 hc5_3 hf5_3 hl5_3 hm5_3 hn5_3 ho5_3 hc5_4 hf5_4 hl5_4 hm5_4 hn5_4 ho5_4 hc5 hf5 hl5 hm5 hn5 ho5 g5 hb5_1 hb5_3 hb5_4 hb5
  obtain ⟨hc6_1, hf6_1, hl6_1, hm6_1, hn6_1, ho6_1⟩ := bsix hb6_1
  obtain ⟨hc6_3, hf6_3, hl6_3, hm6_3, hn6_3, ho6_3⟩ := bsix hb6_3
  obtain ⟨hc6_4, hf6_4, hl6_4, hm6_4, hn6_4, ho6_4⟩ := bsix hb6_4
  obtain ⟨hc6_5, hf6_5, hl6_5, hm6_5, hn6_5, ho6_5⟩ := bsix hb6_5
  obtain ⟨hc6, hf6, hl6, hm6, hn6, ho6⟩ := bsix hb6
  go_wp2_with fail
  refine (hqr _).mono ?_
  rintro e w7 ⟨rfl, hb7⟩
  have g7 : Below w.heap.size w w7 := below_more g6 hb7 (by go_grown)
  have hb7_1 := below_more hb6_1 hb7 (by go_grown)
  have hb7_3 := below_more hb6_3 hb7 (by go_grown)
  have hb7_4 := below_more hb6_4 hb7 (by go_grown)
  have hb7_5 := below_more hb6_5 hb7 (by go_grown)
  have hb7_6 := below_more hb6 hb7 (by go_grown)
  clear hc6_1 hf6_1 hl6_1 hm6_1 hn6_1 ho6_1 hc6_3 hf6_3 hl6_3 hm6_3 hn6_3 ho6_3 hc6_4 hf6_4 hl6_4 hm6_4 hn6_4 ho6_4 hc6_5 hf6_5 hl6_5 hm6_5 hn6_5 ho6_5 hc6 hf6 hl6 hm6 hn6 ho6 g6 hb6_1 hb6_3 hb6_4 hb6_5 hb6
  obtain ⟨hc7_1, hf7_1, hl7_1, hm7_1, hn7_1, ho7_1⟩ := bsix hb7_1
  obtain ⟨hc7_3, hf7_3, hl7_3, hm7_3, hn7_3, ho7_3⟩ := bsix hb7_3
  obtain ⟨hc7_4, hf7_4, hl7_4, hm7_4, hn7_4, ho7_4⟩ := bsix hb7_4
  obtain ⟨hc7_5, hf7_5, hl7_5, hm7_5, hn7_5, ho7_5⟩ := bsix hb7_5
  obtain ⟨hc7_6, hf7_6, hl7_6, hm7_6, hn7_6, ho7_6⟩ := bsix hb7_6
  obtain ⟨hc7, hf7, hl7, hm7, hn7, ho7⟩ := bsix hb7
  go_wp2_with fail
  refine (hpr _).mono ?_
  rintro e w8 ⟨rfl, hb8⟩
  have g8 : Below w.heap.size w w8 := below_more g7 hb8 (by go_grown)
  have hb8_1 := below_more hb7_1 hb8 (by go_grown)
  have hb8_3 := below_more hb7_3 hb8 (by go_grown)
  have hb8_4 := below_more hb7_4 hb8 (by go_grown)
  have hb8_5 := below_more hb7_5 hb8 (by go_grown)
  have hb8_6 := below_more hb7_6 hb8 (by go_grown)
  have hb8_7 := below_more hb7 hb8 (by go_grown)
  clear hc7_1 hf7_1 hl7_1 hm7_1 hn7_1 ho7_1 hc7_3 hf7_3 hl7_3 hm7_3 hn7_3 ho7_3 hc7_4 hf7_4 hl7_4 hm7_4 hn7_4 ho7_4 hc7_5 hf7_5 hl7_5 hm7_5 hn7_5 ho7_5 hc7_6 hf7_6 hl7_6 hm7_6 hn7_6 ho7_6 hc7 hf7 hl7 hm7 hn7 ho7 g7 hb7_1 hb7_3 hb7_4 hb7_5 hb7_6 hb7
  obtain ⟨hc8_1, hf8_1, hl8_1, hm8_1, hn8_1, ho8_1⟩ := bsix hb8_1
  obtain ⟨hc8_3, hf8_3, hl8_3, hm8_3, hn8_3, ho8_3⟩ := bsix hb8_3
  obtain ⟨hc8_4, hf8_4, hl8_4, hm8_4, hn8_4, ho8_4⟩ := bsix hb8_4
  obtain ⟨hc8_5, hf8_5, hl8_5, hm8_5, hn8_5, ho8_5⟩ := bsix hb8_5
  obtain ⟨hc8_6, hf8_6, hl8_6, hm8_6, hn8_6, ho8_6⟩ := bsix hb8_6
  obtain ⟨hc8_7, hf8_7, hl8_7, hm8_7, hn8_7, ho8_7⟩ := bsix hb8_7
  obtain ⟨hc8, hf8, hl8, hm8, hn8, ho8⟩ := bsix hb8
  go_upto_region 11 with fail
  go_cut [115] (fun s115 wx => s115 = .bool true ∧ wx = ((w8.alloc (.cells #[.int .i64 on, .int .i64 od] 23)).alloc (.cells #[.int .i64 c7, .int .i64 i7] 25)))
  case first =>
    by_cases z1 : c1 = 0
    rotate_left
    · have y1 : (c1 != 0) = true := by simpa using z1
      clear z1 some
      go_wp2_with fail
      go_meet
      exact ⟨rfl, rfl⟩
    have y1 : (c1 != 0) = false := by simpa using z1
    clear z1
    by_cases z2 : c2 = 0
    rotate_left
    · have y2 : (c2 != 0) = true := by simpa using z2
      clear z2 some
      go_wp2_with fail
      go_meet
      exact ⟨rfl, rfl⟩
    have y2 : (c2 != 0) = false := by simpa using z2
    clear z2
    by_cases z3 : c3 = 0
    rotate_left
    · have y3 : (c3 != 0) = true := by simpa using z3
      clear z3 some
      go_wp2_with fail
      go_meet
      exact ⟨rfl, rfl⟩
    have y3 : (c3 != 0) = false := by simpa using z3
    clear z3
    by_cases z4 : c4 = 0
    rotate_left
    · have y4 : (c4 != 0) = true := by simpa using z4
      clear z4 some
      go_wp2_with fail
      go_meet
      exact ⟨rfl, rfl⟩
    have y4 : (c4 != 0) = false := by simpa using z4
    clear z4
    by_cases z5 : c5 = 0
    rotate_left
    · have y5 : (c5 != 0) = true := by simpa using z5
      clear z5 some
      go_wp2_with fail
      go_meet
      exact ⟨rfl, rfl⟩
    have y5 : (c5 != 0) = false := by simpa using z5
    clear z5
    by_cases z6 : c6 = 0
    rotate_left
    · have y6 : (c6 != 0) = true := by simpa using z6
      clear z6 some
      go_wp2_with fail
      go_meet
      exact ⟨rfl, rfl⟩
    have y6 : (c6 != 0) = false := by simpa using z6
    clear z6
    by_cases z7 : c7 = 0
    rotate_left
    · have y7 : (c7 != 0) = true := by simpa using z7
      clear z7 some
      go_wp2_with fail
      go_meet
      exact ⟨rfl, rfl⟩
    have y7 : (c7 != 0) = false := by simpa using z7
    clear z7
    exact absurd ⟨(by simpa using y1), (by simpa using y2), (by simpa using y3), (by simpa using y4), (by simpa using y5), (by simpa using y6), (by simpa using y7)⟩ some
  case rest =>
    obtain ⟨rfl, rfl⟩ := hcut
    clear some
    go_wp2_with fail
    go_ret
    refine ⟨rfl, ?_⟩
    have z := g8.size
    go_grown
end Go.Proofs.Ytapaggpkoelamaa
