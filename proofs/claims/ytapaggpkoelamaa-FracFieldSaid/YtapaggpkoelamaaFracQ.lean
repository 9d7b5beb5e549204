/-
  The law FracField walked: sums and products of fractions are those of a field, wherever all that is reckoned fits.
-/
import Derived.Test.YtapaggpkoelamaaFracP
namespace Go.Proofs.Ytapaggpkoelamaa
open Go.RowKit

set_option maxRecDepth 100000 in
set_option maxHeartbeats 8000000 in
theorem field_good (an ad bn bd cn cd : Int) (sn sd rn rd pn pd qn qd on od xn xd xc yn yd yc un ud uc vn vd vc kn kd kc gn gd gc en ed ec : Int) (w : World)
    (hab : (∀ w, Calls Try.prog 8 #[.agg #[.int .i64 an, .int .i64 ad], .agg #[.int .i64 bn, .int .i64 bd]] w (Gives sn sd 0 0 w)))
    (hba : (∀ w, Calls Try.prog 8 #[.agg #[.int .i64 bn, .int .i64 bd], .agg #[.int .i64 an, .int .i64 ad]] w (Gives sn sd 0 0 w)))
    (hbc : (∀ w, Calls Try.prog 8 #[.agg #[.int .i64 bn, .int .i64 bd], .agg #[.int .i64 cn, .int .i64 cd]] w (Gives rn rd 0 0 w)))
    (hpq : (∀ w, Calls Try.prog 10 #[.agg #[.int .i64 an, .int .i64 ad], .agg #[.int .i64 bn, .int .i64 bd]] w (Gives pn pd 0 0 w)))
    (hqp : (∀ w, Calls Try.prog 10 #[.agg #[.int .i64 bn, .int .i64 bd], .agg #[.int .i64 an, .int .i64 ad]] w (Gives pn pd 0 0 w)))
    (hqr : (∀ w, Calls Try.prog 10 #[.agg #[.int .i64 bn, .int .i64 bd], .agg #[.int .i64 cn, .int .i64 cd]] w (Gives qn qd 0 0 w)))
    (hpr : (∀ w, Calls Try.prog 10 #[.agg #[.int .i64 an, .int .i64 ad], .agg #[.int .i64 cn, .int .i64 cd]] w (Gives on od 0 0 w)))
    (hx : (∀ w, Calls Try.prog 8 #[.agg #[.int .i64 sn, .int .i64 sd], .agg #[.int .i64 cn, .int .i64 cd]] w (Gives xn xd xc 0 w)))
    (hy : (∀ w, Calls Try.prog 8 #[.agg #[.int .i64 an, .int .i64 ad], .agg #[.int .i64 rn, .int .i64 rd]] w (Gives yn yd yc 0 w)))
    (hu : (∀ w, Calls Try.prog 10 #[.agg #[.int .i64 pn, .int .i64 pd], .agg #[.int .i64 cn, .int .i64 cd]] w (Gives un ud uc 0 w)))
    (hv : (∀ w, Calls Try.prog 10 #[.agg #[.int .i64 an, .int .i64 ad], .agg #[.int .i64 qn, .int .i64 qd]] w (Gives vn vd vc 0 w)))
    (hs : (∀ w, Calls Try.prog 10 #[.agg #[.int .i64 an, .int .i64 ad], .agg #[.int .i64 rn, .int .i64 rd]] w (Gives kn kd kc 0 w)))
    (ht : (∀ w, Calls Try.prog 8 #[.agg #[.int .i64 pn, .int .i64 pd], .agg #[.int .i64 on, .int .i64 od]] w (Gives gn gd gc 0 w)))
    (hback : (∀ w, Calls Try.prog 9 #[.agg #[.int .i64 sn, .int .i64 sd], .agg #[.int .i64 bn, .int .i64 bd]] w (Gives an ad 0 0 w)))
    (hq : (∀ w, Calls Try.prog 11 #[.agg #[.int .i64 pn, .int .i64 pd], .agg #[.int .i64 bn, .int .i64 bd]] w (Gives en ed ec 0 w)))
    (e1 : xc = 0 → yc = 0 → xn = yn ∧ xd = yd) (e2 : uc = 0 → vc = 0 → un = vn ∧ ud = vd) (e3 : kc = 0 → gc = 0 → kn = gn ∧ kd = gd)
    (last : bn = 0 ∧ ec = 6 ∨ bn ≠ 0 ∧ en = an ∧ ed = ad ∧ ec = 0) :
    Calls Try.prog 5 #[.agg #[.int .i64 an, .int .i64 ad], .agg #[.int .i64 bn, .int .i64 bd], .agg #[.int .i64 cn, .int .i64 cd]] w fun e w' => e = .returned (.bool true) ∧ Below w.heap.size w w' := by
  have LT2 : ∀ n : Nat, n < n + 1 + 1 := lt_two
  have LT3 : ∀ n : Nat, n < n + 1 + 1 + 1 := fun n => by omega
  go_enter Try.func5, Try.ntmps5
  go_wp2_with fail
  refine (fact_any _).mono ?_
  rintro e w1 ⟨rfl, hb1⟩
  have g1 : Below w.heap.size w w1 := below_after (by go_grown) hb1
  obtain ⟨hc1, hf1, hl1, hm1, hn1, ho1⟩ := bsix hb1
  go_wp2_with fail
  refine (hab _).mono ?_
  rintro e w2 ⟨rfl, hb2⟩
  have g2 : Below w.heap.size w w2 := below_more g1 hb2 (by go_grown)
  have hb2_1 := below_more hb1 hb2 (by go_grown)
  clear hc1 hf1 hl1 hm1 hn1 ho1 g1 hb1
  obtain ⟨hc2_1, hf2_1, hl2_1, hm2_1, hn2_1, ho2_1⟩ := bsix hb2_1
  go_wp2_with fail
  refine (hba _).mono ?_
  rintro e w3 ⟨rfl, hb3⟩
  have g3 : Below w.heap.size w w3 := below_more g2 hb3 (by go_grown)
  have hb3_1 := below_more hb2_1 hb3 (by go_grown)
  clear hc2_1 hf2_1 hl2_1 hm2_1 hn2_1 ho2_1 g2 hb2_1
  obtain ⟨hc3_1, hf3_1, hl3_1, hm3_1, hn3_1, ho3_1⟩ := bsix hb3_1
  obtain ⟨hc3, hf3, hl3, hm3, hn3, ho3⟩ := bsix hb3
  go_wp2_with fail
  refine (hbc _).mono ?_
  rintro e w4 ⟨rfl, hb4⟩
  have g4 : Below w.heap.size w w4 := below_more g3 hb4 (by go_grown)
  have hb4_1 := below_more hb3_1 hb4 (by go_grown)
  have hb4_3 := below_more hb3 hb4 (by go_grown)
  clear hc3_1 hf3_1 hl3_1 hm3_1 hn3_1 ho3_1 hc3 hf3 hl3 hm3 hn3 ho3 g3 hb3_1 hb3
  obtain ⟨hc4_1, hf4_1, hl4_1, hm4_1, hn4_1, ho4_1⟩ := bsix hb4_1
  obtain ⟨hc4_3, hf4_3, hl4_3, hm4_3, hn4_3, ho4_3⟩ := bsix hb4_3
  obtain ⟨hc4, hf4, hl4, hm4, hn4, ho4⟩ := bsix hb4
  go_wp2_with fail
  refine (hpq _).mono ?_
  as_aux_lemma =>
  rintro e w5 ⟨rfl, hb5⟩
  have g5 : Below w.heap.size w w5 := below_more g4 hb5 (by go_grown)
  have hb5_1 := below_more hb4_1 hb5 (by go_grown)
  have hb5_3 := below_more hb4_3 hb5 (by go_grown)
  have hb5_4 := below_more hb4 hb5 (by go_grown)
  clear hc4_1 hf4_1 hl4_1 hm4_1 hn4_1 ho4_1 hc4_3 hf4_3 hl4_3 hm4_3 hn4_3 ho4_3 hc4 hf4 hl4 hm4 hn4 ho4 g4 hb4_1 hb4_3 hb4
  obtain ⟨hc5_1, hf5_1, hl5_1, hm5_1, hn5_1, ho5_1⟩ := bsix hb5_1
  obtain ⟨hc5_3, hf5_3, hl5_3, hm5_3, hn5_3, ho5_3⟩ := bsix hb5_3
  obtain ⟨hc5_4, hf5_4, hl5_4, hm5_4, hn5_4, ho5_4⟩ := bsix hb5_4
  obtain ⟨hc5, hf5, hl5, hm5, hn5, ho5⟩ := bsix hb5
  go_wp2_with fail
  refine (hqp _).mono ?_
  rintro e w6 ⟨rfl, hb6⟩
  have g6 : Below w.heap.size w w6 := below_more g5 hb6 (by go_grown)
  have hb6_1 := below_more hb5_1 hb6 (by go_grown)
  have hb6_3 := below_more hb5_3 hb6 (by go_grown)
  have hb6_4 := below_more hb5_4 hb6 (by go_grown)
  have hb6_5 := below_more hb5 hb6 (by go_grown)
  clear hc5_1 hf5_1 hl5_1 hm5_1 hn5_1 ho5_1 hc5_3 hf5_3 hl5_3 hm5_3 hn5_3 ho5_3 hc5_4 hf5_4 hl5_4 hm5_4 hn5_4 ho5_4 hc5 hf5 hl5 hm5 hn5 ho5 g5 hb5_1 hb5_3 hb5_4 hb5
  obtain ⟨hc6_1, hf6_1, hl6_1, hm6_1, hn6_1, ho6_1⟩ := bsix hb6_1
  obtain ⟨hc6_3, hf6_3, hl6_3, hm6_3, hn6_3, ho6_3⟩ := bsix hb6_3
  obtain ⟨hc6_4, hf6_4, hl6_4, hm6_4, hn6_4, ho6_4⟩ := bsix hb6_4
  obtain ⟨hc6_5, hf6_5, hl6_5, hm6_5, hn6_5, ho6_5⟩ := bsix hb6_5
  obtain ⟨hc6, hf6, hl6, hm6, hn6, ho6⟩ := bsix hb6
  go_wp2_with fail
  refine (hqr _).mono ?_
  rintro e w7 ⟨rfl, hb7⟩
  have g7 : Below w.heap.size w w7 := below_more g6 hb7 (by go_grown)
  have hb7_1 := below_more hb6_1 hb7 (by go_grown)
  have hb7_3 := below_more hb6_3 hb7 (by go_grown)
  have hb7_4 := below_more hb6_4 hb7 (by go_grown)
  have hb7_5 := below_more hb6_5 hb7 (by go_grown)
  have hb7_6 := below_more hb6 hb7 (by go_grown)
  clear hc6_1 hf6_1 hl6_1 hm6_1 hn6_1 ho6_1 hc6_3 hf6_3 hl6_3 hm6_3 hn6_3 ho6_3 hc6_4 hf6_4 hl6_4 hm6_4 hn6_4 ho6_4 hc6_5 hf6_5 hl6_5 hm6_5 hn6_5 ho6_5 hc6 hf6 hl6 hm6 hn6 ho6 g6 hb6_1 hb6_3 hb6_4 hb6_5 hb6
  obtain ⟨hc7_1, hf7_1, hl7_1, hm7_1, hn7_1, ho7_1⟩ := bsix hb7_1
  obtain ⟨hc7_3, hf7_3, hl7_3, hm7_3, hn7_3, ho7_3⟩ := bsix hb7_3
  obtain ⟨hc7_4, hf7_4, hl7_4, hm7_4, hn7_4, ho7_4⟩ := bsix hb7_4
  obtain ⟨hc7_5, hf7_5, hl7_5, hm7_5, hn7_5, ho7_5⟩ := bsix hb7_5
  obtain ⟨hc7_6, hf7_6, hl7_6, hm7_6, hn7_6, ho7_6⟩ := bsix hb7_6
  obtain ⟨hc7, hf7, hl7, hm7, hn7, ho7⟩ := bsix hb7
  go_wp2_with fail
  refine (hpr _).mono ?_
  rintro e w8 ⟨rfl, hb8⟩
  have g8 : Below w.heap.size w w8 := below_more g7 hb8 (by go_grown)
  have hb8_1 := below_more hb7_1 hb8 (by go_grown)
  have hb8_3 := below_more hb7_3 hb8 (by go_grown)
  have hb8_4 := below_more hb7_4 hb8 (by go_grown)
  have hb8_5 := below_more hb7_5 hb8 (by go_grown)
  have hb8_6 := below_more hb7_6 hb8 (by go_grown)
  have hb8_7 := below_more hb7 hb8 (by go_grown)
  clear hc7_1 hf7_1 hl7_1 hm7_1 hn7_1 ho7_1 hc7_3 hf7_3 hl7_3 hm7_3 hn7_3 ho7_3 hc7_4 hf7_4 hl7_4 hm7_4 hn7_4 ho7_4 hc7_5 hf7_5 hl7_5 hm7_5 hn7_5 ho7_5 hc7_6 hf7_6 hl7_6 hm7_6 hn7_6 ho7_6 hc7 hf7 hl7 hm7 hn7 ho7 g7 hb7_1 hb7_3 hb7_4 hb7_5 hb7_6 hb7
  obtain ⟨hc8_1, hf8_1, hl8_1, hm8_1, hn8_1, ho8_1⟩ := bsix hb8_1
  obtain ⟨hc8_3, hf8_3, hl8_3, hm8_3, hn8_3, ho8_3⟩ := bsix hb8_3
  obtain ⟨hc8_4, hf8_4, hl8_4, hm8_4, hn8_4, ho8_4⟩ := bsix hb8_4
  obtain ⟨hc8_5, hf8_5, hl8_5, hm8_5, hn8_5, ho8_5⟩ := bsix hb8_5
  obtain ⟨hc8_6, hf8_6, hl8_6, hm8_6, hn8_6, ho8_6⟩ := bsix hb8_6
  obtain ⟨hc8_7, hf8_7, hl8_7, hm8_7, hn8_7, ho8_7⟩ := bsix hb8_7
  obtain ⟨hc8, hf8, hl8, hm8, hn8, ho8⟩ := bsix hb8
  go_wp2_with fail
  refine (hx _).mono ?_
  as_aux_lemma =>
  rintro e w9 ⟨rfl, hb9⟩
  have g9 : Below w.heap.size w w9 := below_more g8 hb9 (by go_grown)
  have hb9_1 := below_more hb8_1 hb9 (by go_grown)
  have hb9_3 := below_more hb8_3 hb9 (by go_grown)
  have hb9_5 := below_more hb8_5 hb9 (by go_grown)
  have hb9_6 := below_more hb8_6 hb9 (by go_grown)
  have hb9_8 := below_more hb8 hb9 (by go_grown)
  clear hc8_1 hf8_1 hl8_1 hm8_1 hn8_1 ho8_1 hc8_3 hf8_3 hl8_3 hm8_3 hn8_3 ho8_3 hc8_4 hf8_4 hl8_4 hm8_4 hn8_4 ho8_4 hc8_5 hf8_5 hl8_5 hm8_5 hn8_5 ho8_5 hc8_6 hf8_6 hl8_6 hm8_6 hn8_6 ho8_6 hc8_7 hf8_7 hl8_7 hm8_7 hn8_7 ho8_7 hc8 hf8 hl8 hm8 hn8 ho8 g8 hb8_1 hb8_3 hb8_4 hb8_5 hb8_6 hb8_7 hb8
  obtain ⟨hc9_1, hf9_1, hl9_1, hm9_1, hn9_1, ho9_1⟩ := bsix hb9_1
  obtain ⟨hc9_3, hf9_3, hl9_3, hm9_3, hn9_3, ho9_3⟩ := bsix hb9_3
  obtain ⟨hc9_5, hf9_5, hl9_5, hm9_5, hn9_5, ho9_5⟩ := bsix hb9_5
  obtain ⟨hc9_6, hf9_6, hl9_6, hm9_6, hn9_6, ho9_6⟩ := bsix hb9_6
  obtain ⟨hc9_8, hf9_8, hl9_8, hm9_8, hn9_8, ho9_8⟩ := bsix hb9_8
  obtain ⟨hc9, hf9, hl9, hm9, hn9, ho9⟩ := bsix hb9
  go_wp2_with fail
  refine (hy _).mono ?_
  rintro e w10 ⟨rfl, hb10⟩
  have g10 : Below w.heap.size w w10 := below_more g9 hb10 (by go_grown)
  have hb10_1 := below_more hb9_1 hb10 (by go_grown)
  have hb10_3 := below_more hb9_3 hb10 (by go_grown)
  have hb10_5 := below_more hb9_5 hb10 (by go_grown)
  have hb10_6 := below_more hb9_6 hb10 (by go_grown)
  have hb10_8 := below_more hb9_8 hb10 (by go_grown)
  have hb10_9 := below_more hb9 hb10 (by go_grown)
  clear hc9_1 hf9_1 hl9_1 hm9_1 hn9_1 ho9_1 hc9_3 hf9_3 hl9_3 hm9_3 hn9_3 ho9_3 hc9_5 hf9_5 hl9_5 hm9_5 hn9_5 ho9_5 hc9_6 hf9_6 hl9_6 hm9_6 hn9_6 ho9_6 hc9_8 hf9_8 hl9_8 hm9_8 hn9_8 ho9_8 hc9 hf9 hl9 hm9 hn9 ho9 g9 hb9_1 hb9_3 hb9_5 hb9_6 hb9_8 hb9
  obtain ⟨hc10_1, hf10_1, hl10_1, hm10_1, hn10_1, ho10_1⟩ := bsix hb10_1
  obtain ⟨hc10_3, hf10_3, hl10_3, hm10_3, hn10_3, ho10_3⟩ := bsix hb10_3
  obtain ⟨hc10_5, hf10_5, hl10_5, hm10_5, hn10_5, ho10_5⟩ := bsix hb10_5
  obtain ⟨hc10_6, hf10_6, hl10_6, hm10_6, hn10_6, ho10_6⟩ := bsix hb10_6
  obtain ⟨hc10_8, hf10_8, hl10_8, hm10_8, hn10_8, ho10_8⟩ := bsix hb10_8
  obtain ⟨hc10_9, hf10_9, hl10_9, hm10_9, hn10_9, ho10_9⟩ := bsix hb10_9
  obtain ⟨hc10, hf10, hl10, hm10, hn10, ho10⟩ := bsix hb10
  go_wp2_with fail
  refine (hu _).mono ?_
  as_aux_lemma =>
  rintro e w11 ⟨rfl, hb11⟩
  have g11 : Below w.heap.size w w11 := below_more g10 hb11 (by go_grown)
  have hb11_1 := below_more hb10_1 hb11 (by go_grown)
  have hb11_3 := below_more hb10_3 hb11 (by go_grown)
  have hb11_5 := below_more hb10_5 hb11 (by go_grown)
  have hb11_6 := below_more hb10_6 hb11 (by go_grown)
  have hb11_8 := below_more hb10_8 hb11 (by go_grown)
  have hb11_9 := below_more hb10_9 hb11 (by go_grown)
  have hb11_10 := below_more hb10 hb11 (by go_grown)
  clear hc10_1 hf10_1 hl10_1 hm10_1 hn10_1 ho10_1 hc10_3 hf10_3 hl10_3 hm10_3 hn10_3 ho10_3 hc10_5 hf10_5 hl10_5 hm10_5 hn10_5 ho10_5 hc10_6 hf10_6 hl10_6 hm10_6 hn10_6 ho10_6 hc10_8 hf10_8 hl10_8 hm10_8 hn10_8 ho10_8 hc10_9 hf10_9 hl10_9 hm10_9 hn10_9 ho10_9 hc10 hf10 hl10 hm10 hn10 ho10 g10 hb10_1 hb10_3 hb10_5 hb10_6 hb10_8 hb10_9 hb10
  obtain ⟨hc11_1, hf11_1, hl11_1, hm11_1, hn11_1, ho11_1⟩ := bsix hb11_1
  obtain ⟨hc11_3, hf11_3, hl11_3, hm11_3, hn11_3, ho11_3⟩ := bsix hb11_3
  obtain ⟨hc11_5, hf11_5, hl11_5, hm11_5, hn11_5, ho11_5⟩ := bsix hb11_5
  obtain ⟨hc11_6, hf11_6, hl11_6, hm11_6, hn11_6, ho11_6⟩ := bsix hb11_6
  obtain ⟨hc11_8, hf11_8, hl11_8, hm11_8, hn11_8, ho11_8⟩ := bsix hb11_8
  obtain ⟨hc11_9, hf11_9, hl11_9, hm11_9, hn11_9, ho11_9⟩ := bsix hb11_9
  obtain ⟨hc11_10, hf11_10, hl11_10, hm11_10, hn11_10, ho11_10⟩ := bsix hb11_10
  obtain ⟨hc11, hf11, hl11, hm11, hn11, ho11⟩ := bsix hb11
  go_wp2_with fail
  refine (hv _).mono ?_
  rintro e w12 ⟨rfl, hb12⟩
  have g12 : Below w.heap.size w w12 := below_more g11 hb12 (by go_grown)
  have hb12_1 := below_more hb11_1 hb12 (by go_grown)
  have hb12_3 := below_more hb11_3 hb12 (by go_grown)
  have hb12_5 := below_more hb11_5 hb12 (by go_grown)
  have hb12_6 := below_more hb11_6 hb12 (by go_grown)
  have hb12_8 := below_more hb11_8 hb12 (by go_grown)
  have hb12_9 := below_more hb11_9 hb12 (by go_grown)
  have hb12_10 := below_more hb11_10 hb12 (by go_grown)
  have hb12_11 := below_more hb11 hb12 (by go_grown)
  clear hc11_1 hf11_1 hl11_1 hm11_1 hn11_1 ho11_1 hc11_3 hf11_3 hl11_3 hm11_3 hn11_3 ho11_3 hc11_5 hf11_5 hl11_5 hm11_5 hn11_5 ho11_5 hc11_6 hf11_6 hl11_6 hm11_6 hn11_6 ho11_6 hc11_8 hf11_8 hl11_8 hm11_8 hn11_8 ho11_8 hc11_9 hf11_9 hl11_9 hm11_9 hn11_9 ho11_9 hc11_10 hf11_10 hl11_10 hm11_10 hn11_10 ho11_10 hc11 hf11 hl11 hm11 hn11 ho11 g11 hb11_1 hb11_3 hb11_5 hb11_6 hb11_8 hb11_9 hb11_10 hb11
  obtain ⟨hc12_1, hf12_1, hl12_1, hm12_1, hn12_1, ho12_1⟩ := bsix hb12_1
  obtain ⟨hc12_3, hf12_3, hl12_3, hm12_3, hn12_3, ho12_3⟩ := bsix hb12_3
  obtain ⟨hc12_5, hf12_5, hl12_5, hm12_5, hn12_5, ho12_5⟩ := bsix hb12_5
  obtain ⟨hc12_6, hf12_6, hl12_6, hm12_6, hn12_6, ho12_6⟩ := bsix hb12_6
  obtain ⟨hc12_8, hf12_8, hl12_8, hm12_8, hn12_8, ho12_8⟩ := bsix hb12_8
  obtain ⟨hc12_9, hf12_9, hl12_9, hm12_9, hn12_9, ho12_9⟩ := bsix hb12_9
  obtain ⟨hc12_10, hf12_10, hl12_10, hm12_10, hn12_10, ho12_10⟩ := bsix hb12_10
  obtain ⟨hc12_11, hf12_11, hl12_11, hm12_11, hn12_11, ho12_11⟩ := bsix hb12_11
  obtain ⟨hc12, hf12, hl12, hm12, hn12, ho12⟩ := bsix hb12
  go_wp2_with fail
  refine (hs _).mono ?_
  as_aux_lemma =>
  rintro e w13 ⟨rfl, hb13⟩
  have g13 : Below w.heap.size w w13 := below_more g12 hb13 (by go_grown)
  have hb13_1 := below_more hb12_1 hb13 (by go_grown)
  have hb13_3 := below_more hb12_3 hb13 (by go_grown)
  have hb13_5 := below_more hb12_5 hb13 (by go_grown)
  have hb13_6 := below_more hb12_6 hb13 (by go_grown)
  have hb13_8 := below_more hb12_8 hb13 (by go_grown)
  have hb13_9 := below_more hb12_9 hb13 (by go_grown)
  have hb13_10 := below_more hb12_10 hb13 (by go_grown)
  have hb13_11 := below_more hb12_11 hb13 (by go_grown)
  have hb13_12 := below_more hb12 hb13 (by go_grown)
  clear hc12_1 hf12_1 hl12_1 hm12_1 hn12_1 ho12_1 hc12_3 hf12_3 hl12_3 hm12_3 hn12_3 ho12_3 hc12_5 hf12_5 hl12_5 hm12_5 hn12_5 ho12_5 hc12_6 hf12_6 hl12_6 hm12_6 hn12_6 ho12_6 hc12_8 hf12_8 hl12_8 hm12_8 hn12_8 ho12_8 hc12_9 hf12_9 hl12_9 hm12_9 hn12_9 ho12_9 hc12_10 hf12_10 hl12_10 hm12_10 hn12_10 ho12_10 hc12_11 hf12_11 hl12_11 hm12_11 hn12_11 ho12_11 hc12 hf12 hl12 hm12 hn12 ho12 g12 hb12_1 hb12_3 hb12_5 hb12_6 hb12_8 hb12_9 hb12_10 hb12_11 hb12
  obtain ⟨hc13_1, hf13_1, hl13_1, hm13_1, hn13_1, ho13_1⟩ := bsix hb13_1
  obtain ⟨hc13_3, hf13_3, hl13_3, hm13_3, hn13_3, ho13_3⟩ := bsix hb13_3
  obtain ⟨hc13_5, hf13_5, hl13_5, hm13_5, hn13_5, ho13_5⟩ := bsix hb13_5
  obtain ⟨hc13_6, hf13_6, hl13_6, hm13_6, hn13_6, ho13_6⟩ := bsix hb13_6
  obtain ⟨hc13_8, hf13_8, hl13_8, hm13_8, hn13_8, ho13_8⟩ := bsix hb13_8
  obtain ⟨hc13_9, hf13_9, hl13_9, hm13_9, hn13_9, ho13_9⟩ := bsix hb13_9
  obtain ⟨hc13_10, hf13_10, hl13_10, hm13_10, hn13_10, ho13_10⟩ := bsix hb13_10
  obtain ⟨hc13_11, hf13_11, hl13_11, hm13_11, hn13_11, ho13_11⟩ := bsix hb13_11
  obtain ⟨hc13_12, hf13_12, hl13_12, hm13_12, hn13_12, ho13_12⟩ := bsix hb13_12
  obtain ⟨hc13, hf13, hl13, hm13, hn13, ho13⟩ := bsix hb13
  go_wp2_with fail
  refine (ht _).mono ?_
  rintro e w14 ⟨rfl, hb14⟩
  have g14 : Below w.heap.size w w14 := below_more g13 hb14 (by go_grown)
  have hb14_1 := below_more hb13_1 hb14 (by go_grown)
  have hb14_3 := below_more hb13_3 hb14 (by go_grown)
  have hb14_5 := below_more hb13_5 hb14 (by go_grown)
  have hb14_6 := below_more hb13_6 hb14 (by go_grown)
  have hb14_8 := below_more hb13_8 hb14 (by go_grown)
  have hb14_9 := below_more hb13_9 hb14 (by go_grown)
  have hb14_10 := below_more hb13_10 hb14 (by go_grown)
  have hb14_11 := below_more hb13_11 hb14 (by go_grown)
  have hb14_12 := below_more hb13_12 hb14 (by go_grown)
  have hb14_13 := below_more hb13 hb14 (by go_grown)
  clear hc13_1 hf13_1 hl13_1 hm13_1 hn13_1 ho13_1 hc13_3 hf13_3 hl13_3 hm13_3 hn13_3 ho13_3 hc13_5 hf13_5 hl13_5 hm13_5 hn13_5 ho13_5 hc13_6 hf13_6 hl13_6 hm13_6 hn13_6 ho13_6 hc13_8 hf13_8 hl13_8 hm13_8 hn13_8 ho13_8 hc13_9 hf13_9 hl13_9 hm13_9 hn13_9 ho13_9 hc13_10 hf13_10 hl13_10 hm13_10 hn13_10 ho13_10 hc13_11 hf13_11 hl13_11 hm13_11 hn13_11 ho13_11 hc13_12 hf13_12 hl13_12 hm13_12 hn13_12 ho13_12 hc13 hf13 hl13 hm13 hn13 ho13 g13 hb13_1 hb13_3 hb13_5 hb13_6 hb13_8 hb13_9 hb13_10 hb13_11 hb13_12 hb13
  obtain ⟨hc14_1, hf14_1, hl14_1, hm14_1, hn14_1, ho14_1⟩ := bsix hb14_1
  obtain ⟨hc14_3, hf14_3, hl14_3, hm14_3, hn14_3, ho14_3⟩ := bsix hb14_3
  obtain ⟨hc14_5, hf14_5, hl14_5, hm14_5, hn14_5, ho14_5⟩ := bsix hb14_5
  obtain ⟨hc14_6, hf14_6, hl14_6, hm14_6, hn14_6, ho14_6⟩ := bsix hb14_6
  obtain ⟨hc14_8, hf14_8, hl14_8, hm14_8, hn14_8, ho14_8⟩ := bsix hb14_8
  obtain ⟨hc14_9, hf14_9, hl14_9, hm14_9, hn14_9, ho14_9⟩ := bsix hb14_9
  obtain ⟨hc14_10, hf14_10, hl14_10, hm14_10, hn14_10, ho14_10⟩ := bsix hb14_10
  obtain ⟨hc14_11, hf14_11, hl14_11, hm14_11, hn14_11, ho14_11⟩ := bsix hb14_11
  obtain ⟨hc14_12, hf14_12, hl14_12, hm14_12, hn14_12, ho14_12⟩ := bsix hb14_12
  obtain ⟨hc14_13, hf14_13, hl14_13, hm14_13, hn14_13, ho14_13⟩ := bsix hb14_13
  obtain ⟨hc14, hf14, hl14, hm14, hn14, ho14⟩ := bsix hb14
  go_wp2_with fail
  refine (hback _).mono ?_
  as_aux_lemma =>
  rintro e w15 ⟨rfl, hb15⟩
  have g15 : Below w.heap.size w w15 := below_more g14 hb15 (by go_grown)
  have hb15_1 := below_more hb14_1 hb15 (by go_grown)
  have hb15_3 := below_more hb14_3 hb15 (by go_grown)
  have hb15_5 := below_more hb14_5 hb15 (by go_grown)
  have hb15_6 := below_more hb14_6 hb15 (by go_grown)
  have hb15_8 := below_more hb14_8 hb15 (by go_grown)
  have hb15_9 := below_more hb14_9 hb15 (by go_grown)
  have hb15_10 := below_more hb14_10 hb15 (by go_grown)
  have hb15_11 := below_more hb14_11 hb15 (by go_grown)
  have hb15_12 := below_more hb14_12 hb15 (by go_grown)
  have hb15_13 := below_more hb14_13 hb15 (by go_grown)
  have hb15_14 := below_more hb14 hb15 (by go_grown)
  clear hc14_1 hf14_1 hl14_1 hm14_1 hn14_1 ho14_1 hc14_3 hf14_3 hl14_3 hm14_3 hn14_3 ho14_3 hc14_5 hf14_5 hl14_5 hm14_5 hn14_5 ho14_5 hc14_6 hf14_6 hl14_6 hm14_6 hn14_6 ho14_6 hc14_8 hf14_8 hl14_8 hm14_8 hn14_8 ho14_8 hc14_9 hf14_9 hl14_9 hm14_9 hn14_9 ho14_9 hc14_10 hf14_10 hl14_10 hm14_10 hn14_10 ho14_10 hc14_11 hf14_11 hl14_11 hm14_11 hn14_11 ho14_11 hc14_12 hf14_12 hl14_12 hm14_12 hn14_12 ho14_12 hc14_13 hf14_13 hl14_13 hm14_13 hn14_13 ho14_13 hc14 hf14 hl14 hm14 hn14 ho14 g14 hb14_1 hb14_3 hb14_5 hb14_6 hb14_8 hb14_9 hb14_10 hb14_11 hb14_12 hb14_13 hb14
  obtain ⟨hc15_1, hf15_1, hl15_1, hm15_1, hn15_1, ho15_1⟩ := bsix hb15_1
  obtain ⟨hc15_3, hf15_3, hl15_3, hm15_3, hn15_3, ho15_3⟩ := bsix hb15_3
  obtain ⟨hc15_5, hf15_5, hl15_5, hm15_5, hn15_5, ho15_5⟩ := bsix hb15_5
  obtain ⟨hc15_6, hf15_6, hl15_6, hm15_6, hn15_6, ho15_6⟩ := bsix hb15_6
  obtain ⟨hc15_8, hf15_8, hl15_8, hm15_8, hn15_8, ho15_8⟩ := bsix hb15_8
  obtain ⟨hc15_9, hf15_9, hl15_9, hm15_9, hn15_9, ho15_9⟩ := bsix hb15_9
  obtain ⟨hc15_10, hf15_10, hl15_10, hm15_10, hn15_10, ho15_10⟩ := bsix hb15_10
  obtain ⟨hc15_11, hf15_11, hl15_11, hm15_11, hn15_11, ho15_11⟩ := bsix hb15_11
  obtain ⟨hc15_12, hf15_12, hl15_12, hm15_12, hn15_12, ho15_12⟩ := bsix hb15_12
  obtain ⟨hc15_13, hf15_13, hl15_13, hm15_13, hn15_13, ho15_13⟩ := bsix hb15_13
  obtain ⟨hc15_14, hf15_14, hl15_14, hm15_14, hn15_14, ho15_14⟩ := bsix hb15_14
  obtain ⟨hc15, hf15, hl15, hm15, hn15, ho15⟩ := bsix hb15
  go_wp2_with fail
  refine (hq _).mono ?_
  rintro e w16 ⟨rfl, hb16⟩
  have g16 : Below w.heap.size w w16 := below_more g15 hb16 (by go_grown)
  have hb16_1 := below_more hb15_1 hb16 (by go_grown)
  have hb16_3 := below_more hb15_3 hb16 (by go_grown)
  have hb16_5 := below_more hb15_5 hb16 (by go_grown)
  have hb16_6 := below_more hb15_6 hb16 (by go_grown)
  have hb16_8 := below_more hb15_8 hb16 (by go_grown)
  have hb16_9 := below_more hb15_9 hb16 (by go_grown)
  have hb16_10 := below_more hb15_10 hb16 (by go_grown)
  have hb16_11 := below_more hb15_11 hb16 (by go_grown)
  have hb16_12 := below_more hb15_12 hb16 (by go_grown)
  have hb16_13 := below_more hb15_13 hb16 (by go_grown)
  have hb16_14 := below_more hb15_14 hb16 (by go_grown)
  have hb16_15 := below_more hb15 hb16 (by go_grown)
  clear hc15_1 hf15_1 hl15_1 hm15_1 hn15_1 ho15_1 hc15_3 hf15_3 hl15_3 hm15_3 hn15_3 ho15_3 hc15_5 hf15_5 hl15_5 hm15_5 hn15_5 ho15_5 hc15_6 hf15_6 hl15_6 hm15_6 hn15_6 ho15_6 hc15_8 hf15_8 hl15_8 hm15_8 hn15_8 ho15_8 hc15_9 hf15_9 hl15_9 hm15_9 hn15_9 ho15_9 hc15_10 hf15_10 hl15_10 hm15_10 hn15_10 ho15_10 hc15_11 hf15_11 hl15_11 hm15_11 hn15_11 ho15_11 hc15_12 hf15_12 hl15_12 hm15_12 hn15_12 ho15_12 hc15_13 hf15_13 hl15_13 hm15_13 hn15_13 ho15_13 hc15_14 hf15_14 hl15_14 hm15_14 hn15_14 ho15_14 hc15 hf15 hl15 hm15 hn15 ho15 g15 hb15_1 hb15_3 hb15_5 hb15_6 hb15_8 hb15_9 hb15_10 hb15_11 hb15_12 hb15_13 hb15_14 hb15
  obtain ⟨hc16_1, hf16_1, hl16_1, hm16_1, hn16_1, ho16_1⟩ := bsix hb16_1
  obtain ⟨hc16_3, hf16_3, hl16_3, hm16_3, hn16_3, ho16_3⟩ := bsix hb16_3
  obtain ⟨hc16_5, hf16_5, hl16_5, hm16_5, hn16_5, ho16_5⟩ := bsix hb16_5
  obtain ⟨hc16_6, hf16_6, hl16_6, hm16_6, hn16_6, ho16_6⟩ := bsix hb16_6
  obtain ⟨hc16_8, hf16_8, hl16_8, hm16_8, hn16_8, ho16_8⟩ := bsix hb16_8
  obtain ⟨hc16_9, hf16_9, hl16_9, hm16_9, hn16_9, ho16_9⟩ := bsix hb16_9
  obtain ⟨hc16_10, hf16_10, hl16_10, hm16_10, hn16_10, ho16_10⟩ := bsix hb16_10
  obtain ⟨hc16_11, hf16_11, hl16_11, hm16_11, hn16_11, ho16_11⟩ := bsix hb16_11
  obtain ⟨hc16_12, hf16_12, hl16_12, hm16_12, hn16_12, ho16_12⟩ := bsix hb16_12
  obtain ⟨hc16_13, hf16_13, hl16_13, hm16_13, hn16_13, ho16_13⟩ := bsix hb16_13
  obtain ⟨hc16_14, hf16_14, hl16_14, hm16_14, hn16_14, ho16_14⟩ := bsix hb16_14
  obtain ⟨hc16_15, hf16_15, hl16_15, hm16_15, hn16_15, ho16_15⟩ := bsix hb16_15
  obtain ⟨hc16, hf16, hl16, hm16, hn16, ho16⟩ := bsix hb16
  as_aux_lemma =>
  go_upto_region 23 with fail
  go_cut [232] (fun s232 wx => s232 = .bool false ∧ wx = ((w16.alloc (.cells #[.int .i64 en, .int .i64 ed] 23)).alloc (.cells #[.int .i64 ec, .int .i64 0] 25)))
  case first =>
    by_cases zx : xc = 0
    · have yx : (xc == 0) = true := by simpa using zx
      by_cases zy : yc = 0
      · have yy : (yc == 0) = true := by simpa using zy
        obtain ⟨rfl, rfl⟩ := e1 zx zy
        clear zx zy e1
        by_cases zu : uc = 0
        · have yu : (uc == 0) = true := by simpa using zu
          by_cases zv : vc = 0
          · have yv : (vc == 0) = true := by simpa using zv
            obtain ⟨rfl, rfl⟩ := e2 zu zv
            clear zu zv e2
            by_cases zf : kc = 0
            · have yf : (kc == 0) = true := by simpa using zf
              by_cases zg : gc = 0
              · have yg : (gc == 0) = true := by simpa using zg
                obtain ⟨rfl, rfl⟩ := e3 zf zg
                clear zf zg e3
                as_aux_lemma =>
                go_wp2_with fail
                go_meet
                exact ⟨rfl, rfl⟩
              · have yg : (gc == 0) = false := by simpa using zg
                clear zf zg e3
                as_aux_lemma =>
                go_wp2_with fail
                go_meet
                exact ⟨rfl, rfl⟩
            · have yf : (kc == 0) = false := by simpa using zf
              clear zf e3
              as_aux_lemma =>
              go_wp2_with fail
              go_meet
              exact ⟨rfl, rfl⟩
          · have yv : (vc == 0) = false := by simpa using zv
            clear zu zv e2
            by_cases zf : kc = 0
            · have yf : (kc == 0) = true := by simpa using zf
              by_cases zg : gc = 0
              · have yg : (gc == 0) = true := by simpa using zg
                obtain ⟨rfl, rfl⟩ := e3 zf zg
                clear zf zg e3
                as_aux_lemma =>
                go_wp2_with fail
                go_meet
                exact ⟨rfl, rfl⟩
              · have yg : (gc == 0) = false := by simpa using zg
                clear zf zg e3
                as_aux_lemma =>
                go_wp2_with fail
                go_meet
                exact ⟨rfl, rfl⟩
            · have yf : (kc == 0) = false := by simpa using zf
              clear zf e3
              as_aux_lemma =>
              go_wp2_with fail
              go_meet
              exact ⟨rfl, rfl⟩
        · have yu : (uc == 0) = false := by simpa using zu
          clear zu e2
          by_cases zf : kc = 0
          · have yf : (kc == 0) = true := by simpa using zf
            by_cases zg : gc = 0
            · have yg : (gc == 0) = true := by simpa using zg
              obtain ⟨rfl, rfl⟩ := e3 zf zg
              clear zf zg e3
              as_aux_lemma =>
              go_wp2_with fail
              go_meet
              exact ⟨rfl, rfl⟩
            · have yg : (gc == 0) = false := by simpa using zg
              clear zf zg e3
              as_aux_lemma =>
              go_wp2_with fail
              go_meet
              exact ⟨rfl, rfl⟩
          · have yf : (kc == 0) = false := by simpa using zf
            clear zf e3
            as_aux_lemma =>
            go_wp2_with fail
            go_meet
            exact ⟨rfl, rfl⟩
      · have yy : (yc == 0) = false := by simpa using zy
        clear zx zy e1
        by_cases zu : uc = 0
        · have yu : (uc == 0) = true := by simpa using zu
          by_cases zv : vc = 0
          · have yv : (vc == 0) = true := by simpa using zv
            obtain ⟨rfl, rfl⟩ := e2 zu zv
            clear zu zv e2
            by_cases zf : kc = 0
            · have yf : (kc == 0) = true := by simpa using zf
              by_cases zg : gc = 0
              · have yg : (gc == 0) = true := by simpa using zg
                obtain ⟨rfl, rfl⟩ := e3 zf zg
                clear zf zg e3
                as_aux_lemma =>
                go_wp2_with fail
                go_meet
                exact ⟨rfl, rfl⟩
              · have yg : (gc == 0) = false := by simpa using zg
                clear zf zg e3
                as_aux_lemma =>
                go_wp2_with fail
                go_meet
                exact ⟨rfl, rfl⟩
            · have yf : (kc == 0) = false := by simpa using zf
              clear zf e3
              as_aux_lemma =>
              go_wp2_with fail
              go_meet
              exact ⟨rfl, rfl⟩
          · have yv : (vc == 0) = false := by simpa using zv
            clear zu zv e2
            by_cases zf : kc = 0
            · have yf : (kc == 0) = true := by simpa using zf
              by_cases zg : gc = 0
              · have yg : (gc == 0) = true := by simpa using zg
                obtain ⟨rfl, rfl⟩ := e3 zf zg
                clear zf zg e3
                as_aux_lemma =>
                go_wp2_with fail
                go_meet
                exact ⟨rfl, rfl⟩
              · have yg : (gc == 0) = false := by simpa using zg
                clear zf zg e3
                as_aux_lemma =>
                go_wp2_with fail
                go_meet
                exact ⟨rfl, rfl⟩
            · have yf : (kc == 0) = false := by simpa using zf
              clear zf e3
              as_aux_lemma =>
              go_wp2_with fail
              go_meet
              exact ⟨rfl, rfl⟩
        · have yu : (uc == 0) = false := by simpa using zu
          clear zu e2
          by_cases zf : kc = 0
          · have yf : (kc == 0) = true := by simpa using zf
            by_cases zg : gc = 0
            · have yg : (gc == 0) = true := by simpa using zg
              obtain ⟨rfl, rfl⟩ := e3 zf zg
              clear zf zg e3
              as_aux_lemma =>
              go_wp2_with fail
              go_meet
              exact ⟨rfl, rfl⟩
            · have yg : (gc == 0) = false := by simpa using zg
              clear zf zg e3
              as_aux_lemma =>
              go_wp2_with fail
              go_meet
              exact ⟨rfl, rfl⟩
          · have yf : (kc == 0) = false := by simpa using zf
            clear zf e3
            as_aux_lemma =>
            go_wp2_with fail
            go_meet
            exact ⟨rfl, rfl⟩
    · have yx : (xc == 0) = false := by simpa using zx
      clear zx e1
      by_cases zu : uc = 0
      · have yu : (uc == 0) = true := by simpa using zu
        by_cases zv : vc = 0
        · have yv : (vc == 0) = true := by simpa using zv
          obtain ⟨rfl, rfl⟩ := e2 zu zv
          clear zu zv e2
          by_cases zf : kc = 0
          · have yf : (kc == 0) = true := by simpa using zf
            by_cases zg : gc = 0
            · have yg : (gc == 0) = true := by simpa using zg
              obtain ⟨rfl, rfl⟩ := e3 zf zg
              clear zf zg e3
              as_aux_lemma =>
              go_wp2_with fail
              go_meet
              exact ⟨rfl, rfl⟩
            · have yg : (gc == 0) = false := by simpa using zg
              clear zf zg e3
              as_aux_lemma =>
              go_wp2_with fail
              go_meet
              exact ⟨rfl, rfl⟩
          · have yf : (kc == 0) = false := by simpa using zf
            clear zf e3
            as_aux_lemma =>
            go_wp2_with fail
            go_meet
            exact ⟨rfl, rfl⟩
        · have yv : (vc == 0) = false := by simpa using zv
          clear zu zv e2
          by_cases zf : kc = 0
          · have yf : (kc == 0) = true := by simpa using zf
            by_cases zg : gc = 0
            · have yg : (gc == 0) = true := by simpa using zg
              obtain ⟨rfl, rfl⟩ := e3 zf zg
              clear zf zg e3
              as_aux_lemma =>
              go_wp2_with fail
              go_meet
              exact ⟨rfl, rfl⟩
            · have yg : (gc == 0) = false := by simpa using zg
              clear zf zg e3
              as_aux_lemma =>
              go_wp2_with fail
              go_meet
              exact ⟨rfl, rfl⟩
          · have yf : (kc == 0) = false := by simpa using zf
            clear zf e3
            as_aux_lemma =>
            go_wp2_with fail
            go_meet
            exact ⟨rfl, rfl⟩
      · have yu : (uc == 0) = false := by simpa using zu
        clear zu e2
        by_cases zf : kc = 0
        · have yf : (kc == 0) = true := by simpa using zf
          by_cases zg : gc = 0
          · have yg : (gc == 0) = true := by simpa using zg
            obtain ⟨rfl, rfl⟩ := e3 zf zg
            clear zf zg e3
            as_aux_lemma =>
            go_wp2_with fail
            go_meet
            exact ⟨rfl, rfl⟩
          · have yg : (gc == 0) = false := by simpa using zg
            clear zf zg e3
            as_aux_lemma =>
            go_wp2_with fail
            go_meet
            exact ⟨rfl, rfl⟩
        · have yf : (kc == 0) = false := by simpa using zf
          clear zf e3
          as_aux_lemma =>
          go_wp2_with fail
          go_meet
          exact ⟨rfl, rfl⟩
  case rest =>
    obtain ⟨rfl, rfl⟩ := hcut
    clear e1 e2 e3
    rcases last with ⟨z, rfl⟩ | ⟨z, rfl, rfl, rfl⟩
    · have z1 : (bn == 0) = true := by simpa using z
      clear z
      as_aux_lemma =>
      go_wp2_with fail
      go_ret
      refine ⟨rfl, ?_⟩
      have zz := g16.size
      go_grown
    · have z1 : (bn == 0) = false := by simpa using z
      have z2 : (bn != 0) = true := by simpa using z
      clear z
      as_aux_lemma =>
      go_wp2_with fail
      go_ret
      refine ⟨rfl, ?_⟩
      have zz := g16.size
      go_grown
end Go.Proofs.Ytapaggpkoelamaa
