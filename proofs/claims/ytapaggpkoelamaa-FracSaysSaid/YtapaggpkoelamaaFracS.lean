/-
  The law FracSays walked: frac's answers are the reference's.
-/
import Derived.Test.YtapaggpkoelamaaWideX
import Derived.Test.YtapaggpkoelamaaWideT
namespace Go.Proofs.Ytapaggpkoelamaa
open Go.RowKit
attribute [local go_sem ↓] Go.wp_at_zero Go.wp_at_succ

theorem field_code (c i : Int) (w : World) : (Instr.field 25 (.agg #[.int .i64 c, .int .i64 i]) 0).run Try.prog w = .ok (.int .i64 c) w := by kernel_rfl
set_option maxRecDepth 100000 in
set_option maxHeartbeats 8000000 in
theorem says_in (an ad bn bd : Int) (sn sd sc si dn dd dc di pn pd pc pi qn qd qc qi k kc ki lc li cc : Int) (lb va vb : Bool) (w : World)
    (hadd : ∀ w, Calls Try.prog 8 #[.agg #[.int .i64 an, .int .i64 ad], .agg #[.int .i64 bn, .int .i64 bd]] w (Gives sn sd sc si w))
    (hsub : ∀ w, Calls Try.prog 9 #[.agg #[.int .i64 an, .int .i64 ad], .agg #[.int .i64 bn, .int .i64 bd]] w (Gives dn dd dc di w))
    (htimes : ∀ w, Calls Try.prog 10 #[.agg #[.int .i64 an, .int .i64 ad], .agg #[.int .i64 bn, .int .i64 bd]] w (Gives pn pd pc pi w))
    (hover : ∀ w, Calls Try.prog 11 #[.agg #[.int .i64 an, .int .i64 ad], .agg #[.int .i64 bn, .int .i64 bd]] w (Gives qn qd qc qi w))
    (hless : ∀ w, Calls Try.prog 12 #[.agg #[.int .i64 an, .int .i64 ad], .agg #[.int .i64 bn, .int .i64 bd]] w (GivesB lb lc li w))
    (hfloor : ∀ w, Calls Try.prog 13 #[.agg #[.int .i64 an, .int .i64 ad]] w (GivesI k kc ki w))
    (ht1 : ∀ w, Calls Try.prog 14 #[.int .i64 1, .agg #[.int .i64 an, .int .i64 ad], .agg #[.int .i64 bn, .int .i64 bd]] w (Gives sn sd sc si w))
    (ht2 : ∀ w, Calls Try.prog 14 #[.int .i64 2, .agg #[.int .i64 an, .int .i64 ad], .agg #[.int .i64 bn, .int .i64 bd]] w (Gives dn dd dc di w))
    (ht3 : ∀ w, Calls Try.prog 14 #[.int .i64 3, .agg #[.int .i64 an, .int .i64 ad], .agg #[.int .i64 bn, .int .i64 bd]] w (Gives pn pd pc pi w))
    (ht4 : ∀ w, Calls Try.prog 14 #[.int .i64 4, .agg #[.int .i64 an, .int .i64 ad], .agg #[.int .i64 bn, .int .i64 bd]] w (Gives qn qd qc qi w))
    (hra : ∀ w, Calls Try.prog 15 #[.agg #[.int .i64 an, .int .i64 ad]] w (GivesT va w))
    (hrb : ∀ w, Calls Try.prog 15 #[.agg #[.int .i64 bn, .int .i64 bd]] w (GivesT vb w))
    (hcheck : ∀ w, Calls Try.prog 16 #[.agg #[.int .i64 an, .int .i64 ad]] w fun e w' => e = .returned (.agg #[.int .i64 cc, .int .i64 0]) ∧ Below w.heap.size w w')
    (cA : Hid (va = false → cc = 3 ∧ kc = 3 ∧ ki = 0 ∧ k = 0 ∧ lc = sc ∧ li = si ∧ lb = false))
    (cB : Hid (va = true → cc = 0 ∧ kc = 0 ∧ ∀ w, Calls Try.prog 17 #[.agg #[.int .i64 an, .int .i64 ad]] w (GivesN k w)))
    (cC : Hid (va = true → vb = false → lc = sc ∧ li = si ∧ lb = false))
    (cD : Hid (va = true → vb = true → lc = 0 ∧ fvalid an ad = true ∧ fvalid bn bd = true ∧ ∃ cv, decide (cv < 0) = lb ∧ ∀ (w : World) (x y : Nat), RV w x an (mag ad) → RV w y bn (mag bd) → Calls Try.prog 19 #[.pointer (some ⟨x, 0, none⟩), .pointer (some ⟨y, 0, none⟩)] w (GivesN cv w))) :
    Calls Try.prog 3 #[.agg #[.int .i64 an, .int .i64 ad], .agg #[.int .i64 bn, .int .i64 bd]] w fun e w' => e = .returned (.bool true) ∧ Below w.heap.size w w' := by
  have LT2 : ∀ n : Nat, n < n + 1 + 1 := lt_two
  have LT3 : ∀ n : Nat, n < n + 1 + 1 + 1 := fun n => by omega
  have FC := field_code
  go_enter Try.func3, Try.ntmps3
  go_wp2_with fail
  refine (hadd _).mono ?_
  rintro en w1 ⟨rfl, hb1⟩
  have g1 : Below w.heap.size w w1 := below_after (by go_grown) hb1
  obtain ⟨hc1, hf1, hl1, hm1, hn1, ho1⟩ := bsix hb1
  go_wp2_with fail
  refine (hsub _).mono ?_
  rintro en w2 ⟨rfl, hb2⟩
  have g2 : Below w.heap.size w w2 := below_more g1 hb2 (by go_grown)
  have hb2_1 := below_more hb1 hb2 (by go_grown)
  clear hc1 hf1 hl1 hm1 hn1 ho1 g1 hb1
  obtain ⟨hc2_1, hf2_1, hl2_1, hm2_1, hn2_1, ho2_1⟩ := bsix hb2_1
  go_wp2_with fail
  refine (htimes _).mono ?_
  as_aux_lemma =>
  rintro en w3 ⟨rfl, hb3⟩
  have g3 : Below w.heap.size w w3 := below_more g2 hb3 (by go_grown)
  have hb3_1 := below_more hb2_1 hb3 (by go_grown)
  have hb3_2 := below_more hb2 hb3 (by go_grown)
  clear hc2_1 hf2_1 hl2_1 hm2_1 hn2_1 ho2_1 g2 hb2_1 hb2
  obtain ⟨hc3_1, hf3_1, hl3_1, hm3_1, hn3_1, ho3_1⟩ := bsix hb3_1
  go_wp2_with fail
  refine (hover _).mono ?_
  rintro en w4 ⟨rfl, hb4⟩
  have g4 : Below w.heap.size w w4 := below_more g3 hb4 (by go_grown)
  have hb4_1 := below_more hb3_1 hb4 (by go_grown)
  have hb4_2 := below_more hb3_2 hb4 (by go_grown)
  have hb4_3 := below_more hb3 hb4 (by go_grown)
  clear hc3_1 hf3_1 hl3_1 hm3_1 hn3_1 ho3_1 g3 hb3_1 hb3_2 hb3
  obtain ⟨hc4_1, hf4_1, hl4_1, hm4_1, hn4_1, ho4_1⟩ := bsix hb4_1
  go_wp2_with fail
  refine (hless _).mono ?_
  rintro en w5 ⟨rfl, hb5⟩
  have g5 : Below w.heap.size w w5 := below_more g4 hb5 (by go_grown)
  have hb5_1 := below_more hb4_1 hb5 (by go_grown)
  have hb5_2 := below_more hb4_2 hb5 (by go_grown)
  have hb5_3 := below_more hb4_3 hb5 (by go_grown)
  have hb5_4 := below_more hb4 hb5 (by go_grown)
  clear hc4_1 hf4_1 hl4_1 hm4_1 hn4_1 ho4_1 g4 hb4_1 hb4_2 hb4_3 hb4
  obtain ⟨hc5_1, hf5_1, hl5_1, hm5_1, hn5_1, ho5_1⟩ := bsix hb5_1
  go_wp2_with fail
  refine (hfloor _).mono ?_
  as_aux_lemma =>
  rintro en w6 ⟨rfl, hb6⟩
  have g6 : Below w.heap.size w w6 := below_more g5 hb6 (by go_grown)
  have hb6_1 := below_more hb5_1 hb6 (by go_grown)
  have hb6_2 := below_more hb5_2 hb6 (by go_grown)
  have hb6_3 := below_more hb5_3 hb6 (by go_grown)
  have hb6_4 := below_more hb5_4 hb6 (by go_grown)
  have hb6_5 := below_more hb5 hb6 (by go_grown)
  clear hc5_1 hf5_1 hl5_1 hm5_1 hn5_1 ho5_1 g5 hb5_1 hb5_2 hb5_3 hb5_4 hb5
  obtain ⟨hc6_1, hf6_1, hl6_1, hm6_1, hn6_1, ho6_1⟩ := bsix hb6_1
  go_wp2_with fail
  refine (ht1 _).mono ?_
  rintro en w7 ⟨rfl, hb7⟩
  have g7 : Below w.heap.size w w7 := below_more g6 hb7 (by go_grown)
  have hb7_1 := below_more hb6_1 hb7 (by go_grown)
  have hb7_2 := below_more hb6_2 hb7 (by go_grown)
  have hb7_3 := below_more hb6_3 hb7 (by go_grown)
  have hb7_4 := below_more hb6_4 hb7 (by go_grown)
  have hb7_5 := below_more hb6_5 hb7 (by go_grown)
  have hb7_6 := below_more hb6 hb7 (by go_grown)
  clear hc6_1 hf6_1 hl6_1 hm6_1 hn6_1 ho6_1 g6 hb6_1 hb6_2 hb6_3 hb6_4 hb6_5 hb6
  obtain ⟨hc7_1, hf7_1, hl7_1, hm7_1, hn7_1, ho7_1⟩ := bsix hb7_1
  go_wp2_with fail
  refine (ht2 _).mono ?_
  as_aux_lemma =>
  rintro en w8 ⟨rfl, hb8⟩
  have g8 : Below w.heap.size w w8 := below_more g7 hb8 (by go_grown)
  have hb8_1 := below_more hb7_1 hb8 (by go_grown)
  have hb8_2 := below_more hb7_2 hb8 (by go_grown)
  have hb8_3 := below_more hb7_3 hb8 (by go_grown)
  have hb8_4 := below_more hb7_4 hb8 (by go_grown)
  have hb8_5 := below_more hb7_5 hb8 (by go_grown)
  have hb8_6 := below_more hb7_6 hb8 (by go_grown)
  have hb8_7 := below_more hb7 hb8 (by go_grown)
  clear hc7_1 hf7_1 hl7_1 hm7_1 hn7_1 ho7_1 g7 hb7_1 hb7_2 hb7_3 hb7_4 hb7_5 hb7_6 hb7
  obtain ⟨hc8_1, hf8_1, hl8_1, hm8_1, hn8_1, ho8_1⟩ := bsix hb8_1
  go_wp2_with fail
  refine (ht3 _).mono ?_
  rintro en w9 ⟨rfl, hb9⟩
  have g9 : Below w.heap.size w w9 := below_more g8 hb9 (by go_grown)
  have hb9_1 := below_more hb8_1 hb9 (by go_grown)
  have hb9_2 := below_more hb8_2 hb9 (by go_grown)
  have hb9_3 := below_more hb8_3 hb9 (by go_grown)
  have hb9_4 := below_more hb8_4 hb9 (by go_grown)
  have hb9_5 := below_more hb8_5 hb9 (by go_grown)
  have hb9_6 := below_more hb8_6 hb9 (by go_grown)
  have hb9_7 := below_more hb8_7 hb9 (by go_grown)
  have hb9_8 := below_more hb8 hb9 (by go_grown)
  clear hc8_1 hf8_1 hl8_1 hm8_1 hn8_1 ho8_1 g8 hb8_1 hb8_2 hb8_3 hb8_4 hb8_5 hb8_6 hb8_7 hb8
  obtain ⟨hc9_1, hf9_1, hl9_1, hm9_1, hn9_1, ho9_1⟩ := bsix hb9_1
  go_wp2_with fail
  refine (ht4 _).mono ?_
  as_aux_lemma =>
  rintro en w10 ⟨rfl, hb10⟩
  have g10 : Below w.heap.size w w10 := below_more g9 hb10 (by go_grown)
  have hb10_1 := below_more hb9_1 hb10 (by go_grown)
  have hb10_2 := below_more hb9_2 hb10 (by go_grown)
  have hb10_3 := below_more hb9_3 hb10 (by go_grown)
  have hb10_4 := below_more hb9_4 hb10 (by go_grown)
  have hb10_5 := below_more hb9_5 hb10 (by go_grown)
  have hb10_6 := below_more hb9_6 hb10 (by go_grown)
  have hb10_7 := below_more hb9_7 hb10 (by go_grown)
  have hb10_8 := below_more hb9_8 hb10 (by go_grown)
  have hb10_9 := below_more hb9 hb10 (by go_grown)
  clear hc9_1 hf9_1 hl9_1 hm9_1 hn9_1 ho9_1 g9 hb9_1 hb9_2 hb9_3 hb9_4 hb9_5 hb9_6 hb9_7 hb9_8 hb9
  obtain ⟨hc10_1, hf10_1, hl10_1, hm10_1, hn10_1, ho10_1⟩ := bsix hb10_1
  obtain ⟨hc10_2, hf10_2, hl10_2, hm10_2, hn10_2, ho10_2⟩ := bsix hb10_2
  obtain ⟨hc10_3, hf10_3, hl10_3, hm10_3, hn10_3, ho10_3⟩ := bsix hb10_3
  obtain ⟨hc10_4, hf10_4, hl10_4, hm10_4, hn10_4, ho10_4⟩ := bsix hb10_4
  obtain ⟨hc10_5, hf10_5, hl10_5, hm10_5, hn10_5, ho10_5⟩ := bsix hb10_5
  obtain ⟨hc10_6, hf10_6, hl10_6, hm10_6, hn10_6, ho10_6⟩ := bsix hb10_6
  obtain ⟨hc10_7, hf10_7, hl10_7, hm10_7, hn10_7, ho10_7⟩ := bsix hb10_7
  obtain ⟨hc10_8, hf10_8, hl10_8, hm10_8, hn10_8, ho10_8⟩ := bsix hb10_8
  obtain ⟨hc10_9, hf10_9, hl10_9, hm10_9, hn10_9, ho10_9⟩ := bsix hb10_9
  obtain ⟨hc10, hf10, hl10, hm10, hn10, ho10⟩ := bsix hb10
  go_wp2_with fail
  cases va
  · as_aux_lemma =>
    obtain ⟨rfl, rfl, rfl, rfl, rfl, rfl, rfl⟩ := cA.out rfl
    clear cA cB cC cD hrb
    refine (hra _).mono ?_
    rintro en w11 ⟨rfl, hb11⟩
    have g11 : Below w.heap.size w w11 := below_more g10 hb11 (by go_grown)
    have hb11_1 := below_more hb10_1 hb11 (by go_grown)
    have hb11_6 := below_more hb10_6 hb11 (by go_grown)
    have hb11_7 := below_more hb10_7 hb11 (by go_grown)
    have hb11_8 := below_more hb10_8 hb11 (by go_grown)
    clear hc10_1 hf10_1 hl10_1 hm10_1 hn10_1 ho10_1 hc10_2 hf10_2 hl10_2 hm10_2 hn10_2 ho10_2 hc10_3 hf10_3 hl10_3 hm10_3 hn10_3 ho10_3 hc10_4 hf10_4 hl10_4 hm10_4 hn10_4 ho10_4 hc10_5 hf10_5 hl10_5 hm10_5 hn10_5 ho10_5 hc10_6 hf10_6 hl10_6 hm10_6 hn10_6 ho10_6 hc10_7 hf10_7 hl10_7 hm10_7 hn10_7 ho10_7 hc10_8 hf10_8 hl10_8 hm10_8 hn10_8 ho10_8 hc10_9 hf10_9 hl10_9 hm10_9 hn10_9 ho10_9 hc10 hf10 hl10 hm10 hn10 ho10 g10 hb10_1 hb10_2 hb10_3 hb10_4 hb10_5 hb10_6 hb10_7 hb10_8 hb10_9 hb10
    obtain ⟨hc11_1, hf11_1, hl11_1, hm11_1, hn11_1, ho11_1⟩ := bsix hb11_1
    obtain ⟨hc11_6, hf11_6, hl11_6, hm11_6, hn11_6, ho11_6⟩ := bsix hb11_6
    obtain ⟨hc11_7, hf11_7, hl11_7, hm11_7, hn11_7, ho11_7⟩ := bsix hb11_7
    obtain ⟨hc11_8, hf11_8, hl11_8, hm11_8, hn11_8, ho11_8⟩ := bsix hb11_8
    go_wp2_with fail
    refine (hcheck _).mono ?_
    rintro en w12 ⟨rfl, hb12⟩
    have g12 : Below w.heap.size w w12 := below_more g11 hb12 (by go_grown)
    have hb12_1 := below_more hb11_1 hb12 (by go_grown)
    have hb12_6 := below_more hb11_6 hb12 (by go_grown)
    have hb12_7 := below_more hb11_7 hb12 (by go_grown)
    have hb12_8 := below_more hb11_8 hb12 (by go_grown)
    have hb12_11 := below_more hb11 hb12 (by go_grown)
    clear hc11_1 hf11_1 hl11_1 hm11_1 hn11_1 ho11_1 hc11_6 hf11_6 hl11_6 hm11_6 hn11_6 ho11_6 hc11_7 hf11_7 hl11_7 hm11_7 hn11_7 ho11_7 hc11_8 hf11_8 hl11_8 hm11_8 hn11_8 ho11_8 g11 hb11_1 hb11_6 hb11_7 hb11_8 hb11
    obtain ⟨hc12_1, hf12_1, hl12_1, hm12_1, hn12_1, ho12_1⟩ := bsix hb12_1
    obtain ⟨hc12_6, hf12_6, hl12_6, hm12_6, hn12_6, ho12_6⟩ := bsix hb12_6
    obtain ⟨hc12_7, hf12_7, hl12_7, hm12_7, hn12_7, ho12_7⟩ := bsix hb12_7
    obtain ⟨hc12_8, hf12_8, hl12_8, hm12_8, hn12_8, ho12_8⟩ := bsix hb12_8
    go_wp2_with fail
    refine (hcheck _).mono ?_
    rintro en w13 ⟨rfl, hb13⟩
    have g13 : Below w.heap.size w w13 := below_more g12 hb13 (by go_grown)
    have hb13_1 := below_more hb12_1 hb13 (by go_grown)
    have hb13_6 := below_more hb12_6 hb13 (by go_grown)
    have hb13_7 := below_more hb12_7 hb13 (by go_grown)
    have hb13_8 := below_more hb12_8 hb13 (by go_grown)
    have hb13_11 := below_more hb12_11 hb13 (by go_grown)
    clear hc12_1 hf12_1 hl12_1 hm12_1 hn12_1 ho12_1 hc12_6 hf12_6 hl12_6 hm12_6 hn12_6 ho12_6 hc12_7 hf12_7 hl12_7 hm12_7 hn12_7 ho12_7 hc12_8 hf12_8 hl12_8 hm12_8 hn12_8 ho12_8 g12 hb12_1 hb12_6 hb12_7 hb12_8 hb12_11
    obtain ⟨hc13_1, hf13_1, hl13_1, hm13_1, hn13_1, ho13_1⟩ := bsix hb13_1
    obtain ⟨hc13_6, hf13_6, hl13_6, hm13_6, hn13_6, ho13_6⟩ := bsix hb13_6
    obtain ⟨hc13_7, hf13_7, hl13_7, hm13_7, hn13_7, ho13_7⟩ := bsix hb13_7
    obtain ⟨hc13_8, hf13_8, hl13_8, hm13_8, hn13_8, ho13_8⟩ := bsix hb13_8
    go_wp2_with fail
    go_ret
    refine ⟨rfl, ?_⟩
    have zz := g13.size
    go_grown
  · as_aux_lemma =>
    obtain ⟨rfl, rfl, hff⟩ := cB.out rfl
    have HFF := Lib.hid hff
    have C2 := Lib.hid (cC.out rfl)
    have D2 := Lib.hid (cD.out rfl)
    clear cA cB hff cC cD
    refine (hra _).mono ?_
    rintro en w11 ⟨rfl, hb11⟩
    have g11 : Below w.heap.size w w11 := below_more g10 hb11 (by go_grown)
    have hb11_1 := below_more hb10_1 hb11 (by go_grown)
    have hb11_6 := below_more hb10_6 hb11 (by go_grown)
    have hb11_7 := below_more hb10_7 hb11 (by go_grown)
    have hb11_8 := below_more hb10_8 hb11 (by go_grown)
    clear hc10_1 hf10_1 hl10_1 hm10_1 hn10_1 ho10_1 hc10_2 hf10_2 hl10_2 hm10_2 hn10_2 ho10_2 hc10_3 hf10_3 hl10_3 hm10_3 hn10_3 ho10_3 hc10_4 hf10_4 hl10_4 hm10_4 hn10_4 ho10_4 hc10_5 hf10_5 hl10_5 hm10_5 hn10_5 ho10_5 hc10_6 hf10_6 hl10_6 hm10_6 hn10_6 ho10_6 hc10_7 hf10_7 hl10_7 hm10_7 hn10_7 ho10_7 hc10_8 hf10_8 hl10_8 hm10_8 hn10_8 ho10_8 hc10_9 hf10_9 hl10_9 hm10_9 hn10_9 ho10_9 hc10 hf10 hl10 hm10 hn10 ho10 g10 hb10_1 hb10_2 hb10_3 hb10_4 hb10_5 hb10_6 hb10_7 hb10_8 hb10_9 hb10
    obtain ⟨hc11_1, hf11_1, hl11_1, hm11_1, hn11_1, ho11_1⟩ := bsix hb11_1
    obtain ⟨hc11_6, hf11_6, hl11_6, hm11_6, hn11_6, ho11_6⟩ := bsix hb11_6
    obtain ⟨hc11_7, hf11_7, hl11_7, hm11_7, hn11_7, ho11_7⟩ := bsix hb11_7
    obtain ⟨hc11_8, hf11_8, hl11_8, hm11_8, hn11_8, ho11_8⟩ := bsix hb11_8
    go_wp2_with fail
    refine (hcheck _).mono ?_
    rintro en w12 ⟨rfl, hb12⟩
    have g12 : Below w.heap.size w w12 := below_more g11 hb12 (by go_grown)
    have hb12_1 := below_more hb11_1 hb12 (by go_grown)
    have hb12_6 := below_more hb11_6 hb12 (by go_grown)
    have hb12_7 := below_more hb11_7 hb12 (by go_grown)
    have hb12_8 := below_more hb11_8 hb12 (by go_grown)
    have hb12_11 := below_more hb11 hb12 (by go_grown)
    clear hc11_1 hf11_1 hl11_1 hm11_1 hn11_1 ho11_1 hc11_6 hf11_6 hl11_6 hm11_6 hn11_6 ho11_6 hc11_7 hf11_7 hl11_7 hm11_7 hn11_7 ho11_7 hc11_8 hf11_8 hl11_8 hm11_8 hn11_8 ho11_8 g11 hb11_1 hb11_6 hb11_7 hb11_8 hb11
    obtain ⟨hc12_1, hf12_1, hl12_1, hm12_1, hn12_1, ho12_1⟩ := bsix hb12_1
    obtain ⟨hc12_6, hf12_6, hl12_6, hm12_6, hn12_6, ho12_6⟩ := bsix hb12_6
    obtain ⟨hc12_7, hf12_7, hl12_7, hm12_7, hn12_7, ho12_7⟩ := bsix hb12_7
    obtain ⟨hc12_8, hf12_8, hl12_8, hm12_8, hn12_8, ho12_8⟩ := bsix hb12_8
    go_wp2_with fail
    refine (HFF.out _).mono ?_
    rintro en w13 ⟨rfl, hb13⟩
    have g13 : Below w.heap.size w w13 := below_more g12 hb13 (by go_grown)
    have hb13_1 := below_more hb12_1 hb13 (by go_grown)
    have hb13_6 := below_more hb12_6 hb13 (by go_grown)
    have hb13_7 := below_more hb12_7 hb13 (by go_grown)
    have hb13_8 := below_more hb12_8 hb13 (by go_grown)
    have hb13_11 := below_more hb12_11 hb13 (by go_grown)
    clear hc12_1 hf12_1 hl12_1 hm12_1 hn12_1 ho12_1 hc12_6 hf12_6 hl12_6 hm12_6 hn12_6 ho12_6 hc12_7 hf12_7 hl12_7 hm12_7 hn12_7 ho12_7 hc12_8 hf12_8 hl12_8 hm12_8 hn12_8 ho12_8 g12 hb12_1 hb12_6 hb12_7 hb12_8 hb12_11
    obtain ⟨hc13_1, hf13_1, hl13_1, hm13_1, hn13_1, ho13_1⟩ := bsix hb13_1
    obtain ⟨hc13_6, hf13_6, hl13_6, hm13_6, hn13_6, ho13_6⟩ := bsix hb13_6
    obtain ⟨hc13_7, hf13_7, hl13_7, hm13_7, hn13_7, ho13_7⟩ := bsix hb13_7
    obtain ⟨hc13_8, hf13_8, hl13_8, hm13_8, hn13_8, ho13_8⟩ := bsix hb13_8
    go_wp2_with fail
    cases vb
    · as_aux_lemma =>
      obtain ⟨rfl, rfl, rfl⟩ := C2.out rfl
      clear C2 D2
      refine (hrb _).mono ?_
      rintro en w14 ⟨rfl, hb14⟩
      have g14 : Below w.heap.size w w14 := below_more g13 hb14 (by go_grown)
      have hb14_1 := below_more hb13_1 hb14 (by go_grown)
      have hb14_6 := below_more hb13_6 hb14 (by go_grown)
      have hb14_7 := below_more hb13_7 hb14 (by go_grown)
      have hb14_8 := below_more hb13_8 hb14 (by go_grown)
      have hb14_11 := below_more hb13_11 hb14 (by go_grown)
      clear hc13_1 hf13_1 hl13_1 hm13_1 hn13_1 ho13_1 hc13_6 hf13_6 hl13_6 hm13_6 hn13_6 ho13_6 hc13_7 hf13_7 hl13_7 hm13_7 hn13_7 ho13_7 hc13_8 hf13_8 hl13_8 hm13_8 hn13_8 ho13_8 g13 hb13_1 hb13_6 hb13_7 hb13_8 hb13_11
      obtain ⟨hc14_1, hf14_1, hl14_1, hm14_1, hn14_1, ho14_1⟩ := bsix hb14_1
      obtain ⟨hc14_6, hf14_6, hl14_6, hm14_6, hn14_6, ho14_6⟩ := bsix hb14_6
      obtain ⟨hc14_7, hf14_7, hl14_7, hm14_7, hn14_7, ho14_7⟩ := bsix hb14_7
      obtain ⟨hc14_8, hf14_8, hl14_8, hm14_8, hn14_8, ho14_8⟩ := bsix hb14_8
      go_wp2_with fail
      go_ret
      refine ⟨rfl, ?_⟩
      have zz := g14.size
      go_grown
    · as_aux_lemma =>
      obtain ⟨rfl, hva, hvb, cv, hcv, hcmp⟩ := D2.out rfl
      have RA := Lib.hid (rat_any an ad hva)
      have RB := Lib.hid (rat_any bn bd hvb)
      have HC := Lib.hid hcmp
      clear C2 D2 hva hvb hcmp
      refine (hrb _).mono ?_
      rintro en w14 ⟨rfl, hb14⟩
      have g14 : Below w.heap.size w w14 := below_more g13 hb14 (by go_grown)
      have hb14_1 := below_more hb13_1 hb14 (by go_grown)
      have hb14_6 := below_more hb13_6 hb14 (by go_grown)
      have hb14_7 := below_more hb13_7 hb14 (by go_grown)
      have hb14_8 := below_more hb13_8 hb14 (by go_grown)
      have hb14_11 := below_more hb13_11 hb14 (by go_grown)
      clear hc13_1 hf13_1 hl13_1 hm13_1 hn13_1 ho13_1 hc13_6 hf13_6 hl13_6 hm13_6 hn13_6 ho13_6 hc13_7 hf13_7 hl13_7 hm13_7 hn13_7 ho13_7 hc13_8 hf13_8 hl13_8 hm13_8 hn13_8 ho13_8 g13 hb13_1 hb13_6 hb13_7 hb13_8 hb13_11
      obtain ⟨hc14_1, hf14_1, hl14_1, hm14_1, hn14_1, ho14_1⟩ := bsix hb14_1
      obtain ⟨hc14_6, hf14_6, hl14_6, hm14_6, hn14_6, ho14_6⟩ := bsix hb14_6
      obtain ⟨hc14_7, hf14_7, hl14_7, hm14_7, hn14_7, ho14_7⟩ := bsix hb14_7
      obtain ⟨hc14_8, hf14_8, hl14_8, hm14_8, hn14_8, ho14_8⟩ := bsix hb14_8
      cases lb
      all_goals
        go_wp2_with fail
        go_region_law (first
          | (go_simp; go_at_call 18; refine (RA.out _).mono ?_; rintro en v1 ⟨rfl, hi3, hb3⟩; have q3 : Below w14.heap.size w14 v1 := below_after (by go_grown) hb3; obtain ⟨hc3, hf3, hl3, hm3, hn3, ho3⟩ := bsix q3; have HI3 := Lib.hid hi3; clear hi3)
          | (go_simp; go_at_call 18; refine (RB.out _).mono ?_; rintro en v2 ⟨rfl, hi4, hb4⟩; have q4 : Below w14.heap.size w14 v2 := below_after q3 hb4; have HI4 := Lib.hid hi4; clear hi4)
          | (go_simp; go_at_call 19; refine (HC.out _ _ _ (HI3.out.below hb4) HI4.out).mono ?_; rintro en v3 ⟨rfl, hb5⟩))
        all_goals
          go_wp2
          go_ret
          refine ⟨?_, ?_⟩
          · first | rfl | (rw [hcv]; rfl) | simp [hcv]
          · first | exact below_after (below_after g14 q4) hb5 | exact (below_after (below_after g14 q4) hb5).drew | (refine below_drewN ?_ _; exact below_after (below_after g14 q4) hb5)
end Go.Proofs.Ytapaggpkoelamaa
