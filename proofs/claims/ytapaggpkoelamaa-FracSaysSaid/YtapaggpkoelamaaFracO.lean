/-
  The law FracOrder walked: Less is an order that is along with sums and with products by what is above 0.
-/
import Derived.Test.YtapaggpkoelamaaFracF
import Derived.Deep.DeepCutAuto
import Derived.Lib.Hide
namespace Go.Proofs.Ytapaggpkoelamaa
open Go.RowKit

theorem bsix {A w : World} (hb : Below A.heap.size A w) : (∀ b o, b < A.heap.size → w.cell? ⟨b, o, none⟩ = A.cell? ⟨b, o, none⟩) ∧ (∀ b o, b < A.heap.size → w.frozen? ⟨b, o, none⟩ = A.frozen? ⟨b, o, none⟩) ∧ (∀ b, b < A.heap.size → b < w.heap.size) ∧ (∀ b, b < A.heap.size → b < w.heap.size + 1) ∧ (∀ b, b < A.heap.size → b < w.heap.size + 1 + 1) ∧ (∀ b, b < A.heap.size → b < w.heap.size + 1 + 1 + 1) :=
  ⟨(bcell hb).1, (bcell hb).2, fun _ h => Nat.lt_of_lt_of_le h hb.size, fun _ h => Nat.lt_succ_of_lt (Nat.lt_of_lt_of_le h hb.size), fun _ h => Nat.lt_succ_of_lt (Nat.lt_succ_of_lt (Nat.lt_of_lt_of_le h hb.size)), fun _ h => Nat.lt_succ_of_lt (Nat.lt_succ_of_lt (Nat.lt_succ_of_lt (Nat.lt_of_lt_of_le h hb.size)))⟩

theorem less_some (an ad bn bd : Int) : ∃ (r : Bool) (c i : Int), ∀ w, Calls Try.prog 12 #[.agg #[.int .i64 an, .int .i64 ad], .agg #[.int .i64 bn, .int .i64 bd]] w (GivesB r c i w) := by
  by_cases ha : fvalid an ad = true
  · by_cases hb : fvalid bn bd = true
    · exact ⟨_, _, _, fun w => less_good an ad bn bd w ha hb⟩
    · exact ⟨_, _, _, fun w => less_bad1 an ad bn bd w ha (by simpa using hb)⟩
  · exact ⟨_, _, _, fun w => less_bad0 an ad bn bd w (by simpa using ha)⟩

set_option maxRecDepth 100000 in
set_option maxHeartbeats 1000000 in
theorem order_bad_a (an ad bn bd cn cd : Int) (r2 r3 r4 : Bool) (i1 c2 i2 c3 i3 c4 i4 : Int) (w : World)
    (hab : (∀ w, Calls Try.prog 12 #[.agg #[.int .i64 an, .int .i64 ad], .agg #[.int .i64 bn, .int .i64 bd]] w (GivesB false 3 i1 w)))
    (hba : (∀ w, Calls Try.prog 12 #[.agg #[.int .i64 bn, .int .i64 bd], .agg #[.int .i64 an, .int .i64 ad]] w (GivesB r2 c2 i2 w)))
    (hbc : (∀ w, Calls Try.prog 12 #[.agg #[.int .i64 bn, .int .i64 bd], .agg #[.int .i64 cn, .int .i64 cd]] w (GivesB r3 c3 i3 w)))
    (hac : (∀ w, Calls Try.prog 12 #[.agg #[.int .i64 an, .int .i64 ad], .agg #[.int .i64 cn, .int .i64 cd]] w (GivesB r4 c4 i4 w))) :
    Calls Try.prog 6 #[.agg #[.int .i64 an, .int .i64 ad], .agg #[.int .i64 bn, .int .i64 bd], .agg #[.int .i64 cn, .int .i64 cd]] w fun e w' => e = .returned (.bool true) ∧ Below w.heap.size w w' := by
  have LT2 : ∀ n : Nat, n < n + 1 + 1 := lt_two
  have LT3 : ∀ n : Nat, n < n + 1 + 1 + 1 := fun n => by omega
  go_enter Try.func6, Try.ntmps6
  go_wp2_with fail
  refine (fact_any _).mono ?_
  rintro e w1 ⟨rfl, hb1⟩
  have g1 : Below w.heap.size w w1 := below_after (by go_grown) hb1
  obtain ⟨hc1, hf1, hl1, hm1, hn1, ho1⟩ := bsix hb1
  go_wp2_with fail
  refine (hab _).mono ?_
  rintro e w2 ⟨rfl, hb2⟩
  have g2 : Below w.heap.size w w2 := below_more g1 hb2 (by go_grown)
  have hb2_1 := below_more hb1 hb2 (by go_grown)
  clear hc1 hf1 hl1 hm1 hn1 ho1 g1 hb1
  obtain ⟨hc2_1, hf2_1, hl2_1, hm2_1, hn2_1, ho2_1⟩ := bsix hb2_1
  go_wp2_with fail
  refine (hba _).mono ?_
  rintro e w3 ⟨rfl, hb3⟩
  have g3 : Below w.heap.size w w3 := below_more g2 hb3 (by go_grown)
  have hb3_1 := below_more hb2_1 hb3 (by go_grown)
  clear hc2_1 hf2_1 hl2_1 hm2_1 hn2_1 ho2_1 g2 hb2_1
  obtain ⟨hc3_1, hf3_1, hl3_1, hm3_1, hn3_1, ho3_1⟩ := bsix hb3_1
  obtain ⟨hc3, hf3, hl3, hm3, hn3, ho3⟩ := bsix hb3
  go_wp2_with fail
  refine (hbc _).mono ?_
  rintro e w4 ⟨rfl, hb4⟩
  have g4 : Below w.heap.size w w4 := below_more g3 hb4 (by go_grown)
  have hb4_1 := below_more hb3_1 hb4 (by go_grown)
  have hb4_3 := below_more hb3 hb4 (by go_grown)
  clear hc3_1 hf3_1 hl3_1 hm3_1 hn3_1 ho3_1 hc3 hf3 hl3 hm3 hn3 ho3 g3 hb3_1 hb3
  obtain ⟨hc4_1, hf4_1, hl4_1, hm4_1, hn4_1, ho4_1⟩ := bsix hb4_1
  obtain ⟨hc4_3, hf4_3, hl4_3, hm4_3, hn4_3, ho4_3⟩ := bsix hb4_3
  obtain ⟨hc4, hf4, hl4, hm4, hn4, ho4⟩ := bsix hb4
  go_wp2_with fail
  refine (hac _).mono ?_
  rintro e w5 ⟨rfl, hb5⟩
  have g5 : Below w.heap.size w w5 := below_more g4 hb5 (by go_grown)
  have hb5_1 := below_more hb4_1 hb5 (by go_grown)
  have hb5_3 := below_more hb4_3 hb5 (by go_grown)
  have hb5_4 := below_more hb4 hb5 (by go_grown)
  clear hc4_1 hf4_1 hl4_1 hm4_1 hn4_1 ho4_1 hc4_3 hf4_3 hl4_3 hm4_3 hn4_3 ho4_3 hc4 hf4 hl4 hm4 hn4 ho4 g4 hb4_1 hb4_3 hb4
  obtain ⟨hc5_1, hf5_1, hl5_1, hm5_1, hn5_1, ho5_1⟩ := bsix hb5_1
  obtain ⟨hc5_3, hf5_3, hl5_3, hm5_3, hn5_3, ho5_3⟩ := bsix hb5_3
  obtain ⟨hc5_4, hf5_4, hl5_4, hm5_4, hn5_4, ho5_4⟩ := bsix hb5_4
  obtain ⟨hc5, hf5, hl5, hm5, hn5, ho5⟩ := bsix hb5
  go_wp2_with fail
  go_ret
  refine ⟨rfl, ?_⟩
  have z := g5.size
  go_grown

set_option maxRecDepth 100000 in
set_option maxHeartbeats 1000000 in
theorem order_bad_b (an ad bn bd cn cd : Int) (r1 r2 r4 : Bool) (c4 i4 : Int) (w : World)
    (hab : (∀ w, Calls Try.prog 12 #[.agg #[.int .i64 an, .int .i64 ad], .agg #[.int .i64 bn, .int .i64 bd]] w (GivesB r1 0 0 w)))
    (hba : (∀ w, Calls Try.prog 12 #[.agg #[.int .i64 bn, .int .i64 bd], .agg #[.int .i64 an, .int .i64 ad]] w (GivesB r2 0 0 w)))
    (hbc : (∀ w, Calls Try.prog 12 #[.agg #[.int .i64 bn, .int .i64 bd], .agg #[.int .i64 cn, .int .i64 cd]] w (GivesB false 3 1 w)))
    (hac : (∀ w, Calls Try.prog 12 #[.agg #[.int .i64 an, .int .i64 ad], .agg #[.int .i64 cn, .int .i64 cd]] w (GivesB r4 c4 i4 w))) :
    Calls Try.prog 6 #[.agg #[.int .i64 an, .int .i64 ad], .agg #[.int .i64 bn, .int .i64 bd], .agg #[.int .i64 cn, .int .i64 cd]] w fun e w' => e = .returned (.bool true) ∧ Below w.heap.size w w' := by
  have LT2 : ∀ n : Nat, n < n + 1 + 1 := lt_two
  have LT3 : ∀ n : Nat, n < n + 1 + 1 + 1 := fun n => by omega
  go_enter Try.func6, Try.ntmps6
  go_wp2_with fail
  refine (fact_any _).mono ?_
  rintro e w1 ⟨rfl, hb1⟩
  have g1 : Below w.heap.size w w1 := below_after (by go_grown) hb1
  obtain ⟨hc1, hf1, hl1, hm1, hn1, ho1⟩ := bsix hb1
  go_wp2_with fail
  refine (hab _).mono ?_
  rintro e w2 ⟨rfl, hb2⟩
  have g2 : Below w.heap.size w w2 := below_more g1 hb2 (by go_grown)
  have hb2_1 := below_more hb1 hb2 (by go_grown)
  clear hc1 hf1 hl1 hm1 hn1 ho1 g1 hb1
  obtain ⟨hc2_1, hf2_1, hl2_1, hm2_1, hn2_1, ho2_1⟩ := bsix hb2_1
  go_wp2_with fail
  refine (hba _).mono ?_
  rintro e w3 ⟨rfl, hb3⟩
  have g3 : Below w.heap.size w w3 := below_more g2 hb3 (by go_grown)
  have hb3_1 := below_more hb2_1 hb3 (by go_grown)
  clear hc2_1 hf2_1 hl2_1 hm2_1 hn2_1 ho2_1 g2 hb2_1
  obtain ⟨hc3_1, hf3_1, hl3_1, hm3_1, hn3_1, ho3_1⟩ := bsix hb3_1
  obtain ⟨hc3, hf3, hl3, hm3, hn3, ho3⟩ := bsix hb3
  go_wp2_with fail
  refine (hbc _).mono ?_
  rintro e w4 ⟨rfl, hb4⟩
  have g4 : Below w.heap.size w w4 := below_more g3 hb4 (by go_grown)
  have hb4_1 := below_more hb3_1 hb4 (by go_grown)
  have hb4_3 := below_more hb3 hb4 (by go_grown)
  clear hc3_1 hf3_1 hl3_1 hm3_1 hn3_1 ho3_1 hc3 hf3 hl3 hm3 hn3 ho3 g3 hb3_1 hb3
  obtain ⟨hc4_1, hf4_1, hl4_1, hm4_1, hn4_1, ho4_1⟩ := bsix hb4_1
  obtain ⟨hc4_3, hf4_3, hl4_3, hm4_3, hn4_3, ho4_3⟩ := bsix hb4_3
  obtain ⟨hc4, hf4, hl4, hm4, hn4, ho4⟩ := bsix hb4
  go_wp2_with fail
  refine (hac _).mono ?_
  rintro e w5 ⟨rfl, hb5⟩
  have g5 : Below w.heap.size w w5 := below_more g4 hb5 (by go_grown)
  have hb5_1 := below_more hb4_1 hb5 (by go_grown)
  have hb5_3 := below_more hb4_3 hb5 (by go_grown)
  have hb5_4 := below_more hb4 hb5 (by go_grown)
  clear hc4_1 hf4_1 hl4_1 hm4_1 hn4_1 ho4_1 hc4_3 hf4_3 hl4_3 hm4_3 hn4_3 ho4_3 hc4 hf4 hl4 hm4 hn4 ho4 g4 hb4_1 hb4_3 hb4
  obtain ⟨hc5_1, hf5_1, hl5_1, hm5_1, hn5_1, ho5_1⟩ := bsix hb5_1
  obtain ⟨hc5_3, hf5_3, hl5_3, hm5_3, hn5_3, ho5_3⟩ := bsix hb5_3
  obtain ⟨hc5_4, hf5_4, hl5_4, hm5_4, hn5_4, ho5_4⟩ := bsix hb5_4
  obtain ⟨hc5, hf5, hl5, hm5, hn5, ho5⟩ := bsix hb5
  go_wp2_with fail
  go_ret
  refine ⟨rfl, ?_⟩
  have z := g5.size
  go_grown

set_option maxRecDepth 100000 in
set_option maxHeartbeats 4000000 in
theorem order_good (an ad bn bd cn cd : Int) (xn xd xc yn yd yc pn pd pc qn qd qc : Int) (ab ba bc ac : Bool) (w : World)
    (hab : (∀ w, Calls Try.prog 12 #[.agg #[.int .i64 an, .int .i64 ad], .agg #[.int .i64 bn, .int .i64 bd]] w (GivesB ab 0 0 w)))
    (hba : (∀ w, Calls Try.prog 12 #[.agg #[.int .i64 bn, .int .i64 bd], .agg #[.int .i64 an, .int .i64 ad]] w (GivesB ba 0 0 w)))
    (hbc : (∀ w, Calls Try.prog 12 #[.agg #[.int .i64 bn, .int .i64 bd], .agg #[.int .i64 cn, .int .i64 cd]] w (GivesB bc 0 0 w)))
    (hac : (∀ w, Calls Try.prog 12 #[.agg #[.int .i64 an, .int .i64 ad], .agg #[.int .i64 cn, .int .i64 cd]] w (GivesB ac 0 0 w)))
    (t1 : ab = true → ba = false) (t2 : ab = false → ba = false → an = bn ∧ ad = bd) (t3 : ab = true → bc = true → ac = true)
    (hs : (∀ w, Calls Try.prog 8 #[.agg #[.int .i64 an, .int .i64 ad], .agg #[.int .i64 cn, .int .i64 cd]] w (Gives xn xd xc 0 w)))
    (ht : (∀ w, Calls Try.prog 8 #[.agg #[.int .i64 bn, .int .i64 bd], .agg #[.int .i64 cn, .int .i64 cd]] w (Gives yn yd yc 0 w)))
    (hu : xc = 0 → yc = 0 → (∀ w, Calls Try.prog 12 #[.agg #[.int .i64 xn, .int .i64 xd], .agg #[.int .i64 yn, .int .i64 yd]] w (GivesB ab 0 0 w)))
    (hp : (∀ w, Calls Try.prog 10 #[.agg #[.int .i64 an, .int .i64 ad], .agg #[.int .i64 cn, .int .i64 cd]] w (Gives pn pd pc 0 w)))
    (hq : (∀ w, Calls Try.prog 10 #[.agg #[.int .i64 bn, .int .i64 bd], .agg #[.int .i64 cn, .int .i64 cd]] w (Gives qn qd qc 0 w)))
    (hv : pc = 0 → qc = 0 → 0 < cn → (∀ w, Calls Try.prog 12 #[.agg #[.int .i64 pn, .int .i64 pd], .agg #[.int .i64 qn, .int .i64 qd]] w (GivesB ab 0 0 w))) :
    Calls Try.prog 6 #[.agg #[.int .i64 an, .int .i64 ad], .agg #[.int .i64 bn, .int .i64 bd], .agg #[.int .i64 cn, .int .i64 cd]] w fun e w' => e = .returned (.bool true) ∧ Below w.heap.size w w' := by
  have LT2 : ∀ n : Nat, n < n + 1 + 1 := lt_two
  have LT3 : ∀ n : Nat, n < n + 1 + 1 + 1 := fun n => by omega
  go_enter Try.func6, Try.ntmps6
  go_wp2_with fail
  refine (fact_any _).mono ?_
  rintro e w1 ⟨rfl, hb1⟩
  have g1 : Below w.heap.size w w1 := below_after (by go_grown) hb1
  obtain ⟨hc1, hf1, hl1, hm1, hn1, ho1⟩ := bsix hb1
  go_wp2_with fail
  refine (hab _).mono ?_
  rintro e w2 ⟨rfl, hb2⟩
  have g2 : Below w.heap.size w w2 := below_more g1 hb2 (by go_grown)
  have hb2_1 := below_more hb1 hb2 (by go_grown)
  clear hc1 hf1 hl1 hm1 hn1 ho1 g1 hb1
  obtain ⟨hc2_1, hf2_1, hl2_1, hm2_1, hn2_1, ho2_1⟩ := bsix hb2_1
  go_wp2_with fail
  refine (hba _).mono ?_
  rintro e w3 ⟨rfl, hb3⟩
  have g3 : Below w.heap.size w w3 := below_more g2 hb3 (by go_grown)
  have hb3_1 := below_more hb2_1 hb3 (by go_grown)
  clear hc2_1 hf2_1 hl2_1 hm2_1 hn2_1 ho2_1 g2 hb2_1
  obtain ⟨hc3_1, hf3_1, hl3_1, hm3_1, hn3_1, ho3_1⟩ := bsix hb3_1
  obtain ⟨hc3, hf3, hl3, hm3, hn3, ho3⟩ := bsix hb3
  go_wp2_with fail
  refine (hbc _).mono ?_
  rintro e w4 ⟨rfl, hb4⟩
  have g4 : Below w.heap.size w w4 := below_more g3 hb4 (by go_grown)
  have hb4_1 := below_more hb3_1 hb4 (by go_grown)
  have hb4_3 := below_more hb3 hb4 (by go_grown)
  clear hc3_1 hf3_1 hl3_1 hm3_1 hn3_1 ho3_1 hc3 hf3 hl3 hm3 hn3 ho3 g3 hb3_1 hb3
  obtain ⟨hc4_1, hf4_1, hl4_1, hm4_1, hn4_1, ho4_1⟩ := bsix hb4_1
  obtain ⟨hc4_3, hf4_3, hl4_3, hm4_3, hn4_3, ho4_3⟩ := bsix hb4_3
  obtain ⟨hc4, hf4, hl4, hm4, hn4, ho4⟩ := bsix hb4
  go_wp2_with fail
  refine (hac _).mono ?_
  rintro e w5 ⟨rfl, hb5⟩
  have g5 : Below w.heap.size w w5 := below_more g4 hb5 (by go_grown)
  have hb5_1 := below_more hb4_1 hb5 (by go_grown)
  have hb5_3 := below_more hb4_3 hb5 (by go_grown)
  have hb5_4 := below_more hb4 hb5 (by go_grown)
  clear hc4_1 hf4_1 hl4_1 hm4_1 hn4_1 ho4_1 hc4_3 hf4_3 hl4_3 hm4_3 hn4_3 ho4_3 hc4 hf4 hl4 hm4 hn4 ho4 g4 hb4_1 hb4_3 hb4
  obtain ⟨hc5_1, hf5_1, hl5_1, hm5_1, hn5_1, ho5_1⟩ := bsix hb5_1
  obtain ⟨hc5_3, hf5_3, hl5_3, hm5_3, hn5_3, ho5_3⟩ := bsix hb5_3
  obtain ⟨hc5_4, hf5_4, hl5_4, hm5_4, hn5_4, ho5_4⟩ := bsix hb5_4
  obtain ⟨hc5, hf5, hl5, hm5, hn5, ho5⟩ := bsix hb5
  go_upto_region 10 with fail
  go_cut [0, 1, 8, 10, 12, 14, 106] (fun s0 s1 s8 s10 s12 s14 s106 wx => s8 = .bool ab ∧ s106 = .bool false ∧ Below (((w.alloc (.cells #[.int .i64 an, .int .i64 ad] 23)).alloc (.cells #[.int .i64 bn, .int .i64 bd] 23)).alloc (.cells #[.int .i64 cn, .int .i64 cd] 23)).heap.size (((w.alloc (.cells #[.int .i64 an, .int .i64 ad] 23)).alloc (.cells #[.int .i64 bn, .int .i64 bd] 23)).alloc (.cells #[.int .i64 cn, .int .i64 cd] 23)) wx ∧ Below w.heap.size w wx)
  case first =>
    have F : Below (((w.alloc (.cells #[.int .i64 an, .int .i64 ad] 23)).alloc (.cells #[.int .i64 bn, .int .i64 bd] 23)).alloc (.cells #[.int .i64 cn, .int .i64 cd] 23)).heap.size (((w.alloc (.cells #[.int .i64 an, .int .i64 ad] 23)).alloc (.cells #[.int .i64 bn, .int .i64 bd] 23)).alloc (.cells #[.int .i64 cn, .int .i64 cd] 23)) (w5.alloc (.cells #[.int .i64 0, .int .i64 0] 25)) ∧ Below w.heap.size w (w5.alloc (.cells #[.int .i64 0, .int .i64 0] 25)) := ⟨below_after hb5_1 (by go_grown), below_after g5 (by go_grown)⟩
    have HF := Lib.hid F
    clear F
    rcases Bool.eq_false_or_eq_true ab with h1 | h1
    · have h2 := t1 h1
      rcases Bool.eq_false_or_eq_true bc with h3 | h3
      · have h4 := t3 h1 h3
        clear t1 t2 t3
        go_wp2_with fail
        go_meet
        exact ⟨by rw [h1], rfl, HF.out⟩
      · clear t1 t2 t3
        go_wp2_with fail
        go_meet
        exact ⟨by rw [h1], rfl, HF.out⟩
    · rcases Bool.eq_false_or_eq_true ba with h2 | h2
      · clear t1 t2 t3
        go_wp2_with fail
        go_meet
        exact ⟨by rw [h1], rfl, HF.out⟩
      · obtain ⟨e1, e2⟩ := t2 h1 h2
        clear t1 t2 t3
        go_wp2_with fail
        go_meet
        exact ⟨by rw [h1], rfl, HF.out⟩
  case rest =>
    obtain ⟨rfl, rfl, hbx, gx⟩ := hcut
    clear t1 t2 t3
    clear hc5_1 hf5_1 hl5_1 hm5_1 hn5_1 ho5_1 hc5_3 hf5_3 hl5_3 hm5_3 hn5_3 ho5_3 hc5_4 hf5_4 hl5_4 hm5_4 hn5_4 ho5_4 hc5 hf5 hl5 hm5 hn5 ho5 g5 hb5_1 hb5_3 hb5_4 hb5
    obtain ⟨hcx, hfx, hlx, hmx, hnx, hox⟩ := bsix hbx
    go_wp2_with fail
    refine (hs _).mono ?_
    rintro e w6 ⟨rfl, hb6⟩
    have g6 : Below w.heap.size w w6 := below_more gx hb6 (by go_grown)
    have hb6_1 := below_more hbx hb6 (by go_grown)
    clear hcx hfx hlx hmx hnx hox gx hbx
    obtain ⟨hc6_1, hf6_1, hl6_1, hm6_1, hn6_1, ho6_1⟩ := bsix hb6_1
    go_wp2_with fail
    refine (ht _).mono ?_
    rintro e w7 ⟨rfl, hb7⟩
    have g7 : Below w.heap.size w w7 := below_more g6 hb7 (by go_grown)
    have hb7_1 := below_more hb6_1 hb7 (by go_grown)
    clear hc6_1 hf6_1 hl6_1 hm6_1 hn6_1 ho6_1 g6 hb6_1
    obtain ⟨hc7_1, hf7_1, hl7_1, hm7_1, hn7_1, ho7_1⟩ := bsix hb7_1
    obtain ⟨hc7, hf7, hl7, hm7, hn7, ho7⟩ := bsix hb7
    go_upto_region 14 with fail
    go_cut [126] (fun s126 wx => ∃ bb : Bool, s126 = .bool bb ∧ (bb = true → xc = 0 ∧ yc = 0) ∧ wx = ((w7.alloc (.cells #[.int .i64 yn, .int .i64 yd] 23)).alloc (.cells #[.int .i64 yc, .int .i64 0] 25)))
    case first =>
      by_cases z1 : xc = 0
      · have z3 : (xc == 0) = true := by simpa using z1
        by_cases z2 : yc = 0
        · have z4 : (yc == 0) = true := by simpa using z2
          clear z1 z2
          go_wp2_with fail
          go_meet
          exact ⟨true, rfl, fun _ => ⟨by simpa using z3, by simpa using z4⟩, rfl⟩
        · have z4 : (yc == 0) = false := by simpa using z2
          clear z1 z2
          go_wp2_with fail
          go_meet
          exact ⟨false, rfl, fun h => (by cases h), rfl⟩
      · have z3 : (xc == 0) = false := by simpa using z1
        clear z1
        go_wp2_with fail
        go_meet
        exact ⟨false, rfl, fun h => (by cases h), rfl⟩
    case rest =>
      obtain ⟨bb, rfl, hbb, rfl⟩ := hcut
      go_upto_if 126 with fail
      go_cut [8, 126] (fun s8 s126 wx => s8 = .bool ab ∧ Below (((w.alloc (.cells #[.int .i64 an, .int .i64 ad] 23)).alloc (.cells #[.int .i64 bn, .int .i64 bd] 23)).alloc (.cells #[.int .i64 cn, .int .i64 cd] 23)).heap.size (((w.alloc (.cells #[.int .i64 an, .int .i64 ad] 23)).alloc (.cells #[.int .i64 bn, .int .i64 bd] 23)).alloc (.cells #[.int .i64 cn, .int .i64 cd] 23)) wx ∧ Below w.heap.size w wx)
      case first =>
        cases bb
        rotate_left
        · have hxy := hu (hbb rfl).1 (hbb rfl).2
          clear hbb
          go_wp2_with fail
          refine (hxy _).mono ?_
          rintro e w8 ⟨rfl, hb8⟩
          have g8 : Below w.heap.size w w8 := below_more g7 hb8 (by go_grown)
          have hb8_1 := below_more hb7_1 hb8 (by go_grown)
          have hb8_7 := below_more hb7 hb8 (by go_grown)
          clear hc7_1 hf7_1 hl7_1 hm7_1 hn7_1 ho7_1 hc7 hf7 hl7 hm7 hn7 ho7 g7 hb7_1 hb7
          obtain ⟨hc8_1, hf8_1, hl8_1, hm8_1, hn8_1, ho8_1⟩ := bsix hb8_1
          obtain ⟨hc8_7, hf8_7, hl8_7, hm8_7, hn8_7, ho8_7⟩ := bsix hb8_7
          obtain ⟨hc8, hf8, hl8, hm8, hn8, ho8⟩ := bsix hb8
          go_wp2_with fail
          go_meet
          exact ⟨rfl, below_after hb8_1 (by go_grown), below_after g8 (by go_grown)⟩
        · clear hbb
          go_wp2_with fail
          go_meet
          exact ⟨rfl, below_after hb7_1 (by go_grown), below_after g7 (by go_grown)⟩
      case rest =>
        obtain ⟨rfl, hby, gy⟩ := hcut
        clear hbb
        clear hc7_1 hf7_1 hl7_1 hm7_1 hn7_1 ho7_1 hc7 hf7 hl7 hm7 hn7 ho7 g7 hb7_1 hb7
        obtain ⟨hcy, hfy, hly, hmy, hny, hoy⟩ := bsix hby
        go_wp2_with fail
        refine (hp _).mono ?_
        rintro e w8 ⟨rfl, hb8⟩
        have g8 : Below w.heap.size w w8 := below_more gy hb8 (by go_grown)
        have hb8_1 := below_more hby hb8 (by go_grown)
        clear hcy hfy hly hmy hny hoy gy hby
        obtain ⟨hc8_1, hf8_1, hl8_1, hm8_1, hn8_1, ho8_1⟩ := bsix hb8_1
        go_wp2_with fail
        refine (hq _).mono ?_
        rintro e w9 ⟨rfl, hb9⟩
        have g9 : Below w.heap.size w w9 := below_more g8 hb9 (by go_grown)
        have hb9_1 := below_more hb8_1 hb9 (by go_grown)
        clear hc8_1 hf8_1 hl8_1 hm8_1 hn8_1 ho8_1 g8 hb8_1
        obtain ⟨hc9_1, hf9_1, hl9_1, hm9_1, hn9_1, ho9_1⟩ := bsix hb9_1
        obtain ⟨hc9, hf9, hl9, hm9, hn9, ho9⟩ := bsix hb9
        by_cases z1 : pc = 0
        · by_cases z2 : qc = 0
          · by_cases z3 : 0 < cn
            · subst z1
              subst z2
              have hpq := hv rfl rfl z3
              have z4 : decide (cn ≤ 0) = false := by simpa using z3
              go_wp2_with fail
              refine (hpq _).mono ?_
              rintro e w10 ⟨rfl, hb10⟩
              have g10 : Below w.heap.size w w10 := below_more g9 hb10 (by go_grown)
              have hb10_1 := below_more hb9_1 hb10 (by go_grown)
              have hb10_9 := below_more hb9 hb10 (by go_grown)
              clear hc9_1 hf9_1 hl9_1 hm9_1 hn9_1 ho9_1 hc9 hf9 hl9 hm9 hn9 ho9 g9 hb9_1 hb9
              obtain ⟨hc10_1, hf10_1, hl10_1, hm10_1, hn10_1, ho10_1⟩ := bsix hb10_1
              obtain ⟨hc10_9, hf10_9, hl10_9, hm10_9, hn10_9, ho10_9⟩ := bsix hb10_9
              obtain ⟨hc10, hf10, hl10, hm10, hn10, ho10⟩ := bsix hb10
              go_wp2_with fail
              go_ret
              refine ⟨rfl, ?_⟩
              have z := g10.size
              go_grown
            · subst z1
              subst z2
              have z4 : decide (cn ≤ 0) = true := by simpa using z3
              go_wp2_with fail
              go_ret
              refine ⟨rfl, ?_⟩
              have z := g9.size
              go_grown
          · subst z1
            have z4 : (qc == 0) = false := by simpa using z2
            go_wp2_with fail
            go_ret
            refine ⟨rfl, ?_⟩
            have z := g9.size
            go_grown
        · have z4 : (pc == 0) = false := by simpa using z1
          go_wp2_with fail
          go_ret
          refine ⟨rfl, ?_⟩
          have z := g9.size
          go_grown
end Go.Proofs.Ytapaggpkoelamaa
