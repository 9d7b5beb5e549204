/-
  The contracts of frac's Add, Sub, Times, Over, Less and Floor, over whatever operands.
-/
import Derived.Test.YtapaggpkoelamaaFracC
namespace Go.Proofs.Ytapaggpkoelamaa
open Go.RowKit

theorem lt_two (n : Nat) : n < n + 1 + 1 := by omega
theorem mul_bd (x y : Int) (a : -1073741824 ≤ x) (b : x ≤ 1073741824) (c : -1073741824 ≤ y) (d : y ≤ 1073741824) : -1152921504606846976 ≤ x * y ∧ x * y ≤ 1152921504606846976 := by
  have h : (x * y).natAbs ≤ 1073741824 * 1073741824 := by
    rw [Int.natAbs_mul]; exact Nat.mul_le_mul (by omega) (by omega)
  omega
theorem fvalid_bd {n d : Int} (h : fvalid n d = true) : 1 ≤ d ∧ d ≤ 1073741824 ∧ -1073741824 ≤ n ∧ n ≤ 1073741824 ∧ Nat.gcd (mag n) (mag d) = 1 := by
  unfold fvalid at h; exact of_decide_eq_true h

set_option maxHeartbeats 400000 in
theorem add_in (an ad bn bd : Int) (p q : Nat) (w : World) (a1 : -1073741824 ≤ an) (a2 : an ≤ 1073741824) (a3 : -1073741824 ≤ ad) (a4 : ad ≤ 1073741824) (b1 : -1073741824 ≤ bn) (b2 : bn ≤ 1073741824) (b3 : -1073741824 ≤ bd) (b4 : bd ≤ 1073741824)
    (p1 : p < w.heap.size) (q1 : q < w.heap.size) (c1 : w.cell? ⟨p, 0, none⟩ = some (.int .i64 an)) (c2 : w.cell? ⟨p, 1, none⟩ = some (.int .i64 ad)) (c3 : w.cell? ⟨q, 0, none⟩ = some (.int .i64 bn)) (c4 : w.cell? ⟨q, 1, none⟩ = some (.int .i64 bd)) :
    Calls Try.prog 26 #[.pointer (some ⟨p, 0, none⟩), .pointer (some ⟨q, 0, none⟩)] w (Gives (madeN (an * bd + bn * ad) (ad * bd)) (madeD (an * bd + bn * ad) (ad * bd)) (madeC (an * bd + bn * ad) (ad * bd)) 0 w) := by
  have p2 : p ≤ w.heap.size := by omega
  have q2 : q ≤ w.heap.size := by omega
  obtain ⟨m0, m1⟩ := mul_bd an bd a1 a2 b3 b4
  obtain ⟨m2, m3⟩ := mul_bd bn ad b1 b2 a3 a4
  obtain ⟨m4, m5⟩ := mul_bd ad bd a3 a4 b3 b4
  go_enter Try.func26, Try.ntmps26
  go_wp2_with fail
  refine (make_any (an * bd + bn * ad) (ad * bd) (by omega) (by omega) (by omega) (by omega) _).mono ?_
  rintro e w1 ⟨rfl, hb1⟩
  obtain ⟨hc1, hf1, hl1, hm1⟩ := bfour hb1
  have g1 : Below w.heap.size w w1 := below_after (by go_grown) hb1
  go_wp2_with fail
  refine bodyPost_ret (v := .tuple #[.agg #[.int .i64 (madeN (an * bd + bn * ad) (ad * bd)), .int .i64 (madeD (an * bd + bn * ad) (ad * bd))], .agg #[.int .i64 (madeC (an * bd + bn * ad) (ad * bd)), .int .i64 0]]) (by simp [results, Try.results26, go_sem, hc1, lt_two]) rfl ⟨rfl, ?_⟩
  have z := g1.size
  go_grown
theorem enter26 (args : Array Value) (w : World) : (callFunc 26 args).run Try.prog w = .ok (.enter 26 args) w := by kernel_rfl

set_option maxHeartbeats 400000 in
theorem add_good (an ad bn bd : Int) (w : World) (ha : fvalid an ad = true) (hb : fvalid bn bd = true) :
    Calls Try.prog 8 #[.agg #[.int .i64 an, .int .i64 ad], .agg #[.int .i64 bn, .int .i64 bd]] w (Gives (madeN (an * bd + bn * ad) (ad * bd)) (madeD (an * bd + bn * ad) (ad * bd)) (madeC (an * bd + bn * ad) (ad * bd)) 0 w) := by
  go_enter Try.func8, Try.ntmps8
  go_wp2_with fail
  have A := fvalid_bd ha
  have B := fvalid_bd hb
  refine (of_frac_good an ad bn bd _ 26 _ _ (madeN (an * bd + bn * ad) (ad * bd)) (madeD (an * bd + bn * ad) (ad * bd)) (madeC (an * bd + bn * ad) (ad * bd)) 0 enter26 ha hb (fun w1 g => add_in an ad bn bd _ _ w1 (by omega) (by omega) (by omega) (by omega) (by omega) (by omega) (by omega) (by omega) (Nat.lt_of_lt_of_le (by simp; omega) g.size) (Nat.lt_of_lt_of_le (by simp) g.size) (by rw [(bcell g).1 _ _ (by simp; omega)]; simp [go_sem]) (by rw [(bcell g).1 _ _ (by simp; omega)]; simp [go_sem]) (by rw [(bcell g).1 _ _ (by simp)]; simp [go_sem]) (by rw [(bcell g).1 _ _ (by simp)]; simp [go_sem]))).mono ?_
  clear A B ha hb
  rintro e w1 ⟨rfl, hb1⟩
  obtain ⟨hc1, hf1, hl1, hm1⟩ := bfour hb1
  have g1 : Below w.heap.size w w1 := below_after (by go_grown) hb1
  go_wp2_with fail
  refine bodyPost_ret (v := .tuple #[.agg #[.int .i64 (madeN (an * bd + bn * ad) (ad * bd)), .int .i64 (madeD (an * bd + bn * ad) (ad * bd))], .agg #[.int .i64 (madeC (an * bd + bn * ad) (ad * bd)), .int .i64 0]]) (by simp [results, Try.results8, go_sem, hc1]) rfl ⟨rfl, ?_⟩
  have z := g1.size
  go_grown

set_option maxHeartbeats 400000 in
theorem add_bad0 (an ad bn bd : Int) (w : World) (ha : fvalid an ad = false) :
    Calls Try.prog 8 #[.agg #[.int .i64 an, .int .i64 ad], .agg #[.int .i64 bn, .int .i64 bd]] w (Gives 0 0 3 0 w) := by
  go_enter Try.func8, Try.ntmps8
  go_wp2_with fail
  refine (of_frac_bad0 an ad bn bd _ _ _ _ ha).mono ?_
  rintro e w1 ⟨rfl, hb1⟩
  obtain ⟨hc1, hf1, hl1, hm1⟩ := bfour hb1
  have g1 : Below w.heap.size w w1 := below_after (by go_grown) hb1
  go_wp2_with fail
  refine bodyPost_ret (v := .tuple #[.agg #[.int .i64 0, .int .i64 0], .agg #[.int .i64 3, .int .i64 0]]) (by simp [results, Try.results8, go_sem, hc1]) rfl ⟨rfl, ?_⟩
  have z := g1.size
  go_grown

set_option maxHeartbeats 400000 in
theorem add_bad1 (an ad bn bd : Int) (w : World) (ha : fvalid an ad = true) (hb : fvalid bn bd = false) :
    Calls Try.prog 8 #[.agg #[.int .i64 an, .int .i64 ad], .agg #[.int .i64 bn, .int .i64 bd]] w (Gives 0 0 3 1 w) := by
  go_enter Try.func8, Try.ntmps8
  go_wp2_with fail
  refine (of_frac_bad1 an ad bn bd _ _ _ _ ha hb).mono ?_
  rintro e w1 ⟨rfl, hb1⟩
  obtain ⟨hc1, hf1, hl1, hm1⟩ := bfour hb1
  have g1 : Below w.heap.size w w1 := below_after (by go_grown) hb1
  go_wp2_with fail
  refine bodyPost_ret (v := .tuple #[.agg #[.int .i64 0, .int .i64 0], .agg #[.int .i64 3, .int .i64 1]]) (by simp [results, Try.results8, go_sem, hc1]) rfl ⟨rfl, ?_⟩
  have z := g1.size
  go_grown

set_option maxHeartbeats 400000 in
theorem sub_in (an ad bn bd : Int) (p q : Nat) (w : World) (a1 : -1073741824 ≤ an) (a2 : an ≤ 1073741824) (a3 : -1073741824 ≤ ad) (a4 : ad ≤ 1073741824) (b1 : -1073741824 ≤ bn) (b2 : bn ≤ 1073741824) (b3 : -1073741824 ≤ bd) (b4 : bd ≤ 1073741824)
    (p1 : p < w.heap.size) (q1 : q < w.heap.size) (c1 : w.cell? ⟨p, 0, none⟩ = some (.int .i64 an)) (c2 : w.cell? ⟨p, 1, none⟩ = some (.int .i64 ad)) (c3 : w.cell? ⟨q, 0, none⟩ = some (.int .i64 bn)) (c4 : w.cell? ⟨q, 1, none⟩ = some (.int .i64 bd)) :
    Calls Try.prog 27 #[.pointer (some ⟨p, 0, none⟩), .pointer (some ⟨q, 0, none⟩)] w (Gives (madeN (an * bd - bn * ad) (ad * bd)) (madeD (an * bd - bn * ad) (ad * bd)) (madeC (an * bd - bn * ad) (ad * bd)) 0 w) := by
  have p2 : p ≤ w.heap.size := by omega
  have q2 : q ≤ w.heap.size := by omega
  obtain ⟨m0, m1⟩ := mul_bd an bd a1 a2 b3 b4
  obtain ⟨m2, m3⟩ := mul_bd bn ad b1 b2 a3 a4
  obtain ⟨m4, m5⟩ := mul_bd ad bd a3 a4 b3 b4
  go_enter Try.func27, Try.ntmps27
  go_wp2_with fail
  refine (make_any (an * bd - bn * ad) (ad * bd) (by omega) (by omega) (by omega) (by omega) _).mono ?_
  rintro e w1 ⟨rfl, hb1⟩
  obtain ⟨hc1, hf1, hl1, hm1⟩ := bfour hb1
  have g1 : Below w.heap.size w w1 := below_after (by go_grown) hb1
  go_wp2_with fail
  refine bodyPost_ret (v := .tuple #[.agg #[.int .i64 (madeN (an * bd - bn * ad) (ad * bd)), .int .i64 (madeD (an * bd - bn * ad) (ad * bd))], .agg #[.int .i64 (madeC (an * bd - bn * ad) (ad * bd)), .int .i64 0]]) (by simp [results, Try.results27, go_sem, hc1, lt_two]) rfl ⟨rfl, ?_⟩
  have z := g1.size
  go_grown
theorem enter27 (args : Array Value) (w : World) : (callFunc 27 args).run Try.prog w = .ok (.enter 27 args) w := by kernel_rfl

set_option maxHeartbeats 400000 in
theorem sub_good (an ad bn bd : Int) (w : World) (ha : fvalid an ad = true) (hb : fvalid bn bd = true) :
    Calls Try.prog 9 #[.agg #[.int .i64 an, .int .i64 ad], .agg #[.int .i64 bn, .int .i64 bd]] w (Gives (madeN (an * bd - bn * ad) (ad * bd)) (madeD (an * bd - bn * ad) (ad * bd)) (madeC (an * bd - bn * ad) (ad * bd)) 0 w) := by
  go_enter Try.func9, Try.ntmps9
  go_wp2_with fail
  have A := fvalid_bd ha
  have B := fvalid_bd hb
  refine (of_frac_good an ad bn bd _ 27 _ _ (madeN (an * bd - bn * ad) (ad * bd)) (madeD (an * bd - bn * ad) (ad * bd)) (madeC (an * bd - bn * ad) (ad * bd)) 0 enter27 ha hb (fun w1 g => sub_in an ad bn bd _ _ w1 (by omega) (by omega) (by omega) (by omega) (by omega) (by omega) (by omega) (by omega) (Nat.lt_of_lt_of_le (by simp; omega) g.size) (Nat.lt_of_lt_of_le (by simp) g.size) (by rw [(bcell g).1 _ _ (by simp; omega)]; simp [go_sem]) (by rw [(bcell g).1 _ _ (by simp; omega)]; simp [go_sem]) (by rw [(bcell g).1 _ _ (by simp)]; simp [go_sem]) (by rw [(bcell g).1 _ _ (by simp)]; simp [go_sem]))).mono ?_
  clear A B ha hb
  rintro e w1 ⟨rfl, hb1⟩
  obtain ⟨hc1, hf1, hl1, hm1⟩ := bfour hb1
  have g1 : Below w.heap.size w w1 := below_after (by go_grown) hb1
  go_wp2_with fail
  refine bodyPost_ret (v := .tuple #[.agg #[.int .i64 (madeN (an * bd - bn * ad) (ad * bd)), .int .i64 (madeD (an * bd - bn * ad) (ad * bd))], .agg #[.int .i64 (madeC (an * bd - bn * ad) (ad * bd)), .int .i64 0]]) (by simp [results, Try.results9, go_sem, hc1]) rfl ⟨rfl, ?_⟩
  have z := g1.size
  go_grown

set_option maxHeartbeats 400000 in
theorem sub_bad0 (an ad bn bd : Int) (w : World) (ha : fvalid an ad = false) :
    Calls Try.prog 9 #[.agg #[.int .i64 an, .int .i64 ad], .agg #[.int .i64 bn, .int .i64 bd]] w (Gives 0 0 3 0 w) := by
  go_enter Try.func9, Try.ntmps9
  go_wp2_with fail
  refine (of_frac_bad0 an ad bn bd _ _ _ _ ha).mono ?_
  rintro e w1 ⟨rfl, hb1⟩
  obtain ⟨hc1, hf1, hl1, hm1⟩ := bfour hb1
  have g1 : Below w.heap.size w w1 := below_after (by go_grown) hb1
  go_wp2_with fail
  refine bodyPost_ret (v := .tuple #[.agg #[.int .i64 0, .int .i64 0], .agg #[.int .i64 3, .int .i64 0]]) (by simp [results, Try.results9, go_sem, hc1]) rfl ⟨rfl, ?_⟩
  have z := g1.size
  go_grown

set_option maxHeartbeats 400000 in
theorem sub_bad1 (an ad bn bd : Int) (w : World) (ha : fvalid an ad = true) (hb : fvalid bn bd = false) :
    Calls Try.prog 9 #[.agg #[.int .i64 an, .int .i64 ad], .agg #[.int .i64 bn, .int .i64 bd]] w (Gives 0 0 3 1 w) := by
  go_enter Try.func9, Try.ntmps9
  go_wp2_with fail
  refine (of_frac_bad1 an ad bn bd _ _ _ _ ha hb).mono ?_
  rintro e w1 ⟨rfl, hb1⟩
  obtain ⟨hc1, hf1, hl1, hm1⟩ := bfour hb1
  have g1 : Below w.heap.size w w1 := below_after (by go_grown) hb1
  go_wp2_with fail
  refine bodyPost_ret (v := .tuple #[.agg #[.int .i64 0, .int .i64 0], .agg #[.int .i64 3, .int .i64 1]]) (by simp [results, Try.results9, go_sem, hc1]) rfl ⟨rfl, ?_⟩
  have z := g1.size
  go_grown

set_option maxHeartbeats 400000 in
theorem times_in (an ad bn bd : Int) (p q : Nat) (w : World) (a1 : -1073741824 ≤ an) (a2 : an ≤ 1073741824) (a3 : -1073741824 ≤ ad) (a4 : ad ≤ 1073741824) (b1 : -1073741824 ≤ bn) (b2 : bn ≤ 1073741824) (b3 : -1073741824 ≤ bd) (b4 : bd ≤ 1073741824)
    (p1 : p < w.heap.size) (q1 : q < w.heap.size) (c1 : w.cell? ⟨p, 0, none⟩ = some (.int .i64 an)) (c2 : w.cell? ⟨p, 1, none⟩ = some (.int .i64 ad)) (c3 : w.cell? ⟨q, 0, none⟩ = some (.int .i64 bn)) (c4 : w.cell? ⟨q, 1, none⟩ = some (.int .i64 bd)) :
    Calls Try.prog 28 #[.pointer (some ⟨p, 0, none⟩), .pointer (some ⟨q, 0, none⟩)] w (Gives (madeN (an * bn) (ad * bd)) (madeD (an * bn) (ad * bd)) (madeC (an * bn) (ad * bd)) 0 w) := by
  have p2 : p ≤ w.heap.size := by omega
  have q2 : q ≤ w.heap.size := by omega
  obtain ⟨m0, m1⟩ := mul_bd an bn a1 a2 b1 b2
  obtain ⟨m2, m3⟩ := mul_bd ad bd a3 a4 b3 b4
  go_enter Try.func28, Try.ntmps28
  go_wp2_with fail
  refine (make_any (an * bn) (ad * bd) (by omega) (by omega) (by omega) (by omega) _).mono ?_
  rintro e w1 ⟨rfl, hb1⟩
  obtain ⟨hc1, hf1, hl1, hm1⟩ := bfour hb1
  have g1 : Below w.heap.size w w1 := below_after (by go_grown) hb1
  go_wp2_with fail
  refine bodyPost_ret (v := .tuple #[.agg #[.int .i64 (madeN (an * bn) (ad * bd)), .int .i64 (madeD (an * bn) (ad * bd))], .agg #[.int .i64 (madeC (an * bn) (ad * bd)), .int .i64 0]]) (by simp [results, Try.results28, go_sem, hc1, lt_two]) rfl ⟨rfl, ?_⟩
  have z := g1.size
  go_grown
theorem enter28 (args : Array Value) (w : World) : (callFunc 28 args).run Try.prog w = .ok (.enter 28 args) w := by kernel_rfl

set_option maxHeartbeats 400000 in
theorem times_good (an ad bn bd : Int) (w : World) (ha : fvalid an ad = true) (hb : fvalid bn bd = true) :
    Calls Try.prog 10 #[.agg #[.int .i64 an, .int .i64 ad], .agg #[.int .i64 bn, .int .i64 bd]] w (Gives (madeN (an * bn) (ad * bd)) (madeD (an * bn) (ad * bd)) (madeC (an * bn) (ad * bd)) 0 w) := by
  go_enter Try.func10, Try.ntmps10
  go_wp2_with fail
  have A := fvalid_bd ha
  have B := fvalid_bd hb
  refine (of_frac_good an ad bn bd _ 28 _ _ (madeN (an * bn) (ad * bd)) (madeD (an * bn) (ad * bd)) (madeC (an * bn) (ad * bd)) 0 enter28 ha hb (fun w1 g => times_in an ad bn bd _ _ w1 (by omega) (by omega) (by omega) (by omega) (by omega) (by omega) (by omega) (by omega) (Nat.lt_of_lt_of_le (by simp; omega) g.size) (Nat.lt_of_lt_of_le (by simp) g.size) (by rw [(bcell g).1 _ _ (by simp; omega)]; simp [go_sem]) (by rw [(bcell g).1 _ _ (by simp; omega)]; simp [go_sem]) (by rw [(bcell g).1 _ _ (by simp)]; simp [go_sem]) (by rw [(bcell g).1 _ _ (by simp)]; simp [go_sem]))).mono ?_
  clear A B ha hb
  rintro e w1 ⟨rfl, hb1⟩
  obtain ⟨hc1, hf1, hl1, hm1⟩ := bfour hb1
  have g1 : Below w.heap.size w w1 := below_after (by go_grown) hb1
  go_wp2_with fail
  refine bodyPost_ret (v := .tuple #[.agg #[.int .i64 (madeN (an * bn) (ad * bd)), .int .i64 (madeD (an * bn) (ad * bd))], .agg #[.int .i64 (madeC (an * bn) (ad * bd)), .int .i64 0]]) (by simp [results, Try.results10, go_sem, hc1]) rfl ⟨rfl, ?_⟩
  have z := g1.size
  go_grown

set_option maxHeartbeats 400000 in
theorem times_bad0 (an ad bn bd : Int) (w : World) (ha : fvalid an ad = false) :
    Calls Try.prog 10 #[.agg #[.int .i64 an, .int .i64 ad], .agg #[.int .i64 bn, .int .i64 bd]] w (Gives 0 0 3 0 w) := by
  go_enter Try.func10, Try.ntmps10
  go_wp2_with fail
  refine (of_frac_bad0 an ad bn bd _ _ _ _ ha).mono ?_
  rintro e w1 ⟨rfl, hb1⟩
  obtain ⟨hc1, hf1, hl1, hm1⟩ := bfour hb1
  have g1 : Below w.heap.size w w1 := below_after (by go_grown) hb1
  go_wp2_with fail
  refine bodyPost_ret (v := .tuple #[.agg #[.int .i64 0, .int .i64 0], .agg #[.int .i64 3, .int .i64 0]]) (by simp [results, Try.results10, go_sem, hc1]) rfl ⟨rfl, ?_⟩
  have z := g1.size
  go_grown

set_option maxHeartbeats 400000 in
theorem times_bad1 (an ad bn bd : Int) (w : World) (ha : fvalid an ad = true) (hb : fvalid bn bd = false) :
    Calls Try.prog 10 #[.agg #[.int .i64 an, .int .i64 ad], .agg #[.int .i64 bn, .int .i64 bd]] w (Gives 0 0 3 1 w) := by
  go_enter Try.func10, Try.ntmps10
  go_wp2_with fail
  refine (of_frac_bad1 an ad bn bd _ _ _ _ ha hb).mono ?_
  rintro e w1 ⟨rfl, hb1⟩
  obtain ⟨hc1, hf1, hl1, hm1⟩ := bfour hb1
  have g1 : Below w.heap.size w w1 := below_after (by go_grown) hb1
  go_wp2_with fail
  refine bodyPost_ret (v := .tuple #[.agg #[.int .i64 0, .int .i64 0], .agg #[.int .i64 3, .int .i64 1]]) (by simp [results, Try.results10, go_sem, hc1]) rfl ⟨rfl, ?_⟩
  have z := g1.size
  go_grown

set_option maxHeartbeats 400000 in
theorem over_in (an ad bn bd : Int) (p q : Nat) (w : World) (a1 : -1073741824 ≤ an) (a2 : an ≤ 1073741824) (a3 : -1073741824 ≤ ad) (a4 : ad ≤ 1073741824) (b1 : -1073741824 ≤ bn) (b2 : bn ≤ 1073741824) (b3 : -1073741824 ≤ bd) (b4 : bd ≤ 1073741824)
    (p1 : p < w.heap.size) (q1 : q < w.heap.size) (c1 : w.cell? ⟨p, 0, none⟩ = some (.int .i64 an)) (c2 : w.cell? ⟨p, 1, none⟩ = some (.int .i64 ad)) (c3 : w.cell? ⟨q, 0, none⟩ = some (.int .i64 bn)) (c4 : w.cell? ⟨q, 1, none⟩ = some (.int .i64 bd)) :
    Calls Try.prog 29 #[.pointer (some ⟨p, 0, none⟩), .pointer (some ⟨q, 0, none⟩)] w (Gives (madeN (an * bd) (ad * bn)) (madeD (an * bd) (ad * bn)) (madeC (an * bd) (ad * bn)) 0 w) := by
  have p2 : p ≤ w.heap.size := by omega
  have q2 : q ≤ w.heap.size := by omega
  obtain ⟨m0, m1⟩ := mul_bd an bd a1 a2 b3 b4
  obtain ⟨m2, m3⟩ := mul_bd ad bn a3 a4 b1 b2
  go_enter Try.func29, Try.ntmps29
  go_wp2_with fail
  refine (make_any (an * bd) (ad * bn) (by omega) (by omega) (by omega) (by omega) _).mono ?_
  rintro e w1 ⟨rfl, hb1⟩
  obtain ⟨hc1, hf1, hl1, hm1⟩ := bfour hb1
  have g1 : Below w.heap.size w w1 := below_after (by go_grown) hb1
  go_wp2_with fail
  refine bodyPost_ret (v := .tuple #[.agg #[.int .i64 (madeN (an * bd) (ad * bn)), .int .i64 (madeD (an * bd) (ad * bn))], .agg #[.int .i64 (madeC (an * bd) (ad * bn)), .int .i64 0]]) (by simp [results, Try.results29, go_sem, hc1, lt_two]) rfl ⟨rfl, ?_⟩
  have z := g1.size
  go_grown
theorem enter29 (args : Array Value) (w : World) : (callFunc 29 args).run Try.prog w = .ok (.enter 29 args) w := by kernel_rfl

set_option maxHeartbeats 400000 in
theorem over_good (an ad bn bd : Int) (w : World) (ha : fvalid an ad = true) (hb : fvalid bn bd = true) :
    Calls Try.prog 11 #[.agg #[.int .i64 an, .int .i64 ad], .agg #[.int .i64 bn, .int .i64 bd]] w (Gives (madeN (an * bd) (ad * bn)) (madeD (an * bd) (ad * bn)) (madeC (an * bd) (ad * bn)) 0 w) := by
  go_enter Try.func11, Try.ntmps11
  go_wp2_with fail
  have A := fvalid_bd ha
  have B := fvalid_bd hb
  refine (of_frac_good an ad bn bd _ 29 _ _ (madeN (an * bd) (ad * bn)) (madeD (an * bd) (ad * bn)) (madeC (an * bd) (ad * bn)) 0 enter29 ha hb (fun w1 g => over_in an ad bn bd _ _ w1 (by omega) (by omega) (by omega) (by omega) (by omega) (by omega) (by omega) (by omega) (Nat.lt_of_lt_of_le (by simp; omega) g.size) (Nat.lt_of_lt_of_le (by simp) g.size) (by rw [(bcell g).1 _ _ (by simp; omega)]; simp [go_sem]) (by rw [(bcell g).1 _ _ (by simp; omega)]; simp [go_sem]) (by rw [(bcell g).1 _ _ (by simp)]; simp [go_sem]) (by rw [(bcell g).1 _ _ (by simp)]; simp [go_sem]))).mono ?_
  clear A B ha hb
  rintro e w1 ⟨rfl, hb1⟩
  obtain ⟨hc1, hf1, hl1, hm1⟩ := bfour hb1
  have g1 : Below w.heap.size w w1 := below_after (by go_grown) hb1
  go_wp2_with fail
  refine bodyPost_ret (v := .tuple #[.agg #[.int .i64 (madeN (an * bd) (ad * bn)), .int .i64 (madeD (an * bd) (ad * bn))], .agg #[.int .i64 (madeC (an * bd) (ad * bn)), .int .i64 0]]) (by simp [results, Try.results11, go_sem, hc1]) rfl ⟨rfl, ?_⟩
  have z := g1.size
  go_grown

set_option maxHeartbeats 400000 in
theorem over_bad0 (an ad bn bd : Int) (w : World) (ha : fvalid an ad = false) :
    Calls Try.prog 11 #[.agg #[.int .i64 an, .int .i64 ad], .agg #[.int .i64 bn, .int .i64 bd]] w (Gives 0 0 3 0 w) := by
  go_enter Try.func11, Try.ntmps11
  go_wp2_with fail
  refine (of_frac_bad0 an ad bn bd _ _ _ _ ha).mono ?_
  rintro e w1 ⟨rfl, hb1⟩
  obtain ⟨hc1, hf1, hl1, hm1⟩ := bfour hb1
  have g1 : Below w.heap.size w w1 := below_after (by go_grown) hb1
  go_wp2_with fail
  refine bodyPost_ret (v := .tuple #[.agg #[.int .i64 0, .int .i64 0], .agg #[.int .i64 3, .int .i64 0]]) (by simp [results, Try.results11, go_sem, hc1]) rfl ⟨rfl, ?_⟩
  have z := g1.size
  go_grown

set_option maxHeartbeats 400000 in
theorem over_bad1 (an ad bn bd : Int) (w : World) (ha : fvalid an ad = true) (hb : fvalid bn bd = false) :
    Calls Try.prog 11 #[.agg #[.int .i64 an, .int .i64 ad], .agg #[.int .i64 bn, .int .i64 bd]] w (Gives 0 0 3 1 w) := by
  go_enter Try.func11, Try.ntmps11
  go_wp2_with fail
  refine (of_frac_bad1 an ad bn bd _ _ _ _ ha hb).mono ?_
  rintro e w1 ⟨rfl, hb1⟩
  obtain ⟨hc1, hf1, hl1, hm1⟩ := bfour hb1
  have g1 : Below w.heap.size w w1 := below_after (by go_grown) hb1
  go_wp2_with fail
  refine bodyPost_ret (v := .tuple #[.agg #[.int .i64 0, .int .i64 0], .agg #[.int .i64 3, .int .i64 1]]) (by simp [results, Try.results11, go_sem, hc1]) rfl ⟨rfl, ?_⟩
  have z := g1.size
  go_grown
end Go.Proofs.Ytapaggpkoelamaa
