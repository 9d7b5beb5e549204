/-
  The contracts of frac's Less and Floor, over whatever operands.
-/
import Derived.Test.YtapaggpkoelamaaFracD
namespace Go.Proofs.Ytapaggpkoelamaa
open Go.RowKit

set_option maxHeartbeats 400000 in
theorem less_in (an ad bn bd : Int) (p q : Nat) (w : World) (a1 : -1073741824 ≤ an) (a2 : an ≤ 1073741824) (a3 : -1073741824 ≤ ad) (a4 : ad ≤ 1073741824) (b1 : -1073741824 ≤ bn) (b2 : bn ≤ 1073741824) (b3 : -1073741824 ≤ bd) (b4 : bd ≤ 1073741824)
    (p1 : p < w.heap.size) (q1 : q < w.heap.size) (c1 : w.cell? ⟨p, 0, none⟩ = some (.int .i64 an)) (c2 : w.cell? ⟨p, 1, none⟩ = some (.int .i64 ad)) (c3 : w.cell? ⟨q, 0, none⟩ = some (.int .i64 bn)) (c4 : w.cell? ⟨q, 1, none⟩ = some (.int .i64 bd)) :
    Calls Try.prog 31 #[.pointer (some ⟨p, 0, none⟩), .pointer (some ⟨q, 0, none⟩)] w (GivesB (decide (an * bd < bn * ad)) 0 0 w) := by
  obtain ⟨m0, m1⟩ := mul_bd an bd a1 a2 b3 b4
  obtain ⟨m2, m3⟩ := mul_bd bn ad b1 b2 a3 a4
  by_cases hlt : an * bd < bn * ad
  · have hd : decide (an * bd < bn * ad) = true := by simpa using hlt
    rw [hd]
    go_enter Try.func31, Try.ntmps31
    go_wp2
    refine bodyPost_ret (v := .tuple #[.bool true, .agg #[.int .i64 0, .int .i64 0]]) (by simp [results, Try.results31, go_sem]) rfl ⟨rfl, ?_⟩
    go_grown
  · have hd : decide (an * bd < bn * ad) = false := by simpa using hlt
    rw [hd]
    go_enter Try.func31, Try.ntmps31
    go_wp2
    refine bodyPost_ret (v := .tuple #[.bool false, .agg #[.int .i64 0, .int .i64 0]]) (by simp [results, Try.results31, go_sem]) rfl ⟨rfl, ?_⟩
    go_grown
theorem enter31 (args : Array Value) (w : World) : (callFunc 31 args).run Try.prog w = .ok (.enter 31 args) w := by kernel_rfl

set_option maxHeartbeats 400000 in
theorem less_good' (an ad bn bd : Int) (w : World) (r : Bool) (hr : decide (an * bd < bn * ad) = r) (ha : fvalid an ad = true) (hb : fvalid bn bd = true) :
    Calls Try.prog 12 #[.agg #[.int .i64 an, .int .i64 ad], .agg #[.int .i64 bn, .int .i64 bd]] w (GivesB r 0 0 w) := by
  have A := fvalid_bd ha
  have B := fvalid_bd hb
  go_enter Try.func12, Try.ntmps12
  go_wp2_with fail
  refine (of_bool_good an ad bn bd _ 31 _ _ r enter31 ha hb (fun w1 g => hr ▸ less_in an ad bn bd _ _ w1 (by omega) (by omega) (by omega) (by omega) (by omega) (by omega) (by omega) (by omega) (Nat.lt_of_lt_of_le (by simp; omega) g.size) (Nat.lt_of_lt_of_le (by simp) g.size) (by rw [(bcell g).1 _ _ (by simp; omega)]; simp [go_sem]) (by rw [(bcell g).1 _ _ (by simp; omega)]; simp [go_sem]) (by rw [(bcell g).1 _ _ (by simp)]; simp [go_sem]) (by rw [(bcell g).1 _ _ (by simp)]; simp [go_sem]))).mono ?_
  clear A B ha hb hr
  rintro e w1 ⟨rfl, hb1⟩
  obtain ⟨hc1, hf1, hl1, hm1⟩ := bfour hb1
  have g1 : Below w.heap.size w w1 := below_after (by go_grown) hb1
  go_wp2_with fail
  refine bodyPost_ret (v := .tuple #[.bool r, .agg #[.int .i64 0, .int .i64 0]]) (by simp [results, Try.results12, go_sem, hc1]) rfl ⟨rfl, ?_⟩
  have z := g1.size
  go_grown
theorem less_good (an ad bn bd : Int) (w : World) (ha : fvalid an ad = true) (hb : fvalid bn bd = true) :
    Calls Try.prog 12 #[.agg #[.int .i64 an, .int .i64 ad], .agg #[.int .i64 bn, .int .i64 bd]] w (GivesB (decide (an * bd < bn * ad)) 0 0 w) := less_good' an ad bn bd w _ rfl ha hb
set_option maxHeartbeats 400000 in
theorem less_bad0 (an ad bn bd : Int) (w : World) (ha : fvalid an ad = false) :
    Calls Try.prog 12 #[.agg #[.int .i64 an, .int .i64 ad], .agg #[.int .i64 bn, .int .i64 bd]] w (GivesB false 3 0 w) := by
  go_enter Try.func12, Try.ntmps12
  go_wp2_with fail
  refine (of_bool_bad0 an ad bn bd _ _ _ _ ha).mono ?_
  rintro e w1 ⟨rfl, hb1⟩
  obtain ⟨hc1, hf1, hl1, hm1⟩ := bfour hb1
  have g1 : Below w.heap.size w w1 := below_after (by go_grown) hb1
  go_wp2_with fail
  refine bodyPost_ret (v := .tuple #[.bool false, .agg #[.int .i64 3, .int .i64 0]]) (by simp [results, Try.results12, go_sem, hc1]) rfl ⟨rfl, ?_⟩
  have z := g1.size
  go_grown
set_option maxHeartbeats 400000 in
theorem less_bad1 (an ad bn bd : Int) (w : World) (ha : fvalid an ad = true) (hb : fvalid bn bd = false) :
    Calls Try.prog 12 #[.agg #[.int .i64 an, .int .i64 ad], .agg #[.int .i64 bn, .int .i64 bd]] w (GivesB false 3 1 w) := by
  go_enter Try.func12, Try.ntmps12
  go_wp2_with fail
  refine (of_bool_bad1 an ad bn bd _ _ _ _ ha hb).mono ?_
  rintro e w1 ⟨rfl, hb1⟩
  obtain ⟨hc1, hf1, hl1, hm1⟩ := bfour hb1
  have g1 : Below w.heap.size w w1 := below_after (by go_grown) hb1
  go_wp2_with fail
  refine bodyPost_ret (v := .tuple #[.bool false, .agg #[.int .i64 3, .int .i64 1]]) (by simp [results, Try.results12, go_sem, hc1]) rfl ⟨rfl, ?_⟩
  have z := g1.size
  go_grown

/-- The way in which a call that yields a number and a fault ends. -/
def GivesI (k c i : Int) (w : World) (e : Ending) (w' : World) : Prop := e = .returned (.tuple #[.int .i64 k, .agg #[.int .i64 c, .int .i64 i]]) ∧ Below w.heap.size w w'
theorem floor_neg (n d : Int) (hd : 1 ≤ d) (h : n.tmod d < 0) : n.tdiv d - 1 = n / d := by
  have e1 := Int.mul_tdiv_add_tmod n d
  have e2 := Int.lt_tmod_of_pos n (show 0 < d by omega)
  symm
  rw [Int.ediv_eq_iff_of_pos (by omega)]
  have : (n.tdiv d - 1) * d = d * n.tdiv d - d := by rw [Int.sub_mul, Int.mul_comm]; omega
  omega
theorem floor_pos (n d : Int) (hd : 1 ≤ d) (h : ¬ n.tmod d < 0) : n.tdiv d = n / d := by
  have e1 := Int.mul_tdiv_add_tmod n d
  have e2 := Int.tmod_lt_of_pos n (show 0 < d by omega)
  symm
  rw [Int.ediv_eq_iff_of_pos (by omega)]
  have : n.tdiv d * d = d * n.tdiv d := by rw [Int.mul_comm]
  omega
theorem tdiv_bd (n d : Int) (h1 : -1073741824 ≤ n) (h2 : n ≤ 1073741824) : -1073741824 ≤ n.tdiv d ∧ n.tdiv d ≤ 1073741824 := by
  have h : (n.tdiv d).natAbs ≤ n.natAbs := by rw [Int.natAbs_tdiv]; exact Nat.div_le_self _ _
  omega
theorem tmod_bd (n d : Int) (h1 : -1073741824 ≤ n) (h2 : n ≤ 1073741824) : -1073741824 ≤ n.tmod d ∧ n.tmod d ≤ 1073741824 := by
  have h : (n.tmod d).natAbs ≤ n.natAbs := by rw [Int.natAbs_tmod]; exact Nat.mod_le _ _
  omega

set_option maxHeartbeats 400000 in
theorem floor_good (n d : Int) (w : World) (h : fvalid n d = true) :
    Calls Try.prog 13 #[.agg #[.int .i64 n, .int .i64 d]] w (GivesI (n / d) 0 0 w) := by
  obtain ⟨A1, A2, A3, A4, _⟩ := fvalid_bd h
  obtain ⟨B1, B2⟩ := tdiv_bd n d A3 A4
  obtain ⟨B3, B4⟩ := tmod_bd n d A3 A4
  by_cases hm : n.tmod d < 0
  · rw [← floor_neg n d A1 hm]
    have L2 := lt_two w.heap.size
    go_enter Try.func13, Try.ntmps13
    go_wp2_with fail
    refine (check_yes _ _ _ h).mono ?_
    rintro e w1 ⟨rfl, hb1⟩
    obtain ⟨hc1, hf1, hl1, hm1⟩ := bfour hb1
    have g1 : Below w.heap.size w w1 := below_after (by go_grown) hb1
    go_wp2_with fail
    refine bodyPost_ret (v := .tuple #[.int .i64 (n.tdiv d - 1), .agg #[.int .i64 0, .int .i64 0]]) (by simp [results, Try.results13, go_sem, hc1, hl1]) rfl ⟨rfl, ?_⟩
    have z := g1.size
    go_grown
  · rw [← floor_pos n d A1 hm]
    have L2 := lt_two w.heap.size
    go_enter Try.func13, Try.ntmps13
    go_wp2_with fail
    refine (check_yes _ _ _ h).mono ?_
    rintro e w1 ⟨rfl, hb1⟩
    obtain ⟨hc1, hf1, hl1, hm1⟩ := bfour hb1
    have g1 : Below w.heap.size w w1 := below_after (by go_grown) hb1
    go_wp2_with fail
    refine bodyPost_ret (v := .tuple #[.int .i64 (n.tdiv d), .agg #[.int .i64 0, .int .i64 0]]) (by simp [results, Try.results13, go_sem, hc1, hl1]) rfl ⟨rfl, ?_⟩
    have z := g1.size
    go_grown
set_option maxHeartbeats 400000 in
theorem floor_bad (n d : Int) (w : World) (h : fvalid n d = false) :
    Calls Try.prog 13 #[.agg #[.int .i64 n, .int .i64 d]] w (GivesI 0 3 0 w) := by
  go_enter Try.func13, Try.ntmps13
  go_wp2_with fail
  refine (check_no _ _ _ h).mono ?_
  rintro e w1 ⟨rfl, hb1⟩
  obtain ⟨hc1, hf1, hl1, hm1⟩ := bfour hb1
  have g1 : Below w.heap.size w w1 := below_after (by go_grown) hb1
  go_wp2_with fail
  go_region
  go_wp2
  refine bodyPost_ret (v := .tuple #[.int .i64 0, .agg #[.int .i64 3, .int .i64 0]]) (by simp [results, Try.results13, go_sem, hc1, hl1]) rfl ⟨rfl, ?_⟩
  have z := g1.size
  go_grown
end Go.Proofs.Ytapaggpkoelamaa
