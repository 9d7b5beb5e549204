/-
  The contracts of frac's Less and Floor, over whatever operands.
-/
import Derived.Test.YtkjollifghmkbaaFracD
namespace Go.Proofs.Ytkjollifghmkbaa
open Go.RowKit

/-- The way in which a call that yields a number and a fault ends. -/
def GivesI (k c i : Int) (w : World) (e : Ending) (w' : World) : Prop := e = .returned (.tuple #[.int .i64 k, .agg #[.int .i64 c, .int .i64 i]]) ∧ Below w.heap.size w w'
theorem floor_neg (n d : Int) (hd : 1 ≤ d) (h : n.tmod d < 0) : n.tdiv d - 1 = n / d := by
  have e1 := Int.mul_tdiv_add_tmod n d
  have e2 := Int.lt_tmod_of_pos n (show 0 < d by omega)
  symm
  rw [Int.ediv_eq_iff_of_pos (by omega)]
  have : (n.tdiv d - 1) * d = d * n.tdiv d - d := by rw [Int.sub_mul, Int.mul_comm]; omega
  omega
theorem floor_pos (n d : Int) (hd : 1 ≤ d) (h : ¬ n.tmod d < 0) : n.tdiv d = n / d := by
  have e1 := Int.mul_tdiv_add_tmod n d
  have e2 := Int.tmod_lt_of_pos n (show 0 < d by omega)
  symm
  rw [Int.ediv_eq_iff_of_pos (by omega)]
  have : n.tdiv d * d = d * n.tdiv d := by rw [Int.mul_comm]
  omega
theorem tdiv_bd (n d : Int) (h1 : -1073741824 ≤ n) (h2 : n ≤ 1073741824) : -1073741824 ≤ n.tdiv d ∧ n.tdiv d ≤ 1073741824 := by
  have h : (n.tdiv d).natAbs ≤ n.natAbs := by rw [Int.natAbs_tdiv]; exact Nat.div_le_self _ _
  omega
theorem tmod_bd (n d : Int) (h1 : -1073741824 ≤ n) (h2 : n ≤ 1073741824) : -1073741824 ≤ n.tmod d ∧ n.tmod d ≤ 1073741824 := by
  have h : (n.tmod d).natAbs ≤ n.natAbs := by rw [Int.natAbs_tmod]; exact Nat.mod_le _ _
  omega

set_option maxHeartbeats 400000 in
theorem floor_good (n d : Int) (w : World) (h : fvalid n d = true) :
    Calls Try.prog 74 #[.agg #[.int .i64 n, .int .i64 d]] w (GivesI (n / d) 0 0 w) := by
  obtain ⟨A1, A2, A3, A4, _⟩ := fvalid_bd h
  obtain ⟨B1, B2⟩ := tdiv_bd n d A3 A4
  obtain ⟨B3, B4⟩ := tmod_bd n d A3 A4
  by_cases hm : n.tmod d < 0
  · rw [← floor_neg n d A1 hm]
    have L2 := lt_two w.heap.size
    go_enter Try.func74, Try.ntmps74
    go_wp2_with fail
    refine (check_yes _ _ _ h).mono ?_
    rintro e w1 ⟨rfl, hb1⟩
    obtain ⟨hc1, hf1, hl1, hm1⟩ := bfour hb1
    have g1 : Below w.heap.size w w1 := below_after (by go_grown) hb1
    go_wp2_with fail
    refine bodyPost_ret (v := .tuple #[.int .i64 (n.tdiv d - 1), .agg #[.int .i64 0, .int .i64 0]]) (by simp [results, Try.results74, go_sem, hc1, hl1]) rfl ⟨rfl, ?_⟩
    have z := g1.size
    go_grown
  · rw [← floor_pos n d A1 hm]
    have L2 := lt_two w.heap.size
    go_enter Try.func74, Try.ntmps74
    go_wp2_with fail
    refine (check_yes _ _ _ h).mono ?_
    rintro e w1 ⟨rfl, hb1⟩
    obtain ⟨hc1, hf1, hl1, hm1⟩ := bfour hb1
    have g1 : Below w.heap.size w w1 := below_after (by go_grown) hb1
    go_wp2_with fail
    refine bodyPost_ret (v := .tuple #[.int .i64 (n.tdiv d), .agg #[.int .i64 0, .int .i64 0]]) (by simp [results, Try.results74, go_sem, hc1, hl1]) rfl ⟨rfl, ?_⟩
    have z := g1.size
    go_grown
set_option maxHeartbeats 400000 in
theorem floor_bad (n d : Int) (w : World) (h : fvalid n d = false) :
    Calls Try.prog 74 #[.agg #[.int .i64 n, .int .i64 d]] w (GivesI 0 3 0 w) := by
  go_enter Try.func74, Try.ntmps74
  go_wp2_with fail
  refine (check_no _ _ _ h).mono ?_
  rintro e w1 ⟨rfl, hb1⟩
  obtain ⟨hc1, hf1, hl1, hm1⟩ := bfour hb1
  have g1 : Below w.heap.size w w1 := below_after (by go_grown) hb1
  go_wp2_with fail
  go_region
  go_wp2
  refine bodyPost_ret (v := .tuple #[.int .i64 0, .agg #[.int .i64 3, .int .i64 0]]) (by simp [results, Try.results74, go_sem, hc1, hl1]) rfl ⟨rfl, ?_⟩
  have z := g1.size
  go_grown
end Go.Proofs.Ytkjollifghmkbaa
