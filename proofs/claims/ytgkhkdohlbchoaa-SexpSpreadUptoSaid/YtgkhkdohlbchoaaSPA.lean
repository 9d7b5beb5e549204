/-
  Raw numbers, and the expressions that the law makes of them.
-/
import Derived.Test.YtgkhkdohlbchoaaSexY
namespace Go.Proofs.Ytgkhkdohlbchoaa
open Go.RowKit
theorem tmod_bd (a n : Int) (h : 0 < n) : -n < a.tmod n ∧ a.tmod n < n := by
  have h1 := Int.tmod_lt_of_pos a h
  have h2 := Int.tmod_lt_of_pos (-a) h
  rw [Int.neg_tmod] at h2
  omega
theorem pick_eq (a n : Int) (h : 0 < n) : a % n = if a.tmod n < 0 then a.tmod n + n else a.tmod n := by
  obtain ⟨h1, h2⟩ := tmod_bd a n h
  have e : a % n = (a.tmod n) % n := by
    have q : a % n = (a.tmod n + n * a.tdiv n) % n := by rw [Int.tmod_add_mul_tdiv]
    rw [Int.add_mul_emod_self_left] at q
    exact q
  rw [e]
  split
  · rw [← Int.add_emod_right, Int.emod_eq_of_lt (by omega) (by omega)]
  · rw [Int.emod_eq_of_lt (by omega) (by omega)]
set_option maxHeartbeats 1000000 in
theorem picked_any (a : Int) (n : Nat) (h1 : 1 ≤ n) (h2 : n ≤ 1000) (w : World) : Calls Try.prog 14 #[.int .i64 a, .int .i64 n] w fun e w' => e = .returned (.int .i64 (a % n)) ∧ w' = w := by
  have hne : (n : Int) ≠ 0 := by omega
  have HP := Lib.hid (pick_eq a n (by omega))
  obtain ⟨b1, b2⟩ := tmod_bd a n (by omega)
  have hw : wrap64 (a.tmod n + n) = a.tmod n + n ∨ 0 ≤ a.tmod n := by
    by_cases z : a.tmod n < 0
    · left; unfold wrap64; omega
    · right; omega
  go_enter Try.func14, Try.ntmps14
  go_wp2_with fail
  all_goals
    go_ret
    refine ⟨?_, rfl⟩
    rw [HP.out]
    first | rw [if_pos (by assumption)] | rw [if_neg (by omega)]
    first | rfl | (rcases hw with z | z; rw [← z]; rfl; omega)
end Go.Proofs.Ytgkhkdohlbchoaa
