/-
  Words: sums and products of words.
-/
import Derived.Test.YtibpgcdaommjeaaGreatDoorWorJ
namespace Go.Proofs.YtibpgcdaommjeaaGreatDoor.Wds
open Go.RowKit

theorem nwB_of {z M : Int} (h : Wb z M) : nwB z = false := by
  have := wb_rng h
  unfold nwB
  simp
  omega
theorem noB_of {M x : Int} (h0 : 0 ≤ x) (h1 : x < M) : noB M x = false := by
  unfold noB
  simp
  omega
/-- Sound words: nothing is wrong. -/
theorem wf_two {op z M a b : Int} (h : Wb z M) (ho : 17 ≤ op ∧ op ≤ 22) (a0 : 0 ≤ a) (a1 : a < M) (b0 : 0 ≤ b) (b1 : b < M) : wfC op z M [a, b] 0 = 0 ∧ wfA op z M [a, b] = 0 := by
  have e1 : arF op = 2 := by unfold arF; rw [if_neg (by omega), if_neg (by omega)]
  have e2 : moF op M = 0 := by unfold moF; rw [if_neg (by omega), if_neg (by omega)]
  have e3 : fsW M [a, b] = 2 := fsW_all (fun j hj => by
    have : j = 0 ∨ j = 1 := by simp at hj; omega
    rcases this with rfl | rfl
    · exact noB_of a0 a1
    · exact noB_of b0 b1)
  have e4 := nwB_of h
  unfold wfC wfA
  rw [e1, e2, e3, e4, if_neg (by omega), if_neg (by decide), if_neg (by simp), if_neg (by simp), if_neg (by omega), if_neg (by omega), if_neg (by decide), if_neg (by simp), if_neg (by simp)]
  exact ⟨rfl, rfl⟩
theorem wf_one {op z M a n : Int} (h : Wb z M) (ho : op = 16 ∧ n = 0 ∨ op = 23 ∧ 0 ≤ n ∧ n ≤ 8) (a0 : 0 ≤ a) (a1 : a < M) : wfC op z M [a] n = 0 ∧ wfA op z M [a] = 0 := by
  have e1 : arF op = 1 := by unfold arF; rw [if_neg (by omega), if_pos (by omega)]
  have e2 : n ≤ moF op M := by
    unfold moF
    rw [if_neg (by omega)]
    by_cases h : op = 23
    · rw [if_pos h]; omega
    · rw [if_neg h]; omega
  have e3 : fsW M [a] = 1 := fsW_all (fun j hj => by
    have : j = 0 := by simp at hj; omega
    rcases this with rfl
    exact noB_of a0 a1)
  have e4 := nwB_of h
  unfold wfC wfA
  rw [e1, e3, e4, if_neg (by omega), if_neg (by decide), if_neg (by simp), if_neg (by simp), if_neg (by omega), if_neg (by omega), if_neg (by decide), if_neg (by simp), if_neg (by simp)]
  exact ⟨rfl, rfl⟩
section
variable {op z M a b c : Int} (h : Wb z M) (a0 : 0 ≤ a) (a1 : a < M) (b0 : 0 ≤ b) (b1 : b < M) (c0 : 0 ≤ c) (c1 : c < M)
include h a0 a1
theorem not_ok : doR 16 z M [a] 0 = M - 1 - a := by
  have hr := wb_rng h
  unfold doR
  rw [if_pos (wf_one h (.inl ⟨rfl, rfl⟩) a0 a1).1]
  show (-a - 1) % M = M - 1 - a
  rw [← Int.add_emod_right, Int.emod_eq_of_lt (by omega) (by omega)]
  omega
theorem left_ok : doR 23 z M [a] 1 = a * 2 % M := by
  unfold doR
  rw [if_pos (wf_one h (.inr ⟨rfl, by omega, by omega⟩) a0 a1).1]
  rfl
include b0 b1
theorem tw_ok (ho : 17 ≤ op ∧ op ≤ 22) : twF op z M a b = rawF op [a, b] 0 % M := by
  unfold twF doR
  rw [(wf_two h ho a0 a1 b0 b1).1]
  rfl
theorem tw_add : twF 20 z M a b = (a + b) % M := tw_ok h a0 a1 b0 b1 (by omega)
theorem tw_mul : twF 21 z M a b = a * b % M := tw_ok h a0 a1 b0 b1 (by omega)
end
theorem mod_rng {M : Int} (h : 2 ≤ M) (x : Int) : 0 ≤ x % M ∧ x % M < M := ⟨Int.emod_nonneg _ (by omega), Int.emod_lt_of_pos _ (by omega)⟩
/-- A ring. -/
theorem ring_ok {z M a b c : Int} (h : Wb z M) (a0 : 0 ≤ a) (a1 : a < M) (b0 : 0 ≤ b) (b1 : b < M) (c0 : 0 ≤ c) (c1 : c < M) :
    twF 20 z M a b = twF 20 z M b a ∧ twF 21 z M a b = twF 21 z M b a ∧ twF 20 z M (twF 20 z M a b) c = twF 20 z M a (twF 20 z M b c) ∧ twF 21 z M (twF 21 z M a b) c = twF 21 z M a (twF 21 z M b c) ∧
    twF 21 z M a (twF 20 z M b c) = twF 20 z M (twF 21 z M a b) (twF 21 z M a c) ∧ twF 20 z M (twF 20 z M a (doR 16 z M [a] 0)) 1 = 0 := by
  have hM := (wb_rng h).2.2.1
  have n0 : 0 ≤ M - 1 - a := by omega
  have n1 : M - 1 - a < M := by omega
  have mr := mod_rng hM
  rw [not_ok h a0 a1, tw_add h a0 a1 b0 b1, tw_add h b0 b1 a0 a1, tw_mul h a0 a1 b0 b1, tw_mul h b0 b1 a0 a1, tw_add h b0 b1 c0 c1, tw_mul h b0 b1 c0 c1, tw_mul h a0 a1 c0 c1, tw_add h a0 a1 n0 n1]
  rw [tw_add h (mr _).1 (mr _).2 c0 c1, tw_add h a0 a1 (mr _).1 (mr _).2, tw_mul h (mr _).1 (mr _).2 c0 c1, tw_mul h a0 a1 (mr _).1 (mr _).2, tw_mul h a0 a1 (mr _).1 (mr _).2, tw_add h (mr _).1 (mr _).2 (mr _).1 (mr _).2, tw_add h (mr _).1 (mr _).2 (by omega) (by omega)]
  refine ⟨by rw [Int.add_comm], by rw [Int.mul_comm], ?_, ?_, ?_, ?_⟩
  · rw [Int.emod_add_emod, Int.add_emod_emod, Int.add_assoc]
  · rw [Int.mul_emod, Int.emod_emod_of_dvd _ (Int.dvd_refl M), ← Int.mul_emod, Int.mul_emod a, Int.emod_emod_of_dvd _ (Int.dvd_refl M), ← Int.mul_emod, Int.mul_assoc]
  · rw [Int.mul_emod, Int.emod_emod_of_dvd _ (Int.dvd_refl M), ← Int.mul_emod, ← Int.add_emod, Int.mul_add]
  · rw [Int.emod_add_emod, show a + (M - 1 - a) + 1 = M by omega, Int.emod_self]
end Go.Proofs.YtibpgcdaommjeaaGreatDoor.Wds
