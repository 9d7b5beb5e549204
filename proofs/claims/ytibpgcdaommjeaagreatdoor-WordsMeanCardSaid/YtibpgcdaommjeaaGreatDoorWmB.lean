/-
  Words and meanings: what a node means is what its operation makes.
-/
import Derived.Test.YtibpgcdaommjeaaGreatDoorWmA
import Derived.Test.YtibpgcdaommjeaaGreatDoorWorN
namespace Go.Proofs.YtibpgcdaommjeaaGreatDoor.Wds
open Go.RowKit

theorem mds_of {k : Nat} {M : Int} (hp : M = 2 ^ k) : mds (10 + (k : Int)) = M := by
  unfold mds
  rw [show ((10 + (k : Int)) - 10).toNat = k by omega, hp]
theorem wm_do {k a b : Nat} {M op n : Int} (h : Wb k M) (hM : M = ((2 ^ k : Nat) : Int)) (hk : k ≤ 8) (ha : a < 2 ^ k) (hb : b < 2 ^ k) (o1 : 16 ≤ op) (o2 : op ≤ 23) (hn : badN op n = false) :
    wfC op k M (if op = 16 ∨ op = 23 then [(a : Int)] else [(a : Int), (b : Int)]) (if op = 23 then n else 0) = 0 ∧ doR op k M (if op = 16 ∨ op = 23 then [(a : Int)] else [(a : Int), (b : Int)]) (if op = 23 then n else 0) = wmF op k a b n := by
  have hp' : ((2 ^ k : Nat) : Int) = (2 : Int) ^ k := by push_cast; rfl
  have hm : mds (10 + (k : Int)) = M := mds_of (by rw [hM, hp'])
  have h8 : 2 ^ k ≤ 2 ^ 8 := Nat.pow_le_pow_right (by decide) hk
  have a1 : (a : Int) < M := by omega
  have b1 : (b : Int) < M := by omega
  have two : ∀ o, 17 ≤ o ∧ o ≤ 22 → wfC o k M [(a : Int), (b : Int)] 0 = 0 ∧ doR o k M [(a : Int), (b : Int)] 0 = twF o k M a b := fun o ho => by
    have := (wf_two (op := o) h ho (by omega) a1 (by omega) b1).1
    exact ⟨this, by unfold twF; rw [if_pos this]⟩
  have cs : op = 16 ∨ op = 17 ∨ op = 18 ∨ op = 19 ∨ op = 20 ∨ op = 21 ∨ op = 22 ∨ op = 23 := by omega
  have e1 := (bits_nat .i64 8 (by decide) (fun n h0 h1 => by rw [IntKind.wrap_i64]; omega) a b (by omega) (by omega)).1
  have e2 := (bits_nat .i64 8 (by decide) (fun n h0 h1 => by rw [IntKind.wrap_i64]; omega) a b (by omega) (by omega)).2
  have e3 := bits_xor_nat a b (by omega) (by omega)
  rcases cs with rfl | rfl | rfl | rfl | rfl | rfl | rfl | rfl
  · refine ⟨(wf_one h (.inl ⟨rfl, rfl⟩) (by omega) a1).1, ?_⟩
    show doR 16 k M [(a : Int)] 0 = mds (10 + (k : Int)) - 1 - a
    rw [not_ok h (by omega) a1, hm]
  · obtain ⟨w1, w2⟩ := two 17 (by omega)
    refine ⟨w1, ?_⟩
    show doR 17 k M [(a : Int), (b : Int)] 0 = bits .and .i64 a b
    rw [w2, tw_and h hM hk ha hb, e1]
  · obtain ⟨w1, w2⟩ := two 18 (by omega)
    refine ⟨w1, ?_⟩
    show doR 18 k M [(a : Int), (b : Int)] 0 = bits .or .i64 a b
    rw [w2, tw_or h hM hk ha hb, e2]
  · obtain ⟨w1, w2⟩ := two 19 (by omega)
    refine ⟨w1, ?_⟩
    show doR 19 k M [(a : Int), (b : Int)] 0 = bits .xor .i64 a b
    rw [w2, tw_xor h hM hk ha hb, e3]
  · obtain ⟨w1, w2⟩ := two 20 (by omega)
    refine ⟨w1, ?_⟩
    show doR 20 k M [(a : Int), (b : Int)] 0 = ((a : Int) + b) % mds (10 + (k : Int))
    rw [w2, tw_add h (by omega) a1 (by omega) b1, hm]
  · obtain ⟨w1, w2⟩ := two 21 (by omega)
    refine ⟨w1, ?_⟩
    show doR 21 k M [(a : Int), (b : Int)] 0 = ((a : Int) * b) % mds (10 + (k : Int))
    rw [w2, tw_mul h (by omega) a1 (by omega) b1, hm]
  · obtain ⟨w1, w2⟩ := two 22 (by omega)
    refine ⟨w1, ?_⟩
    show doR 22 k M [(a : Int), (b : Int)] 0 = if (a : Int) < b then 1 else 0
    rw [w2, tw_less h hM hk ha hb]
    by_cases q : a < b
    · rw [if_pos q, if_pos (by omega)]
    · rw [if_neg q, if_neg (by omega)]
  · unfold badN at hn
    have hn' : 0 ≤ n ∧ n ≤ 8 := by simp at hn; omega
    have w1 := (wf_one (op := 23) (n := n) h (.inr ⟨rfl, hn'.1, hn'.2⟩) (by omega) a1).1
    refine ⟨w1, ?_⟩
    show doR 23 k M [(a : Int)] n = ((a : Int) * 2 ^ n.toNat) % mds (10 + (k : Int))
    unfold doR
    rw [if_pos w1, hm]
    rfl
theorem wf_bad {k a : Nat} {M n : Int} (h : Wb k M) (a1 : (a : Int) < M) (hn : n < 0 ∨ 8 < n) : wfC 23 k M [(a : Int)] n = 5 := by
  have e3 : fsW M [(a : Int)] = 1 := fsW_all (fun j hj => by
    have : j = 0 := by simp at hj; omega
    rcases this with rfl
    exact noB_of (x := (a : Int)) (by omega) a1)
  have e4 := nwB_of h
  unfold wfC
  rw [if_neg (by decide), if_neg (by rw [e4]; decide), if_neg (by simp [arF]), if_neg (by rw [e3]; simp), if_pos (by simpa [moF] using hn)]
theorem wf_badA {k a : Nat} {M : Int} (h : Wb k M) (a1 : (a : Int) < M) : wfA 23 k M [(a : Int)] = 0 := by
  have e3 : fsW M [(a : Int)] = 1 := fsW_all (fun j hj => by
    have : j = 0 := by simp at hj; omega
    rcases this with rfl
    exact noB_of (x := (a : Int)) (by omega) a1)
  have e4 := nwB_of h
  unfold wfA
  rw [if_neg (by decide), if_neg (by rw [e4]; decide), if_neg (by simp [arF]), if_neg (by rw [e3]; simp)]
end Go.Proofs.YtibpgcdaommjeaaGreatDoor.Wds
