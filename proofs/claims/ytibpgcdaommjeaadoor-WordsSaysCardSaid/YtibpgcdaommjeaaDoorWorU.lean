/-
  Words: the reference's answers are the program's; the law WordsSays.
-/
import Derived.Test.YtibpgcdaommjeaaDoorWorS
import Derived.Test.YtibpgcdaommjeaaDoorWorT
import Derived.Test.YtibpgcdaommjeaaDoorWorN
namespace Go.Proofs.YtibpgcdaommjeaaDoor
open Go.RowKit

theorem noB_iff {k : Nat} {M x : Int} (hM : M = (2 : Int) ^ k) : noB M x = true ↔ (x < 0 ∨ 2 ^ k ≤ x) := by
  subst hM
  unfold noB
  simp
  omega
theorem noB_iff' {k : Nat} {M x : Int} (hM : M = (2 : Int) ^ k) : noB M x = false ↔ ¬ (x < 0 ∨ 2 ^ k ≤ x) := by
  rw [← noB_iff hM]
  cases noB M x <;> simp
theorem wfC_in {op z M n : Int} {xs : List Int} (h1 : 15 ≤ op) (h2 : op ≤ 23) (hz : nwB z = false) (hl : (xs.length : Int) = arF op) :
    wfC op z M xs n = (if fsW M xs < xs.length then 3 else if n < 0 ∨ moF op M < n then 5 else 0) ∧ wfA op z M xs = (if fsW M xs < xs.length then (fsW M xs : Int) else 0) := by
  have a1 : ¬ (op < 15 ∨ 23 < op) := by omega
  have a2 : ¬ nwB z = true := by rw [hz]; decide
  have a3 : ¬ (xs.length : Int) ≠ arF op := by simpa using hl
  exact ⟨by unfold wfC; rw [if_neg a1, if_neg a2, if_neg a3], by unfold wfA; rw [if_neg a1, if_neg a2, if_neg a3]⟩
theorem rfault_any (op z M n : Int) (xs : List Int) (A : Option Addr) (c : Nat) (hz : nwB z = false → Wb z M) (w : World) (h : Is w A xs) :
    Calls Tryd.prog 9 #[.int .i64 op, .int .i64 z, .slice A xs.length c, .int .i64 n] w fun e w' => e = .returned (.agg #[.int .i64 (wfC op z M xs n), .int .i64 (wfA op z M xs)]) ∧ Below w.heap.size w w' := by
  by_cases o1 : op < 15
  · obtain ⟨e1, e2, _⟩ := wfC_none (z := z) (M := M) (n := n) (xs := xs) (.inl o1)
    rw [e1, e2]
    exact rf_op1 op z n A _ c o1 w
  · by_cases o2 : 23 < op
    · obtain ⟨e1, e2, _⟩ := wfC_none (z := z) (M := M) (n := n) (xs := xs) (.inr o2)
      rw [e1, e2]
      exact rf_op2 op z n A _ c o1 o2 w
    · by_cases hb : nwB z = true
      · have e1 : wfC op z M xs n = 3 := by unfold wfC; rw [if_neg (by omega), if_pos hb]
        have e2 : wfA op z M xs = -1 := by unfold wfA; rw [if_neg (by omega), if_pos hb]
        rw [e1, e2]
        by_cases z1 : z < 1
        · exact rf_z1 op z n A _ c (by omega) (by omega) z1 w
        · exact rf_z2 op z n A _ c (by omega) (by omega) z1 (by unfold nwB at hb; simp at hb; omega) w
      · have hb' : nwB z = false := by simpa using hb
        have hM := hz hb'
        obtain ⟨k, rfl, k1, k8, hp⟩ := wb_pow hM
        have hcl : op = 15 ∨ op = 16 ∨ op = 23 ∨ 17 ≤ op ∧ op ≤ 22 := by omega
        by_cases hs : (xs.length : Int) = arF op
        · obtain ⟨e1, e2⟩ := wfC_in (op := op) (z := k) (M := M) (n := n) (xs := xs) (by omega) (by omega) hb' hs
          have key : ∀ (LL : Nat) (mo : Int), xs.length = LL → moF op M = mo →
              (∀ i, i < LL → (nth xs i < 0 ∨ 2 ^ k ≤ nth xs i) → (∀ j, j < i → ¬ (nth xs j < 0 ∨ 2 ^ k ≤ nth xs j)) → wfC op k M xs n = 3 ∧ wfA op k M xs = i) ∧
              ((∀ j, j < LL → ¬ (nth xs j < 0 ∨ 2 ^ k ≤ nth xs j)) → (n < 0 ∨ mo < n → wfC op k M xs n = 5 ∧ wfA op k M xs = 0) ∧ (¬ (n < 0 ∨ mo < n) → wfC op k M xs n = 0 ∧ wfA op k M xs = 0)) := by
            intro LL mo h1 h2
            subst h1 h2
            refine ⟨fun i hi hx hj => ?_, fun hj => ?_⟩
            · have hf : fsW M xs = i := fsW_at hi ((noB_iff hp).2 hx) (fun j h => (noB_iff' hp).2 (hj j h))
              rw [e1, e2, hf, if_pos hi, if_pos hi]
              exact ⟨rfl, rfl⟩
            · have hf : fsW M xs = xs.length := fsW_all (fun j h => (noB_iff' hp).2 (hj j h))
              have hl : ¬ xs.length < xs.length := Nat.lt_irrefl _
              rw [e1, e2, hf, if_neg hl, if_neg hl]
              exact ⟨fun h => ⟨if_pos h, rfl⟩, fun h => ⟨if_neg h, rfl⟩⟩
          rcases hcl with rfl | rfl | rfl | ⟨h1, h2⟩
          · have hL : xs.length = 0 := by have : arF 15 = 0 := rfl; omega
            obtain ⟨q1, q2⟩ := key 0 ((2 : Int) ^ k - 1) hL (by show M - 1 = _; rw [hp])
            rw [hL]
            exact rf_r15 k k1 k8 n A c xs w _ _ hL h q1 q2
          · have hL : xs.length = 1 := by have : arF 16 = 1 := rfl; omega
            obtain ⟨q1, q2⟩ := key 1 0 hL rfl
            rw [hL]
            exact rf_r16 k k1 k8 n A c xs w _ _ hL h q1 q2
          · have hL : xs.length = 1 := by have : arF 23 = 1 := rfl; omega
            obtain ⟨q1, q2⟩ := key 1 8 hL rfl
            rw [hL]
            exact rf_r23 k k1 k8 n A c xs w _ _ hL h q1 q2
          · have ha : arF op = 2 := by unfold arF; rw [if_neg (by omega), if_neg (by omega)]
            have hm : moF op M = 0 := by unfold moF; rw [if_neg (by omega), if_neg (by omega)]
            have hL : xs.length = 2 := by omega
            obtain ⟨q1, q2⟩ := key 2 0 hL hm
            rw [hL]
            exact rf_r2 op h1 h2 k k1 k8 n A c xs w _ _ hL h q1 q2
        · have e1 : wfC op k M xs n = 9 := by unfold wfC; rw [if_neg (by omega), if_neg (by rw [hb']; decide), if_pos (by simpa using hs)]
          have e2 : wfA op k M xs = 0 := by unfold wfA; rw [if_neg (by omega), if_neg (by rw [hb']; decide), if_pos (by simpa using hs)]
          rw [e1, e2]
          rcases hcl with rfl | rfl | rfl | ⟨h1, h2⟩
          · exact rf_s15 k k1 k8 n A _ c hs w
          · exact rf_s16 k k1 k8 n A _ c hs w
          · exact rf_s23 k k1 k8 n A _ c hs w
          · have ha : arF op = 2 := by unfold arF; rw [if_neg (by omega), if_neg (by omega)]
            rw [ha] at hs
            exact rf_s2 op h1 h2 k k1 k8 n A _ c hs w
/-- Of a sound operation the reference makes what the program makes. -/
theorem rdo_any (op z M n : Int) (xs : List Int) (A : Option Addr) (c : Nat) (hz : nwB z = false → Wb z M) (hc : wfC op z M xs n = 0) (w : World) (h : Is w A xs) :
    Calls Tryd.prog 10 #[.int .i64 op, .int .i64 z, .slice A xs.length c, .int .i64 n] w fun e w' => e = .returned (.int .i64 (doR op z M xs n)) ∧ Below w.heap.size w w' := by
  obtain ⟨o1, o2, o3, o4, o5, o6, _⟩ := wfC_zero hc
  have hM := hz o2
  obtain ⟨k, rfl, k1, k8, hp⟩ := wb_pow hM
  have hp' : M = ((2 ^ k : Nat) : Int) := by rw [hp]; push_cast; rfl
  have p8 : 2 ^ k ≤ 2 ^ 8 := Nat.pow_le_pow_right (by decide) k8
  have hd : doR op k M xs n = rawF op xs n % M := by unfold doR; rw [if_pos hc]
  rw [hd]
  have nat0 : ∀ j, j < xs.length → ∃ a : Nat, nth xs j = a ∧ a < 2 ^ k := fun j hj => by
    obtain ⟨h1, h2⟩ := noB_bd (o4 j hj)
    exact ⟨(nth xs j).toNat, by omega, by omega⟩
  have hcl : op = 15 ∨ op = 16 ∨ op = 17 ∨ op = 18 ∨ op = 19 ∨ op = 20 ∨ op = 21 ∨ op = 22 ∨ op = 23 := by omega
  have red : ∀ (v : Int) (u : Nat), v = u → u < 2 ^ k → v % M = u := fun v u h1 h2 => by rw [h1, hp']; exact_mod_cast Nat.mod_eq_of_lt h2
  rcases hcl with rfl | rfl | rfl | rfl | rfl | rfl | rfl | rfl | rfl
  · have e : rawF 15 xs n % M = n := by
      have : moF 15 M = M - 1 := rfl
      show n % M = n
      exact Int.emod_eq_of_lt o5 (by omega)
    rw [e]
    exact rdo_15 k n A _ c w
  · obtain ⟨hl, b, o, rfl, lb, c0⟩ := one_at h o3
    obtain ⟨a, ha, hlt⟩ := nat0 0 (by omega)
    rw [ha] at c0
    have e : rawF 16 xs n % M = ((vl (fun j => !a.testBit j) k : Nat) : Int) := by
      rw [show rawF 16 xs n = -(nth xs 0) - 1 from rfl, ha, ← not_vl hlt, ← Int.add_emod_right, Int.emod_eq_of_lt (by omega) (by omega)]
      omega
    rw [e, hl]
    exact rdo_16 a k k1 k8 (by omega) n b o c w lb c0
  · obtain ⟨hl, b, o, rfl, lb, c0, c1⟩ := two_at h o3
    obtain ⟨a, ha, hlt⟩ := nat0 0 (by omega)
    obtain ⟨y, hy, hlt2⟩ := nat0 1 (by omega)
    rw [ha] at c0
    rw [hy] at c1
    have e := red (rawF 17 xs n) (vl (fun j => a.testBit j && y.testBit j) k) (by
      rw [show rawF 17 xs n = bits .and .i64 (nth xs 0) (nth xs 1) from rfl, ha, hy, vl_and a y k hlt]
      exact (bits_nat .i64 8 (by decide) (fun n h0 h1 => by rw [IntKind.wrap_i64]; omega) a y (by omega) (by omega)).1) (vl_lt _ _)
    rw [e, hl]
    exact rdo_17 a k y k1 k8 (by omega) (by omega) n b o c w lb c0 c1
  · obtain ⟨hl, b, o, rfl, lb, c0, c1⟩ := two_at h o3
    obtain ⟨a, ha, hlt⟩ := nat0 0 (by omega)
    obtain ⟨y, hy, hlt2⟩ := nat0 1 (by omega)
    rw [ha] at c0
    rw [hy] at c1
    have e := red (rawF 18 xs n) (vl (fun j => a.testBit j || y.testBit j) k) (by
      rw [show rawF 18 xs n = bits .or .i64 (nth xs 0) (nth xs 1) from rfl, ha, hy, vl_or a y k hlt hlt2]
      exact (bits_nat .i64 8 (by decide) (fun n h0 h1 => by rw [IntKind.wrap_i64]; omega) a y (by omega) (by omega)).2) (vl_lt _ _)
    rw [e, hl]
    exact rdo_18 a k y k1 k8 (by omega) (by omega) n b o c w lb c0 c1
  · obtain ⟨hl, b, o, rfl, lb, c0, c1⟩ := two_at h o3
    obtain ⟨a, ha, hlt⟩ := nat0 0 (by omega)
    obtain ⟨y, hy, hlt2⟩ := nat0 1 (by omega)
    rw [ha] at c0
    rw [hy] at c1
    have e := red (rawF 19 xs n) (vl (fun j => a.testBit j != y.testBit j) k) (by
      rw [show rawF 19 xs n = bits .xor .i64 (nth xs 0) (nth xs 1) from rfl, ha, hy, vl_xor a y k hlt hlt2]
      exact bits_xor_nat a y (by omega) (by omega)) (vl_lt _ _)
    rw [e, hl]
    exact rdo_19 a k y k1 k8 (by omega) (by omega) n b o c w lb c0 c1
  · obtain ⟨hl, b, o, rfl, lb, c0, c1⟩ := two_at h o3
    obtain ⟨a, ha, hlt⟩ := nat0 0 (by omega)
    obtain ⟨y, hy, hlt2⟩ := nat0 1 (by omega)
    rw [ha] at c0
    rw [hy] at c1
    have e : rawF 20 xs n % M = ((vl (sm (fun j => a.testBit j) (fun j => y.testBit j)) k : Nat) : Int) := by
      rw [show rawF 20 xs n = nth xs 0 + nth xs 1 from rfl, ha, hy, vl_sm, vl_of hlt, vl_of hlt2, hp']
      push_cast
      rfl
    rw [e, hl]
    exact rdo_20 a k y k1 k8 (by omega) (by omega) n b o c w lb c0 c1
  · obtain ⟨hl, b, o, rfl, lb, c0, c1⟩ := two_at h o3
    obtain ⟨a, ha, hlt⟩ := nat0 0 (by omega)
    obtain ⟨y, hy, hlt2⟩ := nat0 1 (by omega)
    rw [ha] at c0
    rw [hy] at c1
    have e : rawF 21 xs n % M = ((vl (tm (fun j => a.testBit j) (fun j => y.testBit j) k) k : Nat) : Int) := by
      rw [show rawF 21 xs n = nth xs 0 * nth xs 1 from rfl, ha, hy, vl_tm, vl_of hlt, vl_of hlt2, hp']
      push_cast
      rfl
    rw [e, hl]
    exact rdo_21 a k y k1 k8 (by omega) (by omega) n b o c w lb c0 c1
  · obtain ⟨hl, b, o, rfl, lb, c0, c1⟩ := two_at h o3
    obtain ⟨a, ha, hlt⟩ := nat0 0 (by omega)
    obtain ⟨y, hy, hlt2⟩ := nat0 1 (by omega)
    rw [ha] at c0
    rw [hy] at c1
    have e : rawF 22 xs n % M = ltB (fun j => a.testBit j) (fun j => y.testBit j) k := by
      have hr := wb_rng hM
      rw [show rawF 22 xs n = ltI (nth xs 0) (nth xs 1) from rfl, ha, hy]
      unfold ltI ltB
      rw [vl_of hlt, vl_of hlt2]
      by_cases q : a < y
      · rw [if_pos q, if_pos (by omega), Int.emod_eq_of_lt (by omega) (by omega)]
      · rw [if_neg q, if_neg (by omega), Int.zero_emod]
    rw [e, hl]
    exact rdo_22 a k y k1 k8 (by omega) (by omega) n b o c w lb c0 c1
  · obtain ⟨hl, b, o, rfl, lb, c0⟩ := one_at h o3
    obtain ⟨a, ha, hlt⟩ := nat0 0 (by omega)
    rw [ha] at c0
    obtain ⟨m, rfl⟩ : ∃ m : Nat, n = m := ⟨n.toNat, by omega⟩
    have m8 : m ≤ 8 := by have : moF 23 M = 8 := rfl; omega
    have e : rawF 23 xs m % M = ((vl (lfs (fun j => a.testBit j) m) k : Nat) : Int) := by
      rw [show rawF 23 xs m = nth xs 0 * 2 ^ m from rfl, ha, vl_lfs, vl_of hlt, hp']
      push_cast
      rfl
    rw [e, hl]
    exact rdo_23 a k k1 k8 (by omega) m m8 b o c w lb c0
end Go.Proofs.YtibpgcdaommjeaaDoor
