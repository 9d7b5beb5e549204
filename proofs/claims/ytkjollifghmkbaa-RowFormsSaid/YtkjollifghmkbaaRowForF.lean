/-
  What the reference's row of the same whole points is, whatever the row.
-/
import Derived.Test.YtkjollifghmkbaaRowForE
import Derived.Test.YtkjollifghmkbaaRowW
namespace Go.Proofs.Ytkjollifghmkbaa
open Go.RowKit

theorem pair_gcd (g : Nat) (tt : Int) : gcdK [(g : Int), tt] 2 = Nat.gcd g tt.natAbs := by
  show Int.gcd ((Int.gcd ((0 : Nat) : Int) (g : Int) : Nat) : Int) tt = _
  simp [Int.gcd]
theorem pair_dvd (g : Nat) (tt : Int) : Nat.gcd g tt.natAbs = g ↔ tt.tmod (g : Int) = 0 := by
  rw [Nat.gcd_eq_left_iff_dvd, ← Int.ofNat_dvd_left, Int.dvd_iff_tmod_eq_zero]
theorem rwhole_any (A : Option Addr) (xs : List Int) (L c : Nat) (kind tt : Int) (hL : L = xs.length) (hc : L ≤ c) (w : World) (h : Is w A xs) (h0 : chkC kind tt xs 12 = 0) :
    Calls Try.prog 23 #[.agg #[.slice A L c, .int .i64 kind, .int .i64 tt]] w (GivesRF (whL kind tt xs) (whKk kind tt xs) (whTt kind tt xs) (whC kind tt xs) 0 w) := by
  unfold whL whKk whTt whC
  obtain ⟨_, _, _, hk, hle, hbad, hin⟩ := chk_zero h0
  obtain ⟨i1, i2⟩ := inB_iff.1 hin
  simp only [if_pos h0]
  unfold whW
  by_cases hz : rK xs = 0
  · simp only [if_pos hz]
    rcases hk with rfl | rfl | rfl
    · simpa [whK, whT] using rwz_1 A xs L c tt hL hc w h h0 hz
    · simpa [whK, whT] using rwz_2 A xs L c tt hL hc w h h0 hz
    · simpa [whK, whT] using rwz_3 A xs L c tt hL hc w h h0 hz
  · simp only [if_neg hz]
    have hp := gcdK_pos xs (by omega)
    have g1 : 1 ≤ whG xs := by unfold whG; omega
    have dv : ∀ j, j < rK xs → whG xs ∣ nth xs j := fun j hj => gcdK_dvd xs (rK xs) j hj
    by_cases hr : kind = 3 ∧ tt.tmod (whG xs) ≠ 0
    · simp only [if_pos hr]
      obtain ⟨rfl, hr⟩ := hr
      have := rwn_3 A xs L c tt hL hc w h h0 hz _ rfl (fun e => hr ((pair_dvd _ tt).1 ((pair_gcd _ tt).symm.trans e)))
      simpa [whK, whT] using this
    · simp only [if_neg hr]
      by_cases hm : whT kind tt / whG xs < -1000000
      · simp only [if_pos hm]
        rcases hk with rfl | rfl | rfl
        · have := rwb_1 A xs L c tt 1 hL hc w h h0 hz (.inl ⟨by decide, rfl⟩) (by rw [Int.one_mul]; show inB (tt / whG xs) = false; have : ¬ (-1000000 ≤ tt / whG xs) := (by have : tt / whG xs < -1000000 := hm; omega); simp [inB, this])
          simpa [whK, whT] using this
        · have := rwb_2 A xs L c tt 1 hL hc w h h0 hz (.inl ⟨by decide, rfl⟩) (by rw [Int.one_mul]; show inB ((tt - 1) / whG xs) = false; have : ¬ (-1000000 ≤ (tt - 1) / whG xs) := (by have : (tt - 1) / whG xs < -1000000 := hm; omega); simp [inB, this])
          simpa [whK, whT] using this
        · exfalso
          have := (ediv_mag (n := tt) (B := 1000000) g1 i1 i2 (by omega)).1
          have e : whT 3 tt = tt := rfl
          rw [e] at hm
          omega
      · simp only [if_neg hm]
        rcases hk with rfl | rfl | rfl
        · obtain ⟨m1, m2⟩ := by_up 1 tt xs (whG xs) 1 g1 dv (fun z => absurd z (by decide)) rfl
          have fb := floor_bd (n := tt) g1 i2
          have := rwg_1 A xs L c tt 1 hL hc w h h0 hz (.inl ⟨by decide, rfl⟩) (by rw [Int.one_mul]; exact inB_iff.2 ⟨by have : ¬ tt / whG xs < -1000000 := hm; show _ ≤ tt / whG xs; omega, fb⟩)
          change Calls _ _ _ _ (GivesRF (byL 1 (xs.take (rK xs)) (whG xs)) 1 ((1 * tt) / whG xs) 0 0 w) at this
          rw [m1, m2] at this
          simpa [whK, whT] using this
        · obtain ⟨m1, m2⟩ := by_up 1 (tt - 1) xs (whG xs) 1 g1 dv (fun z => absurd z (by decide)) rfl
          have fb := floor_bd (n := tt - 1) g1 (by omega)
          have := rwg_2 A xs L c tt 1 hL hc w h h0 hz (.inl ⟨by decide, rfl⟩) (by rw [Int.one_mul]; exact inB_iff.2 ⟨by have : ¬ (tt - 1) / whG xs < -1000000 := hm; show _ ≤ (tt - 1) / whG xs; omega, fb⟩)
          change Calls _ _ _ _ (GivesRF (byL 1 (xs.take (rK xs)) (whG xs)) 1 ((1 * (tt - 1)) / whG xs) 0 0 w) at this
          rw [m1, m2] at this
          simpa [whK, whT] using this
        · have hd : tt.tmod (whG xs) = 0 := by
            rcases Int.decEq (tt.tmod (whG xs)) 0 with q | q
            · exact absurd ⟨rfl, q⟩ hr
            · exact q
          obtain ⟨m1, m2⟩ := by_up 3 tt xs (whG xs) (sgnL (xs.take (rK xs))) g1 dv (fun _ => Int.dvd_of_tmod_eq_zero hd) rfl
          have fb := ediv_mag (n := tt) (B := 1000000) g1 i1 i2 (by omega)
          have := rwg_3 A xs L c tt (sgnL (xs.take (rK xs))) hL hc w h h0 hz (.inr ⟨by decide, rfl⟩) (by
            show inB ((sgnL (xs.take (rK xs)) * tt) / whG xs) = true
            rw [m2]
            exact inB_upT (inB_iff.2 fb)) (by
            rw [pair_gcd, (pair_dvd _ tt).2 hd])
          change Calls _ _ _ _ (GivesRF (byL (sgnL (xs.take (rK xs))) (xs.take (rK xs)) (whG xs)) 3 ((sgnL (xs.take (rK xs)) * tt) / whG xs) 0 0 w) at this
          rw [m1, m2] at this
          simpa [whK, whT] using this
end Go.Proofs.Ytkjollifghmkbaa
