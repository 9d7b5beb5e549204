/-
  What row.Whole yields, whatever the row.
-/
import Derived.Test.YtkjollifghmkbaaRowR
namespace Go.Proofs.Ytkjollifghmkbaa
open Go.RowKit

/-- What Whole yields. -/
def whK (kind : Int) : Int := if kind = 2 then 1 else kind
def whT (kind tt : Int) : Int := if kind = 2 then tt - 1 else tt
def whG (xs : List Int) : Int := (gcdK xs (rK xs) : Nat)
/-- The four ways: nothing left; no whole point; too small a bound; a row. -/
def whW (kind tt : Int) (xs : List Int) : Nat := if rK xs = 0 then 0 else if kind = 3 ∧ tt.tmod (whG xs) ≠ 0 then 1 else if whT kind tt / whG xs < -1000000 then 2 else 3
def whC (kind tt : Int) (xs : List Int) : Int := if chkC kind tt xs 12 = 0 then (if whW kind tt xs = 2 then 10 else 0) else chkC kind tt xs 12
def whI (kind tt : Int) (xs : List Int) : Int := if chkC kind tt xs 12 = 0 then 0 else chkI kind tt xs 12
def whL (kind tt : Int) (xs : List Int) : List Int := if chkC kind tt xs 12 = 0 then (if whW kind tt xs = 3 then upL (whK kind) (quotL xs (whG xs)) else []) else []
def whKk (kind tt : Int) (xs : List Int) : Int := if chkC kind tt xs 12 = 0 then (if whW kind tt xs = 2 then 0 else whK kind) else 0
def whTt (kind tt : Int) (xs : List Int) : Int := if chkC kind tt xs 12 = 0 then (if whW kind tt xs = 0 then bareT (whK kind) (whT kind tt) else if whW kind tt xs = 1 then 1 else if whW kind tt xs = 2 then 0 else upT (whK kind) (quotL xs (whG xs)) (whT kind tt / whG xs)) else 0
theorem whole_any (A : Option Addr) (xs : List Int) (L c : Nat) (kind tt : Int) (hL : L = xs.length) (hc : L ≤ c) (w : World) (h : Is w A xs) :
    Calls Try.prog 20 #[.agg #[.slice A L c, .int .i64 kind, .int .i64 tt]] w (GivesRF (whL kind tt xs) (whKk kind tt xs) (whTt kind tt xs) (whC kind tt xs) (whI kind tt xs) w) := by
  unfold whL whKk whTt whC whI
  by_cases h0 : chkC kind tt xs 12 = 0
  · simp only [if_pos h0]
    obtain ⟨_, _, _, hk, _⟩ := chk_zero h0
    unfold whW
    by_cases hz : rK xs = 0
    · simp only [if_pos hz]
      rcases hk with rfl | rfl | rfl
      · have := whole_1 A xs L c tt hL hc w h h0 (whG xs) rfl
        rw [if_pos hz] at this
        simpa [whK, whT] using this
      · have := whole_2 A xs L c tt hL hc w h h0 (whG xs) rfl
        rw [if_pos hz] at this
        simpa [whK, whT] using this
      · have := whole_3 A xs L c tt hL hc w h h0 (whG xs) rfl
        rw [if_pos hz] at this
        simpa [whK, whT] using this
    · simp only [if_neg hz]
      by_cases hr : kind = 3 ∧ tt.tmod (whG xs) ≠ 0
      · simp only [if_pos hr]
        obtain ⟨rfl, hr⟩ := hr
        have := whole_3 A xs L c tt hL hc w h h0 (whG xs) rfl
        rw [if_neg hz, if_pos hr] at this
        simpa [whK, whT] using this
      · simp only [if_neg hr]
        by_cases hm : whT kind tt / whG xs < -1000000
        · simp only [if_pos hm]
          rcases hk with rfl | rfl | rfl
          · have := whole_1 A xs L c tt hL hc w h h0 (whG xs) rfl
            rw [if_neg hz, if_pos (show tt / whG xs < -1000000 from hm)] at this
            simpa [whK, whT] using this
          · have := whole_2 A xs L c tt hL hc w h h0 (whG xs) rfl
            rw [if_neg hz, if_pos (show (tt - 1) / whG xs < -1000000 from hm)] at this
            simpa [whK, whT] using this
          · have := whole_3 A xs L c tt hL hc w h h0 (whG xs) rfl
            rw [if_neg hz, if_neg (fun z => hr ⟨rfl, z⟩), if_pos (show tt / whG xs < -1000000 from hm)] at this
            simpa [whK, whT] using this
        · simp only [if_neg hm]
          rcases hk with rfl | rfl | rfl
          · have := whole_1 A xs L c tt hL hc w h h0 (whG xs) rfl
            rw [if_neg hz, if_neg (show ¬ tt / whG xs < -1000000 from hm)] at this
            simpa [whK, whT] using this
          · have := whole_2 A xs L c tt hL hc w h h0 (whG xs) rfl
            rw [if_neg hz, if_neg (show ¬ (tt - 1) / whG xs < -1000000 from hm)] at this
            simpa [whK, whT] using this
          · have := whole_3 A xs L c tt hL hc w h h0 (whG xs) rfl
            rw [if_neg hz, if_neg (fun z => hr ⟨rfl, z⟩), if_neg (show ¬ tt / whG xs < -1000000 from hm)] at this
            simpa [whK, whT] using this
  · simp only [if_neg h0]
    exact whole_bad A xs L c kind tt hL w h _ _ rfl rfl h0
end Go.Proofs.Ytkjollifghmkbaa
