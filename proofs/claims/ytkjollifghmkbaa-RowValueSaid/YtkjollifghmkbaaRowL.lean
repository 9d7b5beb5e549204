/-
  The contract of row.bare.
-/
import Derived.Test.YtkjollifghmkbaaRowE
namespace Go.Proofs.Ytkjollifghmkbaa
open Go.RowKit

/-- The bound of a row without coefficients in its plainest form. -/
def bareT (kind tt : Int) : Int := if kind = 1 then (if tt < 0 then -1 else 0) else if kind = 2 then (if 0 < tt then 1 else 0) else if tt = 0 then 0 else 1
/-- The way in which a call that makes a row without coefficients ends. -/
def GivesN (kind tt : Int) (w : World) (e : Ending) (w' : World) : Prop := e = .returned (.agg #[.slice none 0 0, .int .i64 kind, .int .i64 tt]) ∧ Below w.heap.size w w'
set_option maxHeartbeats 2000000 in
theorem rbare_any (kind tt : Int) (hk : kind = 1 ∨ kind = 2 ∨ kind = 3) (w : World) :
    Calls Try.prog 42 #[.int .i64 kind, .int .i64 tt] w (GivesN kind (bareT kind tt) w) := by
  rcases hk with rfl | rfl | rfl
  · by_cases h : tt < 0
    · have e : bareT 1 tt = -1 := by simp [bareT, h]
      have d : decide (tt < 0) = true := by simpa using h
      rw [e]
      clear e h
      go_enter Try.func42, Try.ntmps42
      go_wp2
      refine bodyPost_ret (v := .agg #[.slice none 0 0, .int .i64 1, .int .i64 (-1)]) (by simp [results, Try.results42, go_sem]) rfl ⟨rfl, ?_⟩
      go_grown
    · have e : bareT 1 tt = 0 := by simp [bareT, h]
      have d : decide (tt < 0) = false := by simpa using h
      rw [e]
      clear e h
      go_enter Try.func42, Try.ntmps42
      go_wp2
      refine bodyPost_ret (v := .agg #[.slice none 0 0, .int .i64 1, .int .i64 0]) (by simp [results, Try.results42, go_sem]) rfl ⟨rfl, ?_⟩
      go_grown
  · by_cases h : 0 < tt
    · have e : bareT 2 tt = 1 := by simp [bareT, h]
      have d : decide (0 < tt) = true := by simpa using h
      rw [e]
      clear e h
      go_enter Try.func42, Try.ntmps42
      go_wp2
      refine bodyPost_ret (v := .agg #[.slice none 0 0, .int .i64 2, .int .i64 1]) (by simp [results, Try.results42, go_sem]) rfl ⟨rfl, ?_⟩
      go_grown
    · have e : bareT 2 tt = 0 := by simp [bareT, h]
      have d : decide (0 < tt) = false := by simpa using h
      rw [e]
      clear e h
      go_enter Try.func42, Try.ntmps42
      go_wp2
      refine bodyPost_ret (v := .agg #[.slice none 0 0, .int .i64 2, .int .i64 0]) (by simp [results, Try.results42, go_sem]) rfl ⟨rfl, ?_⟩
      go_grown
  · by_cases h : tt = 0
    · have e : bareT 3 tt = 0 := by simp [bareT, h]
      rw [e]
      subst h
      clear e
      go_enter Try.func42, Try.ntmps42
      go_wp2
      refine bodyPost_ret (v := .agg #[.slice none 0 0, .int .i64 3, .int .i64 0]) (by simp [results, Try.results42, go_sem]) rfl ⟨rfl, ?_⟩
      go_grown
    · have e : bareT 3 tt = 1 := by simp [bareT, h]
      have d : (tt != 0) = true := by simpa using h
      rw [e]
      clear e h
      go_enter Try.func42, Try.ntmps42
      go_wp2
      refine bodyPost_ret (v := .agg #[.slice none 0 0, .int .i64 3, .int .i64 1]) (by simp [results, Try.results42, go_sem]) rfl ⟨rfl, ?_⟩
      go_grown
/-- The numbers' contraries. -/
def negL (xs : List Int) : List Int := xs.map (fun x => -x)
theorem negL_eq (xs : List Int) : xs.map (·.tdiv (-1)) = negL xs := by
  unfold negL
  exact List.map_congr_left fun x _ => by simp [Int.tdiv_neg]
theorem negL_len (xs : List Int) : (negL xs).length = xs.length := by simp [negL]
end Go.Proofs.Ytkjollifghmkbaa
