/-
  RowForms' walk: whatever the row, true.
-/
import Derived.Test.YtkjollifghmkbaaRowForH
namespace Go.Proofs.Ytkjollifghmkbaa
open Go.RowKit

theorem whL_len (kind tt : Int) (xs : List Int) : (whL kind tt xs).length ≤ xs.length := by
  unfold whL
  have := rK_le xs
  split
  · split
    · rw [upL_len, quotL_len]; omega
    · exact Nat.zero_le _
  · exact Nat.zero_le _
theorem rowforms_any (A : Option Addr) (xs : List Int) (L c : Nat) (kind tt : Int) (hL : L = xs.length) (hc : L ≤ c) (w : World) (h : Is w A xs) :
    Calls Try.prog 4 #[.agg #[.slice A L c, .int .i64 kind, .int .i64 tt]] w fun e w' => e = .returned (.bool true) ∧ Below w.heap.size w w' := by
  by_cases h0 : chkC kind tt xs 12 = 0
  · obtain ⟨hI, _, _, hk, hle, hbad, hin⟩ := chk_zero h0
    have hall := bad_all hbad
    obtain ⟨i1, i2⟩ := inB_iff.1 hin
    have e1 := whL_len kind tt xs
    have e2 := tidyL_len kind tt xs
    have e3 := rK_le xs
    have hwi : whI kind tt xs = 0 := by unfold whI; rw [if_pos h0]
    have hT := fun W hW => tidy_good A xs L c kind tt hL hc W hW h0
    have hW := fun W hW => whole_any A xs L c kind tt hL hc W hW
    have hE := fun W hW => frow_any A xs L c kind tt 12 hL W hW
    have hRT := fun W hW => rtidy_any A xs L c kind tt hL hc W hW h0
    have hRW := fun W hW => rwhole_any A xs L c kind tt hL hc W hW h0
    rw [hwi] at hW
    rw [h0, hI] at hE
    by_cases k3 : kind = 3
    · have hN := fun W hW => not_three A xs L c tt hL W hW (k3 ▸ h0)
      rw [← k3] at hN
      exact rowforms_three A xs _ _ L c kind tt _ _ _ _ w h hL k3 (by omega) (by omega) hT hW hN hE hRT hRW
    · have hN := fun W hW => (not_good A xs L c kind tt hL W hW h0 (by omega)).mono (R' := fun e w' => ∃ A3 c3, e = .returned (.tuple #[.agg #[.slice A3 L c3, .int .i64 (3 - kind), .int .i64 (-tt)], .agg #[.int .i64 0, .int .i64 0]]) ∧ L ≤ c3 ∧ Isb W.heap.size w' A3 (negL xs) ∧ Below W.heap.size W w') (by
        rintro e w' ⟨A3, c3, rfl, h1, h2, h3⟩
        rw [negL_len, ← hL] at h1
        exact ⟨A3, c3, by rw [negL_len, ← hL], h1, h2, h3⟩)
      exact rowforms_two A xs _ _ L c kind tt _ _ _ _ w h hL (by omega) i1 i2 hc (by omega) (fun i hi => hall i (by omega)) (by omega) (by omega) hT hW hN hE hRT hRW
  · exact rowforms_bad A xs L c kind tt _ _ w h h0 (fun W hW => tidy_bad A xs L c kind tt hL W hW _ _ rfl rfl h0) (fun W hW => whole_bad A xs L c kind tt hL W hW _ _ rfl rfl h0) (fun W hW => not_bad A xs L c kind tt hL W hW _ _ rfl rfl h0) (fun W hW => frow_any A xs L c kind tt 12 hL W hW)
end Go.Proofs.Ytkjollifghmkbaa
