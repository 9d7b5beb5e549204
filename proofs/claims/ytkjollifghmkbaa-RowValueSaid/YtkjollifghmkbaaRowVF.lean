/-
  RowValue's walk, whatever the points' lengths.
-/
import Derived.Test.YtkjollifghmkbaaRowVE
namespace Go.Proofs.Ytkjollifghmkbaa
open Go.RowKit

set_option maxHeartbeats 4000000 in
theorem rowvalue_out (A A' A'' : Option Addr) (L c L' c' L2 c'' : Nat) (kind tt : Int) (hne : L' ≠ L2) (w : World) :
    Calls Try.prog 9 #[.agg #[.slice A L c, .int .i64 kind, .int .i64 tt], .slice A' L' c', .slice A'' L2 c''] w fun e w' => e = .returned (.bool true) ∧ Below w.heap.size w w' := by
  have dl : ((L' : Int) != L2) = true := by simp; omega
  clear hne
  go_enter Try.func9, Try.ntmps9
  go_wp2_with fail
  refine (fact_any _).mono ?_
  rintro e w1 ⟨rfl, hb1⟩
  have G1 : Hid (Below w.heap.size w w1) := below_after (by go_grown) hb1
  clear hb1
  go_wp2
  go_ret
  exact ⟨rfl, G1.out⟩
theorem rowvalue_any (A A' A'' : Option Addr) (xs : List Int) (ps qs : List (Int × Int)) (L c L' c' L2 c'' : Nat) (kind tt : Int) (hL : L = xs.length) (hp : L' = ps.length) (hq : L2 = qs.length) (w : World) (h : Is w A xs) (h1 : Fs w A' ps) (h2 : Fs w A'' qs) :
    Calls Try.prog 9 #[.agg #[.slice A L c, .int .i64 kind, .int .i64 tt], .slice A' L' c', .slice A'' L2 c''] w fun e w' => e = .returned (.bool true) ∧ Below w.heap.size w w' := by
  by_cases hne : L' = L2
  · subst hne
    exact rowvalue_in A A' A'' xs ps qs L c L' c' c'' kind tt hL hp hq w h h1 h2
  · exact rowvalue_out A A' A'' L c L' c' L2 c'' kind tt hne w
end Go.Proofs.Ytkjollifghmkbaa
