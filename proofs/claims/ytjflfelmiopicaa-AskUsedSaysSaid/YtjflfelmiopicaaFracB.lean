/-
  The contracts of frac.Check and frac.Make: Make reduces by the greatest common divisor and tells the faults of its chapter.
-/
import Derived.Test.YtjflfelmiopicaaFracA
namespace Go.Proofs.Ytjflfelmiopicaa
open Go.RowKit

theorem bcell {W w1 : World} (hb : Below W.heap.size W w1) : (∀ b o, b < W.heap.size → w1.cell? ⟨b, o, none⟩ = W.cell? ⟨b, o, none⟩) ∧ (∀ b o, b < W.heap.size → w1.frozen? ⟨b, o, none⟩ = W.frozen? ⟨b, o, none⟩) :=
  ⟨fun b o h => hb.cell (p := ⟨b, o, none⟩) h, fun b o h => hb.frozen (p := ⟨b, o, none⟩) h⟩
theorem bfour {A w : World} (hb : Below A.heap.size A w) : (∀ b o, b < A.heap.size → w.cell? ⟨b, o, none⟩ = A.cell? ⟨b, o, none⟩) ∧ (∀ b o, b < A.heap.size → w.frozen? ⟨b, o, none⟩ = A.frozen? ⟨b, o, none⟩) ∧ (∀ b, b < A.heap.size → b < w.heap.size) ∧ (∀ b, b < A.heap.size → b ≤ w.heap.size) :=
  ⟨(bcell hb).1, (bcell hb).2, fun _ h => Nat.lt_of_lt_of_le h hb.size, fun _ h => Nat.le_of_lt (Nat.lt_of_lt_of_le h hb.size)⟩
def checkC (n d : Int) : Int := if fvalid n d then 0 else 3
theorem checkC_yes {n d : Int} (h : fvalid n d = true) : checkC n d = 0 := by simp [checkC, h]
theorem checkC_no {n d : Int} (h : fvalid n d = false) : checkC n d = 3 := by simp [checkC, h]
theorem check_yes (n d : Int) (w : World) (h : fvalid n d = true) :
    Calls Try.prog 65 #[.agg #[.int .i64 n, .int .i64 d]] w fun e w' => e = .returned (.agg #[.int .i64 0, .int .i64 0]) ∧ Below w.heap.size w w' := by
  go_enter Try.func65, Try.ntmps65
  go_wp2_with ((with_reducible refine (valid_any _ _ _).mono ?_); rintro e w1 ⟨rfl, hb⟩; obtain ⟨hc, hf⟩ := bcell hb)
  refine bodyPost_ret (v := .agg #[.int .i64 0, .int .i64 0]) (by simp [results, Try.results65, go_sem, hc]) rfl ⟨rfl, ?_⟩
  exact ((((((Below.refl _ _).alloc (Nat.le_refl _) _).alloc (by simp) _).trans (hb.mono (by simp; omega))).setCell (by simp) _).setCell (by simp) _)
theorem check_no (n d : Int) (w : World) (h : fvalid n d = false) :
    Calls Try.prog 65 #[.agg #[.int .i64 n, .int .i64 d]] w fun e w' => e = .returned (.agg #[.int .i64 3, .int .i64 0]) ∧ Below w.heap.size w w' := by
  go_enter Try.func65, Try.ntmps65
  go_wp2_with ((with_reducible refine (valid_any _ _ _).mono ?_); rintro e w1 ⟨rfl, hb⟩; obtain ⟨hc, hf⟩ := bcell hb)
  refine bodyPost_ret (v := .agg #[.int .i64 3, .int .i64 0]) (by simp [results, Try.results65, go_sem, hc]) rfl ⟨rfl, ?_⟩
  have g1 := below_after (a := w) (by go_grown) hb
  go_grown

/-- What Make returns: numerator, denominator, the fault's code. -/
def madeN (num den : Int) : Int := if den = 0 then 0 else if 1073741824 < mag num / Nat.gcd (mag num) (mag den) ∨ 1073741824 < mag den / Nat.gcd (mag num) (mag den) then 0 else if (decide (num < 0) == decide (den < 0)) = true then ((mag num / Nat.gcd (mag num) (mag den) : Nat) : Int) else - ((mag num / Nat.gcd (mag num) (mag den) : Nat) : Int)
def madeD (num den : Int) : Int := if den = 0 then 0 else if 1073741824 < mag num / Nat.gcd (mag num) (mag den) ∨ 1073741824 < mag den / Nat.gcd (mag num) (mag den) then 0 else ((mag den / Nat.gcd (mag num) (mag den) : Nat) : Int)
def madeC (num den : Int) : Int := if den = 0 then 6 else if 1073741824 < mag num / Nat.gcd (mag num) (mag den) ∨ 1073741824 < mag den / Nat.gcd (mag num) (mag den) then 10 else 0
/-- The way in which a call that yields a fraction and a fault ends: nothing that was there has changed. -/
def Gives (n d c i : Int) (w : World) (e : Ending) (w' : World) : Prop := e = .returned (.tuple #[.agg #[.int .i64 n, .int .i64 d], .agg #[.int .i64 c, .int .i64 i]]) ∧ Below w.heap.size w w'

theorem div_wrap (a g x : Nat) (ha : a ≤ 18446744073709551615) (hx : a / g = x) : IntKind.u64.wrap ((a : Int) / (g : Int)) = (x : Int) := by
  have h : a / g ≤ a := Nat.div_le_self a g
  have e : ((a : Int) / (g : Int)) = (x : Int) := by rw [← hx]; simp
  rw [e, IntKind.wrap_u64]; omega

end Go.Proofs.Ytjflfelmiopicaa

