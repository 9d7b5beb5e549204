/-
  The contracts of frac.Check and frac.Make: Make reduces by the greatest common divisor and tells the faults of its chapter.
-/
import Derived.Test.YtjjjgffpmghfgaaFracA
namespace Go.Proofs.Ytjjjgffpmghfgaa
open Go.RowKit

theorem bcell {W w1 : World} (hb : Below W.heap.size W w1) : (∀ b o, b < W.heap.size → w1.cell? ⟨b, o, none⟩ = W.cell? ⟨b, o, none⟩) ∧ (∀ b o, b < W.heap.size → w1.frozen? ⟨b, o, none⟩ = W.frozen? ⟨b, o, none⟩) :=
  ⟨fun b o h => hb.cell (p := ⟨b, o, none⟩) h, fun b o h => hb.frozen (p := ⟨b, o, none⟩) h⟩
theorem bfour {A w : World} (hb : Below A.heap.size A w) : (∀ b o, b < A.heap.size → w.cell? ⟨b, o, none⟩ = A.cell? ⟨b, o, none⟩) ∧ (∀ b o, b < A.heap.size → w.frozen? ⟨b, o, none⟩ = A.frozen? ⟨b, o, none⟩) ∧ (∀ b, b < A.heap.size → b < w.heap.size) ∧ (∀ b, b < A.heap.size → b ≤ w.heap.size) :=
  ⟨(bcell hb).1, (bcell hb).2, fun _ h => Nat.lt_of_lt_of_le h hb.size, fun _ h => Nat.le_of_lt (Nat.lt_of_lt_of_le h hb.size)⟩
def checkC (n d : Int) : Int := if fvalid n d then 0 else 3
theorem checkC_yes {n d : Int} (h : fvalid n d = true) : checkC n d = 0 := by simp [checkC, h]
theorem checkC_no {n d : Int} (h : fvalid n d = false) : checkC n d = 3 := by simp [checkC, h]
theorem check_yes (n d : Int) (w : World) (h : fvalid n d = true) :
    Calls Try.prog 101 #[.agg #[.int .i64 n, .int .i64 d]] w fun e w' => e = .returned (.agg #[.int .i64 0, .int .i64 0]) ∧ Below w.heap.size w w' := by
  go_enter Try.func101, Try.ntmps101
  go_wp2_with ((with_reducible refine (valid_any _ _ _).mono ?_); rintro e w1 ⟨rfl, hb⟩; obtain ⟨hc, hf⟩ := bcell hb)
  refine bodyPost_ret (v := .agg #[.int .i64 0, .int .i64 0]) (by simp [results, Try.results101, go_sem, hc]) rfl ⟨rfl, ?_⟩
  exact ((((((Below.refl _ _).alloc (Nat.le_refl _) _).alloc (by simp) _).trans (hb.mono (by simp; omega))).setCell (by simp) _).setCell (by simp) _)
theorem below_after {a b c : World} (h : Below a.heap.size a b) (k : Below b.heap.size b c) : Below a.heap.size a c := h.trans (k.mono h.size)
theorem check_no (n d : Int) (w : World) (h : fvalid n d = false) :
    Calls Try.prog 101 #[.agg #[.int .i64 n, .int .i64 d]] w fun e w' => e = .returned (.agg #[.int .i64 3, .int .i64 0]) ∧ Below w.heap.size w w' := by
  go_enter Try.func101, Try.ntmps101
  go_wp2_with ((with_reducible refine (valid_any _ _ _).mono ?_); rintro e w1 ⟨rfl, hb⟩; obtain ⟨hc, hf⟩ := bcell hb)
  refine bodyPost_ret (v := .agg #[.int .i64 3, .int .i64 0]) (by simp [results, Try.results101, go_sem, hc]) rfl ⟨rfl, ?_⟩
  have g1 := below_after (a := w) (by go_grown) hb
  go_grown

/-- What Make returns: numerator, denominator, the fault's code. -/
def madeN (num den : Int) : Int := if den = 0 then 0 else if 1073741824 < mag num / Nat.gcd (mag num) (mag den) ∨ 1073741824 < mag den / Nat.gcd (mag num) (mag den) then 0 else if (decide (num < 0) == decide (den < 0)) = true then ((mag num / Nat.gcd (mag num) (mag den) : Nat) : Int) else - ((mag num / Nat.gcd (mag num) (mag den) : Nat) : Int)
def madeD (num den : Int) : Int := if den = 0 then 0 else if 1073741824 < mag num / Nat.gcd (mag num) (mag den) ∨ 1073741824 < mag den / Nat.gcd (mag num) (mag den) then 0 else ((mag den / Nat.gcd (mag num) (mag den) : Nat) : Int)
def madeC (num den : Int) : Int := if den = 0 then 6 else if 1073741824 < mag num / Nat.gcd (mag num) (mag den) ∨ 1073741824 < mag den / Nat.gcd (mag num) (mag den) then 10 else 0
/-- The way in which a call that yields a fraction and a fault ends: nothing that was there has changed. -/
def Gives (n d c i : Int) (w : World) (e : Ending) (w' : World) : Prop := e = .returned (.tuple #[.agg #[.int .i64 n, .int .i64 d], .agg #[.int .i64 c, .int .i64 i]]) ∧ Below w.heap.size w w'

theorem make_zero (num : Int) (w : World) : Calls Try.prog 119 #[.int .i64 num, .int .i64 0] w (Gives 0 0 6 0 w) := by
  go_enter Try.func119, Try.ntmps119
  go_wp2
  refine bodyPost_ret (v := .tuple #[.agg #[.int .i64 0, .int .i64 0], .agg #[.int .i64 6, .int .i64 0]]) (by simp [results, Try.results119, go_sem]) rfl ⟨rfl, ?_⟩
  go_grown
theorem div_wrap (a g x : Nat) (ha : a ≤ 18446744073709551615) (hx : a / g = x) : IntKind.u64.wrap ((a : Int) / (g : Int)) = (x : Int) := by
  have h : a / g ≤ a := Nat.div_le_self a g
  have e : ((a : Int) / (g : Int)) = (x : Int) := by rw [← hx]; simp
  rw [e, IntKind.wrap_u64]; omega

set_option maxHeartbeats 1000000 in
theorem make_much (num den : Int) (x y : Nat) (h1 : -9223372036854775808 ≤ num) (h2 : num ≤ 9223372036854775807) (h3 : -9223372036854775808 ≤ den) (h4 : den ≤ 9223372036854775807) (hd : den ≠ 0)
    (hx : mag num / Nat.gcd (mag num) (mag den) = x) (hy : mag den / Nat.gcd (mag num) (mag den) = y) (hxy : 1073741824 < x ∨ 1073741824 < y) (w : World) :
    Calls Try.prog 119 #[.int .i64 num, .int .i64 den] w (Gives 0 0 10 0 w) := by
  have hm1 := mag_le num h1 h2
  have hm2 := mag_le den h3 h4
  have hg : 0 < Nat.gcd (mag num) (mag den) := by
    apply Nat.pos_of_ne_zero; intro h; rw [Nat.gcd_eq_zero_iff] at h; unfold mag at h; omega
  have ex := div_wrap _ _ _ hm1 hx
  have ey := div_wrap _ _ _ hm2 hy
  clear hx hy
  by_cases hb : 1073741824 < x
  · clear hxy
    have hb1 : decide (1073741824 < (x : Int)) = true := by simp; omega
    go_enter Try.func119, Try.ntmps119
    go_wp2_with (first | ((with_reducible refine (size_any _ ?_ ?_ _).mono ?_); (iterate 2 assumption); rintro e w1 ⟨rfl, rfl⟩) | ((with_reducible refine (divisor_any _ _ ?_ ?_ _).mono ?_); (iterate 2 assumption); rintro e w1 ⟨rfl, nd, rfl⟩))
    go_quiet (fail)
    go_wp2
    refine bodyPost_ret (v := .tuple #[.agg #[.int .i64 0, .int .i64 0], .agg #[.int .i64 10, .int .i64 0]]) (by simp [results, Try.results119, go_sem]) rfl ⟨rfl, ?_⟩
    go_grown
    refine below_drewN ?_ _
    go_grown
  · have hb1 : decide (1073741824 < (x : Int)) = false := by simp; omega
    have hb2 : decide (1073741824 < (y : Int)) = true := by simp; omega
    clear hxy
    go_enter Try.func119, Try.ntmps119
    go_wp2_with (first | ((with_reducible refine (size_any _ ?_ ?_ _).mono ?_); (iterate 2 assumption); rintro e w1 ⟨rfl, rfl⟩) | ((with_reducible refine (divisor_any _ _ ?_ ?_ _).mono ?_); (iterate 2 assumption); rintro e w1 ⟨rfl, nd, rfl⟩))
    go_quiet (fail)
    go_wp2
    refine bodyPost_ret (v := .tuple #[.agg #[.int .i64 0, .int .i64 0], .agg #[.int .i64 10, .int .i64 0]]) (by simp [results, Try.results119, go_sem]) rfl ⟨rfl, ?_⟩
    go_grown
    refine below_drewN ?_ _
    go_grown

set_option maxHeartbeats 1000000 in
theorem make_fits (num den : Int) (x y : Nat) (h1 : -9223372036854775808 ≤ num) (h2 : num ≤ 9223372036854775807) (h3 : -9223372036854775808 ≤ den) (h4 : den ≤ 9223372036854775807) (hd : den ≠ 0)
    (hx : mag num / Nat.gcd (mag num) (mag den) = x) (hy : mag den / Nat.gcd (mag num) (mag den) = y) (hx1 : x ≤ 1073741824) (hy1 : y ≤ 1073741824) (w : World) :
    Calls Try.prog 119 #[.int .i64 num, .int .i64 den] w (Gives (if (decide (num < 0) == decide (den < 0)) = true then x else -x) y 0 0 w) := by
  have hm1 := mag_le num h1 h2
  have hm2 := mag_le den h3 h4
  have hg : 0 < Nat.gcd (mag num) (mag den) := by
    apply Nat.pos_of_ne_zero; intro h; rw [Nat.gcd_eq_zero_iff] at h; unfold mag at h; omega
  have ex := div_wrap _ _ _ hm1 hx
  have ey := div_wrap _ _ _ hm2 hy
  clear hx hy
  have hb1 : decide (1073741824 < (x : Int)) = false := by simp; omega
  have hb2 : decide (1073741824 < (y : Int)) = false := by simp; omega
  by_cases hs : (decide (num < 0) == decide (den < 0)) = true
  · rw [if_pos hs]
    have hs' : (!decide (num < 0) == decide (den < 0)) = false := by rw [hs]; rfl
    go_enter Try.func119, Try.ntmps119
    go_wp2_with (first | ((with_reducible refine (size_any _ ?_ ?_ _).mono ?_); (iterate 2 assumption); rintro e w1 ⟨rfl, rfl⟩) | ((with_reducible refine (divisor_any _ _ ?_ ?_ _).mono ?_); (iterate 2 assumption); rintro e w1 ⟨rfl, nd, rfl⟩))
    go_quiet (fail)
    go_wp2
    refine bodyPost_ret (v := .tuple #[.agg #[.int .i64 x, .int .i64 y], .agg #[.int .i64 0, .int .i64 0]]) (by simp [results, Try.results119, go_sem]) rfl ⟨rfl, ?_⟩
    go_grown
    refine below_drewN ?_ _
    go_grown
  · rw [if_neg hs]
    have hs' : (!decide (num < 0) == decide (den < 0)) = true := by simpa using hs
    go_enter Try.func119, Try.ntmps119
    go_wp2_with (first | ((with_reducible refine (size_any _ ?_ ?_ _).mono ?_); (iterate 2 assumption); rintro e w1 ⟨rfl, rfl⟩) | ((with_reducible refine (divisor_any _ _ ?_ ?_ _).mono ?_); (iterate 2 assumption); rintro e w1 ⟨rfl, nd, rfl⟩))
    go_quiet (fail)
    go_wp2
    refine bodyPost_ret (v := .tuple #[.agg #[.int .i64 (-x), .int .i64 y], .agg #[.int .i64 0, .int .i64 0]]) (by simp [results, Try.results119, go_sem]) rfl ⟨rfl, ?_⟩
    go_grown
    refine below_drewN ?_ _
    go_grown

theorem make_any (num den : Int) (h1 : -9223372036854775808 ≤ num) (h2 : num ≤ 9223372036854775807) (h3 : -9223372036854775808 ≤ den) (h4 : den ≤ 9223372036854775807) (w : World) :
    Calls Try.prog 119 #[.int .i64 num, .int .i64 den] w (Gives (madeN num den) (madeD num den) (madeC num den) 0 w) := by
  unfold madeN madeD madeC
  by_cases hd : den = 0
  · subst hd; simpa using make_zero num w
  · rw [if_neg hd, if_neg hd, if_neg hd]
    by_cases hx : 1073741824 < mag num / Nat.gcd (mag num) (mag den) ∨ 1073741824 < mag den / Nat.gcd (mag num) (mag den)
    · rw [if_pos hx, if_pos hx, if_pos hx]
      exact make_much num den _ _ h1 h2 h3 h4 hd rfl rfl hx w
    · rw [if_neg hx, if_neg hx, if_neg hx]
      exact make_fits num den _ _ h1 h2 h3 h4 hd rfl rfl (by omega) (by omega) w
end Go.Proofs.Ytjjjgffpmghfgaa

