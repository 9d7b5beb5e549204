/-
  The contracts of frac's small functions: divisor is the greatest common divisor, size is the magnitude, valid tells whether a fraction is in lowest terms and within the bounds.
  The contracts of frac.Check and frac.Make: Make reduces by the greatest common divisor and tells the faults of its chapter.
  Worlds: is it a value of a sort?
  Worlds: is it a value of a sort? Numbers, arrays.
-/
import Derived.Test.YtibpgcdaommjeaaRows
import Derived.WalkKit
import Derived.WalkSpells
import Derived.WalkLawsBesides
import Derived.Handy
import Derived.Deep.QuietTactic
import Derived.BigQuiet
import Derived.IntWalk
import Derived.Test.YtibpgcdaommjeaaG01
namespace Go.Proofs.Ytibpgcdaommjeaa
open Go.RowKit

theorem gcd_step (p q : Nat) : Nat.gcd q (p % q) = Nat.gcd p q := by
  rw [Nat.gcd_comm q (p % q), ← Nat.gcd_rec, Nat.gcd_comm]

set_option maxHeartbeats 400000 in
theorem divisor_any (a b : Nat) (ha : a ≤ 18446744073709551615) (hb : b ≤ 18446744073709551615) (w : World) :
    Calls Try.prog 98 #[.int .u64 a, .int .u64 b] w fun e w' => e = .returned (.int .u64 (Nat.gcd a b : Nat)) ∧ ∃ n, w' = w.drewN n := by
  go_enter Try.func98, Try.ntmps98
  go_wp2
  go_loopw [0, 1] (fun x y wr => ∃ p q n : Nat, p ≤ 18446744073709551615 ∧ q ≤ 18446744073709551615 ∧ x = .int .u64 p ∧ y = .int .u64 q ∧ Nat.gcd p q = Nat.gcd a b ∧ wr = w.drewN n) (fun _ y _ => (intOf y).toNat)
  case atStart => exact ⟨a, b, 0, ha, hb, rfl, rfl, rfl, rfl⟩
  case round =>
    obtain ⟨p, q, n, hp, hq, rfl, rfl, hg, rfl⟩ := hrel
    have hs := gcd_step p q
    have HG : Hid (Nat.gcd p q = Nat.gcd a b) := hg
    have HS : Hid (Nat.gcd q (p % q) = Nat.gcd p q) := hs
    clear hg hs
    by_cases hz : 0 < q
    · have hm : p % q < q := Nat.mod_lt _ hz
      go_wp2
      go_quiet (fail)
      go_wp2
      go_roundw
      case rel => exact ⟨q, p % q, _, hq, by omega, rfl, by go_num, HS.out.trans HG.out, World.drewN_drewN _ _ _⟩
      case measure => simp [intOf]; omega
    · obtain rfl : q = 0 := by omega
      go_wp2
      go_ret
      have e := HG.out
      rw [Nat.gcd_zero_right] at e
      exact ⟨by rw [e]; rfl, n, rfl⟩

theorem below_drewN {B : Nat} {a w : World} (h : Below B a w) (n : Nat) : Below B a (w.drewN n) := ⟨h.os, h.tape, h.output, h.size, h.block⟩
def mag (n : Int) : Nat := n.natAbs
theorem mag_le (n : Int) (h1 : -9223372036854775808 ≤ n) (h2 : n ≤ 9223372036854775807) : mag n ≤ 18446744073709551615 := by unfold mag; omega
theorem size_neg (n : Int) (h1 : -9223372036854775808 ≤ n) (h : n < 0) : IntKind.u64.wrap (-IntKind.u64.wrap n) = (mag n : Int) := by
  have e1 : IntKind.u64.wrap n = n + 18446744073709551616 := by rw [IntKind.wrap_u64]; omega
  rw [e1, IntKind.wrap_u64]; unfold mag; omega
theorem size_pos (n : Int) (h : 0 ≤ n) : n = (mag n : Int) := by unfold mag; omega
theorem ret_int {k : IntKind} {a b : Int} (h : a = b) : Ending.returned (.int k a) = .returned (.int k b) := by rw [h]
theorem ret_bool {a b : Bool} (h : a = b) : Ending.returned (.bool a) = .returned (.bool b) := by rw [h]
set_option maxHeartbeats 400000 in
theorem size_any (n : Int) (h1 : -9223372036854775808 ≤ n) (h2 : n ≤ 9223372036854775807) (w : World) :
    Calls Try.prog 97 #[.int .i64 n] w fun e w' => e = .returned (.int .u64 (mag n : Nat)) ∧ w = w' := by
  by_cases h : n < 0
  · go_enter Try.func97, Try.ntmps97
    go_wp2
    go_ret
    exact ⟨ret_int (size_neg n h1 h), rfl⟩
  · go_enter Try.func97, Try.ntmps97
    go_wp2
    go_ret
    exact ⟨ret_int (size_pos n (by omega)), rfl⟩

def fvalid (n d : Int) : Bool := decide (1 ≤ d ∧ d ≤ 1073741824 ∧ -1073741824 ≤ n ∧ n ≤ 1073741824 ∧ Nat.gcd (mag n) (mag d) = 1)
theorem fvalid_no {n d : Int} (h : ¬ (1 ≤ d ∧ d ≤ 1073741824 ∧ -1073741824 ≤ n ∧ n ≤ 1073741824)) : false = fvalid n d := by
  unfold fvalid; symm; rw [decide_eq_false_iff_not]; intro ⟨a, b, c, e, _⟩; exact h ⟨a, b, c, e⟩
theorem fvalid_yes {n d : Int} (h1 : 1 ≤ d) (h2 : d ≤ 1073741824) (h3 : -1073741824 ≤ n) (h4 : n ≤ 1073741824) : ((Nat.gcd (mag n) (mag d) : Int) == 1) = fvalid n d := by
  unfold fvalid; simp only [h1, h2, h3, h4, true_and]; rw [Bool.eq_iff_iff]; simp; omega

set_option maxHeartbeats 400000 in
theorem valid_any (n d : Int) (w : World) :
    Calls Try.prog 96 #[.agg #[.int .i64 n, .int .i64 d]] w fun e w' => e = .returned (.bool (fvalid n d)) ∧ Below w.heap.size w w' := by
  by_cases h1 : 1 ≤ d
  · by_cases h2 : d ≤ 1073741824
    · by_cases h3 : -1073741824 ≤ n
      · by_cases h4 : n ≤ 1073741824
        · have hm1 := mag_le n (by omega) (by omega)
          have hm2 := mag_le d (by omega) (by omega)
          go_enter Try.func96, Try.ntmps96
          go_wp2
          go_quiet ((first | (go_at_call 97; refine Calls.quiet_of_same ((size_any _ (by omega) (by omega) _).mono fun _ _ h => ⟨h.1, h.2.symm⟩)) | (go_at_call 98; exact Calls.quiet_of (divisor_any _ _ (by assumption) (by assumption) _))))
          go_wp2
          go_ret
          exact ⟨ret_bool (fvalid_yes h1 h2 h3 h4), below_drewN ((Below.refl _ _).alloc (Nat.le_refl _) _) _⟩
        · have hd : decide (n ≤ 1073741824) = false := by simpa using h4
          go_enter Try.func96, Try.ntmps96
          go_wp2
          go_quiet (fail)
          go_wp2
          go_ret
          exact ⟨ret_bool (fvalid_no (by omega)), below_drewN ((Below.refl _ _).alloc (Nat.le_refl _) _) _⟩
      · have hd : decide (-1073741824 ≤ n) = false := by simpa using h3
        go_enter Try.func96, Try.ntmps96
        go_wp2
        go_quiet (fail)
        go_wp2
        go_ret
        exact ⟨ret_bool (fvalid_no (by omega)), below_drewN ((Below.refl _ _).alloc (Nat.le_refl _) _) _⟩
    · have hd : decide (d ≤ 1073741824) = false := by simpa using h2
      go_enter Try.func96, Try.ntmps96
      go_wp2
      go_quiet (fail)
      go_wp2
      go_ret
      exact ⟨ret_bool (fvalid_no (by omega)), below_drewN ((Below.refl _ _).alloc (Nat.le_refl _) _) _⟩
  · have hd : decide (1 ≤ d) = false := by simpa using h1
    go_enter Try.func96, Try.ntmps96
    go_wp2
    go_quiet (fail)
    go_wp2
    go_ret
    exact ⟨ret_bool (fvalid_no (by omega)), below_drewN ((Below.refl _ _).alloc (Nat.le_refl _) _) _⟩
end Go.Proofs.Ytibpgcdaommjeaa
namespace Go.Proofs.Ytibpgcdaommjeaa
open Go.RowKit

theorem bcell {W w1 : World} (hb : Below W.heap.size W w1) : (∀ b o, b < W.heap.size → w1.cell? ⟨b, o, none⟩ = W.cell? ⟨b, o, none⟩) ∧ (∀ b o, b < W.heap.size → w1.frozen? ⟨b, o, none⟩ = W.frozen? ⟨b, o, none⟩) :=
  ⟨fun b o h => hb.cell (p := ⟨b, o, none⟩) h, fun b o h => hb.frozen (p := ⟨b, o, none⟩) h⟩
theorem bfour {A w : World} (hb : Below A.heap.size A w) : (∀ b o, b < A.heap.size → w.cell? ⟨b, o, none⟩ = A.cell? ⟨b, o, none⟩) ∧ (∀ b o, b < A.heap.size → w.frozen? ⟨b, o, none⟩ = A.frozen? ⟨b, o, none⟩) ∧ (∀ b, b < A.heap.size → b < w.heap.size) ∧ (∀ b, b < A.heap.size → b ≤ w.heap.size) :=
  ⟨(bcell hb).1, (bcell hb).2, fun _ h => Nat.lt_of_lt_of_le h hb.size, fun _ h => Nat.le_of_lt (Nat.lt_of_lt_of_le h hb.size)⟩
def checkC (n d : Int) : Int := if fvalid n d then 0 else 3
theorem checkC_yes {n d : Int} (h : fvalid n d = true) : checkC n d = 0 := by simp [checkC, h]
theorem checkC_no {n d : Int} (h : fvalid n d = false) : checkC n d = 3 := by simp [checkC, h]
theorem check_yes (n d : Int) (w : World) (h : fvalid n d = true) :
    Calls Try.prog 92 #[.agg #[.int .i64 n, .int .i64 d]] w fun e w' => e = .returned (.agg #[.int .i64 0, .int .i64 0]) ∧ Below w.heap.size w w' := by
  go_enter Try.func92, Try.ntmps92
  go_wp2_with ((with_reducible refine (valid_any _ _ _).mono ?_); rintro e w1 ⟨rfl, hb⟩; obtain ⟨hc, hf⟩ := bcell hb)
  refine bodyPost_ret (v := .agg #[.int .i64 0, .int .i64 0]) (by simp [results, Try.results92, go_sem, hc]) rfl ⟨rfl, ?_⟩
  exact ((((((Below.refl _ _).alloc (Nat.le_refl _) _).alloc (by simp) _).trans (hb.mono (by simp; omega))).setCell (by simp) _).setCell (by simp) _)
theorem check_no (n d : Int) (w : World) (h : fvalid n d = false) :
    Calls Try.prog 92 #[.agg #[.int .i64 n, .int .i64 d]] w fun e w' => e = .returned (.agg #[.int .i64 3, .int .i64 0]) ∧ Below w.heap.size w w' := by
  go_enter Try.func92, Try.ntmps92
  go_wp2_with ((with_reducible refine (valid_any _ _ _).mono ?_); rintro e w1 ⟨rfl, hb⟩; obtain ⟨hc, hf⟩ := bcell hb)
  refine bodyPost_ret (v := .agg #[.int .i64 3, .int .i64 0]) (by simp [results, Try.results92, go_sem, hc]) rfl ⟨rfl, ?_⟩
  have g1 := below_after (a := w) (by go_grown) hb
  go_grown

/-- What Make returns: numerator, denominator, the fault's code. -/
def madeN (num den : Int) : Int := if den = 0 then 0 else if 1073741824 < mag num / Nat.gcd (mag num) (mag den) ∨ 1073741824 < mag den / Nat.gcd (mag num) (mag den) then 0 else if (decide (num < 0) == decide (den < 0)) = true then ((mag num / Nat.gcd (mag num) (mag den) : Nat) : Int) else - ((mag num / Nat.gcd (mag num) (mag den) : Nat) : Int)
def madeD (num den : Int) : Int := if den = 0 then 0 else if 1073741824 < mag num / Nat.gcd (mag num) (mag den) ∨ 1073741824 < mag den / Nat.gcd (mag num) (mag den) then 0 else ((mag den / Nat.gcd (mag num) (mag den) : Nat) : Int)
def madeC (num den : Int) : Int := if den = 0 then 6 else if 1073741824 < mag num / Nat.gcd (mag num) (mag den) ∨ 1073741824 < mag den / Nat.gcd (mag num) (mag den) then 10 else 0
/-- The way in which a call that yields a fraction and a fault ends: nothing that was there has changed. -/
def Gives (n d c i : Int) (w : World) (e : Ending) (w' : World) : Prop := e = .returned (.tuple #[.agg #[.int .i64 n, .int .i64 d], .agg #[.int .i64 c, .int .i64 i]]) ∧ Below w.heap.size w w'

theorem make_zero (num : Int) (w : World) : Calls Try.prog 85 #[.int .i64 num, .int .i64 0] w (Gives 0 0 6 0 w) := by
  go_enter Try.func85, Try.ntmps85
  go_wp2
  refine bodyPost_ret (v := .tuple #[.agg #[.int .i64 0, .int .i64 0], .agg #[.int .i64 6, .int .i64 0]]) (by simp [results, Try.results85, go_sem]) rfl ⟨rfl, ?_⟩
  go_grown
theorem div_wrap (a g x : Nat) (ha : a ≤ 18446744073709551615) (hx : a / g = x) : IntKind.u64.wrap ((a : Int) / (g : Int)) = (x : Int) := by
  have h : a / g ≤ a := Nat.div_le_self a g
  have e : ((a : Int) / (g : Int)) = (x : Int) := by rw [← hx]; simp
  rw [e, IntKind.wrap_u64]; omega

set_option maxHeartbeats 1000000 in
theorem make_much (num den : Int) (x y : Nat) (h1 : -9223372036854775808 ≤ num) (h2 : num ≤ 9223372036854775807) (h3 : -9223372036854775808 ≤ den) (h4 : den ≤ 9223372036854775807) (hd : den ≠ 0)
    (hx : mag num / Nat.gcd (mag num) (mag den) = x) (hy : mag den / Nat.gcd (mag num) (mag den) = y) (hxy : 1073741824 < x ∨ 1073741824 < y) (w : World) :
    Calls Try.prog 85 #[.int .i64 num, .int .i64 den] w (Gives 0 0 10 0 w) := by
  have hm1 := mag_le num h1 h2
  have hm2 := mag_le den h3 h4
  have hg : 0 < Nat.gcd (mag num) (mag den) := by
    apply Nat.pos_of_ne_zero; intro h; rw [Nat.gcd_eq_zero_iff] at h; unfold mag at h; omega
  have ex := div_wrap _ _ _ hm1 hx
  have ey := div_wrap _ _ _ hm2 hy
  clear hx hy
  by_cases hb : 1073741824 < x
  · clear hxy
    have hb1 : decide (1073741824 < (x : Int)) = true := by simp; omega
    go_enter Try.func85, Try.ntmps85
    go_wp2_with (first | ((with_reducible refine (size_any _ ?_ ?_ _).mono ?_); (iterate 2 assumption); rintro e w1 ⟨rfl, rfl⟩) | ((with_reducible refine (divisor_any _ _ ?_ ?_ _).mono ?_); (iterate 2 assumption); rintro e w1 ⟨rfl, nd, rfl⟩))
    go_quiet (fail)
    go_wp2
    refine bodyPost_ret (v := .tuple #[.agg #[.int .i64 0, .int .i64 0], .agg #[.int .i64 10, .int .i64 0]]) (by simp [results, Try.results85, go_sem]) rfl ⟨rfl, ?_⟩
    go_grown
    refine below_drewN ?_ _
    go_grown
  · have hb1 : decide (1073741824 < (x : Int)) = false := by simp; omega
    have hb2 : decide (1073741824 < (y : Int)) = true := by simp; omega
    clear hxy
    go_enter Try.func85, Try.ntmps85
    go_wp2_with (first | ((with_reducible refine (size_any _ ?_ ?_ _).mono ?_); (iterate 2 assumption); rintro e w1 ⟨rfl, rfl⟩) | ((with_reducible refine (divisor_any _ _ ?_ ?_ _).mono ?_); (iterate 2 assumption); rintro e w1 ⟨rfl, nd, rfl⟩))
    go_quiet (fail)
    go_wp2
    refine bodyPost_ret (v := .tuple #[.agg #[.int .i64 0, .int .i64 0], .agg #[.int .i64 10, .int .i64 0]]) (by simp [results, Try.results85, go_sem]) rfl ⟨rfl, ?_⟩
    go_grown
    refine below_drewN ?_ _
    go_grown

set_option maxHeartbeats 1000000 in
theorem make_fits (num den : Int) (x y : Nat) (h1 : -9223372036854775808 ≤ num) (h2 : num ≤ 9223372036854775807) (h3 : -9223372036854775808 ≤ den) (h4 : den ≤ 9223372036854775807) (hd : den ≠ 0)
    (hx : mag num / Nat.gcd (mag num) (mag den) = x) (hy : mag den / Nat.gcd (mag num) (mag den) = y) (hx1 : x ≤ 1073741824) (hy1 : y ≤ 1073741824) (w : World) :
    Calls Try.prog 85 #[.int .i64 num, .int .i64 den] w (Gives (if (decide (num < 0) == decide (den < 0)) = true then x else -x) y 0 0 w) := by
  have hm1 := mag_le num h1 h2
  have hm2 := mag_le den h3 h4
  have hg : 0 < Nat.gcd (mag num) (mag den) := by
    apply Nat.pos_of_ne_zero; intro h; rw [Nat.gcd_eq_zero_iff] at h; unfold mag at h; omega
  have ex := div_wrap _ _ _ hm1 hx
  have ey := div_wrap _ _ _ hm2 hy
  clear hx hy
  have hb1 : decide (1073741824 < (x : Int)) = false := by simp; omega
  have hb2 : decide (1073741824 < (y : Int)) = false := by simp; omega
  by_cases hs : (decide (num < 0) == decide (den < 0)) = true
  · rw [if_pos hs]
    have hs' : (!decide (num < 0) == decide (den < 0)) = false := by rw [hs]; rfl
    go_enter Try.func85, Try.ntmps85
    go_wp2_with (first | ((with_reducible refine (size_any _ ?_ ?_ _).mono ?_); (iterate 2 assumption); rintro e w1 ⟨rfl, rfl⟩) | ((with_reducible refine (divisor_any _ _ ?_ ?_ _).mono ?_); (iterate 2 assumption); rintro e w1 ⟨rfl, nd, rfl⟩))
    go_quiet (fail)
    go_wp2
    refine bodyPost_ret (v := .tuple #[.agg #[.int .i64 x, .int .i64 y], .agg #[.int .i64 0, .int .i64 0]]) (by simp [results, Try.results85, go_sem]) rfl ⟨rfl, ?_⟩
    go_grown
    refine below_drewN ?_ _
    go_grown
  · rw [if_neg hs]
    have hs' : (!decide (num < 0) == decide (den < 0)) = true := by simpa using hs
    go_enter Try.func85, Try.ntmps85
    go_wp2_with (first | ((with_reducible refine (size_any _ ?_ ?_ _).mono ?_); (iterate 2 assumption); rintro e w1 ⟨rfl, rfl⟩) | ((with_reducible refine (divisor_any _ _ ?_ ?_ _).mono ?_); (iterate 2 assumption); rintro e w1 ⟨rfl, nd, rfl⟩))
    go_quiet (fail)
    go_wp2
    refine bodyPost_ret (v := .tuple #[.agg #[.int .i64 (-x), .int .i64 y], .agg #[.int .i64 0, .int .i64 0]]) (by simp [results, Try.results85, go_sem]) rfl ⟨rfl, ?_⟩
    go_grown
    refine below_drewN ?_ _
    go_grown

theorem make_any (num den : Int) (h1 : -9223372036854775808 ≤ num) (h2 : num ≤ 9223372036854775807) (h3 : -9223372036854775808 ≤ den) (h4 : den ≤ 9223372036854775807) (w : World) :
    Calls Try.prog 85 #[.int .i64 num, .int .i64 den] w (Gives (madeN num den) (madeD num den) (madeC num den) 0 w) := by
  unfold madeN madeD madeC
  by_cases hd : den = 0
  · subst hd; simpa using make_zero num w
  · rw [if_neg hd, if_neg hd, if_neg hd]
    by_cases hx : 1073741824 < mag num / Nat.gcd (mag num) (mag den) ∨ 1073741824 < mag den / Nat.gcd (mag num) (mag den)
    · rw [if_pos hx, if_pos hx, if_pos hx]
      exact make_much num den _ _ h1 h2 h3 h4 hd rfl rfl hx w
    · rw [if_neg hx, if_neg hx, if_neg hx]
      exact make_fits num den _ _ h1 h2 h3 h4 hd rfl rfl (by omega) (by omega) w
end Go.Proofs.Ytibpgcdaommjeaa
namespace Go.Proofs.Ytibpgcdaommjeaa
open Go.RowKit

/-- No thing's number. -/
def nTh (z : Int) : Bool := decide (z < 0) || decide (1000 < z)
theorem nothing_any (z : Int) (w : World) : Calls Try.prog 43 #[.int .i64 z] w fun e w' => e = .returned (.bool (nTh z)) ∧ w' = w := by
  by_cases h1 : z < 0
  · have d1 : decide (z < 0) = true := by simpa using h1
    rw [show nTh z = true by unfold nTh; rw [d1]; rfl]
    clear h1
    go_enter Try.func43, Try.ntmps43
    go_wp2_with fail
    go_ret
    exact ⟨rfl, rfl⟩
  · have d1 : decide (z < 0) = false := by simpa using h1
    rw [show nTh z = decide (1000 < z) by unfold nTh; rw [d1]; rfl]
    clear h1
    go_enter Try.func43, Try.ntmps43
    go_wp2_with fail
    go_ret
    exact ⟨rfl, rfl⟩
/-- How many values a sort of words has. -/
def mds (s : Int) : Int := 2 ^ (s - 10).toNat
theorem mds_cases {s : Int} (h : 11 ≤ s ∧ s ≤ 18) : s = 11 ∧ mds s = 2 ∨ s = 12 ∧ mds s = 4 ∨ s = 13 ∧ mds s = 8 ∨ s = 14 ∧ mds s = 16 ∨ s = 15 ∧ mds s = 32 ∨ s = 16 ∧ mds s = 64 ∨ s = 17 ∧ mds s = 128 ∨ s = 18 ∧ mds s = 256 := by
  have : s = 11 ∨ s = 12 ∨ s = 13 ∨ s = 14 ∨ s = 15 ∨ s = 16 ∨ s = 17 ∨ s = 18 := by omega
  rcases this with rfl | rfl | rfl | rfl | rfl | rfl | rfl | rfl <;> simp [mds] <;> decide
theorem modulus_any (s : Int) (h : 11 ≤ s ∧ s ≤ 18) (w : World) : Calls Try.prog 37 #[.int .i64 s] w fun e w' => e = .returned (.int .i64 (mds s)) ∧ w' = w := by
  rcases mds_cases h with ⟨rfl, h2⟩ | ⟨rfl, h2⟩ | ⟨rfl, h2⟩ | ⟨rfl, h2⟩ | ⟨rfl, h2⟩ | ⟨rfl, h2⟩ | ⟨rfl, h2⟩ | ⟨rfl, h2⟩
  all_goals
    rw [h2]
    clear h h2
    go_enter Try.func37, Try.ntmps37
    go_wp2_with fail
    go_ret
    exact ⟨rfl, rfl⟩
/-- The sorts. -/
def okSo (s : Int) : Prop := (1 ≤ s ∧ s ≤ 5) ∨ (11 ≤ s ∧ s ≤ 18)
/-- The greatest number of Bools, things and words. -/
def grt (s : Int) : Int := if s = 1 then 1 else if s = 4 then 1000 else mds s - 1
theorem greatest_any (s : Int) (h : s = 1 ∨ s = 4 ∨ (11 ≤ s ∧ s ≤ 18)) (w : World) : Calls Try.prog 93 #[.int .i64 s] w fun e w' => e = .returned (.int .i64 (grt s)) ∧ w' = w := by
  rcases h with rfl | rfl | h
  · go_enter Try.func93, Try.ntmps93
    go_wp2_with fail
    go_ret
    exact ⟨rfl, rfl⟩
  · go_enter Try.func93, Try.ntmps93
    go_wp2_with fail
    go_ret
    exact ⟨rfl, rfl⟩
  · have t1 : (s == 1) = false := by simp; omega
    have t4 : (s == 4) = false := by simp; omega
    have HM := Lib.hid (modulus_any s h w)
    have hm : 2 ≤ mds s ∧ mds s ≤ 256 := by rcases mds_cases h with ⟨_, h2⟩ | ⟨_, h2⟩ | ⟨_, h2⟩ | ⟨_, h2⟩ | ⟨_, h2⟩ | ⟨_, h2⟩ | ⟨_, h2⟩ | ⟨_, h2⟩ <;> omega
    obtain ⟨m1, m2⟩ := hm
    have HG : Hid (grt s = mds s - 1) := Lib.hid (by unfold grt; rw [if_neg (by omega), if_neg (by omega)])
    clear h
    generalize mds s = m at *
    go_enter Try.func93, Try.ntmps93
    go_wp2_with fail
    refine HM.out.mono ?_
    rintro e w1 ⟨rfl, rfl⟩
    go_wp2_with fail
    go_ret
    exact ⟨by rw [HG.out]; rfl, rfl⟩
/-- Cells in their form. -/
def okCs (rest : Int) : Int → List (Int × Int) → Bool
  | _, [] => true
  | last, c :: r => !decide (c.1 ≤ last) && !nTh c.1 && !nTh c.2 && !(c.2 == rest) && okCs rest c.1 r
theorem drop_cn {cs : List (Int × Int)} {i : Nat} (h : i < cs.length) : cs.drop i = cn cs i :: cs.drop (i + 1) := by
  rw [List.drop_eq_getElem_cons h]
  simp [cn, h]
theorem wf64_iff {z : Int} : wf64 z ↔ -9223372036854775808 ≤ z ∧ z ≤ 9223372036854775807 := by
  exact ⟨fun h => Go.bounds_i64 h, fun h => WalkArith.wf_i64 h⟩
set_option maxHeartbeats 2000000 in
theorem arecells_any (cs : List (Int × Int)) (A : Option Addr) (c : Nat) (rest : Int) (hl : cs.length ≤ maxLen) (w : World) (h : CsAt w A cs) :
    Calls Try.prog 70 #[.slice A cs.length c, .int .i64 rest] w fun e w' => e = .returned (.bool (okCs rest (-1) cs)) ∧ Below w.heap.size w w' := by
  have HA := Lib.hid h
  unfold maxLen at hl
  generalize hL : cs.length = L at *
  have HL := Lib.hid hL
  clear h hL
  go_enter Try.func70, Try.ntmps70
  go_wp2_with fail
  go_loopw [5, 10] (fun l k wr => ∃ (i : Nat) (last : Int), i ≤ L ∧ k = .int .i64 i ∧ l = .int .i64 last ∧ Hid (okCs rest (-1) cs = okCs rest last (cs.drop i)) ∧ Hid (Below w.heap.size w wr)) (fun _ k _ => L - (intOf k).toNat)
  case atStart => exact ⟨0, -1, by omega, rfl, rfl, Lib.hid rfl, Below.refl _ _⟩
  case round =>
    obtain ⟨i, last, hi, rfl, rfl, HE, HB⟩ := hrel
    by_cases hlt : i < L
    · obtain ⟨b, o, rfl, hb, c0, c1⟩ := cs_at (i := i) (HA.out.below HB.out) (by rw [HL.out]; exact hlt)
      have t3 : decide ((i : Int) < L) = true := by simpa using hlt
      have HE2 : Hid (okCs rest (-1) cs = (!decide ((cn cs i).1 ≤ last) && !nTh (cn cs i).1 && !nTh (cn cs i).2 && !((cn cs i).2 == rest) && okCs rest (cn cs i).1 (cs.drop (i + 1)))) := Lib.hid (by rw [HE.out, drop_cn (by rw [HL.out]; exact hlt)]; rfl)
      clear HE
      generalize (cn cs i).1 = x at *
      generalize (cn cs i).2 = y at *
      have HN1 := Lib.hid (fun W => nothing_any x W)
      have HN2 := Lib.hid (fun W => nothing_any y W)
      cases d1 : decide (x ≤ last) with
      | true =>
        have HF : Hid (okCs rest (-1) cs = false) := Lib.hid (by rw [HE2.out, d1]; rfl)
        clear HE2
        go_wp2_with fail
        go_ret
        exact ⟨by rw [HF.out]; rfl, below_after HB.out (new_below _ _)⟩
      | false =>
        cases d2 : nTh x with
        | true =>
          have HF : Hid (okCs rest (-1) cs = false) := Lib.hid (by rw [HE2.out, d1, d2]; rfl)
          have D2 := Lib.hid d2
          clear HE2 d2
          go_wp2_with fail
          refine (HN1.out _).mono ?_
          rintro e w1 ⟨rfl, rfl⟩
          rw [D2.out]
          go_wp2_with fail
          go_ret
          exact ⟨by rw [HF.out]; rfl, below_after HB.out (new_below _ _)⟩
        | false =>
          cases d3 : nTh y with
          | true =>
            have HF : Hid (okCs rest (-1) cs = false) := Lib.hid (by rw [HE2.out, d1, d2, d3]; rfl)
            have D2 := Lib.hid d2
            have D3 := Lib.hid d3
            clear HE2 d2 d3
            go_wp2_with fail
            refine (HN1.out _).mono ?_
            rintro e w1 ⟨rfl, rfl⟩
            rw [D2.out]
            go_wp2_with fail
            refine (HN2.out _).mono ?_
            rintro e w1 ⟨rfl, rfl⟩
            rw [D3.out]
            go_wp2_with fail
            go_ret
            exact ⟨by rw [HF.out]; rfl, below_after HB.out (new_below _ _)⟩
          | false =>
            cases d4 : y == rest with
            | true =>
              have HF : Hid (okCs rest (-1) cs = false) := Lib.hid (by rw [HE2.out, d1, d2, d3, d4]; rfl)
              have D2 := Lib.hid d2
              have D3 := Lib.hid d3
              clear HE2 d2 d3
              go_wp2_with fail
              refine (HN1.out _).mono ?_
              rintro e w1 ⟨rfl, rfl⟩
              rw [D2.out]
              go_wp2_with fail
              refine (HN2.out _).mono ?_
              rintro e w1 ⟨rfl, rfl⟩
              rw [D3.out]
              go_wp2_with fail
              go_ret
              exact ⟨by rw [HF.out]; rfl, below_after HB.out (new_below _ _)⟩
            | false =>
              have HF : Hid (okCs rest (-1) cs = okCs rest x (cs.drop (i + 1))) := Lib.hid (by rw [HE2.out, d1, d2, d3, d4]; rfl)
              have D2 := Lib.hid d2
              have D3 := Lib.hid d3
              clear HE2 d2 d3
              go_wp2_with fail
              refine (HN1.out _).mono ?_
              rintro e w1 ⟨rfl, rfl⟩
              rw [D2.out]
              go_wp2_with fail
              refine (HN2.out _).mono ?_
              rintro e w1 ⟨rfl, rfl⟩
              rw [D3.out]
              go_wp2_with fail
              go_round
              case rel => exact ⟨i + 1, x, by omega, by go_num, rfl, HF, Lib.hid (below_after HB.out (new_below _ _))⟩
              case measure => simp [intOf]; omega
    · obtain rfl : i = L := by omega
      have t3 : decide ((i : Int) < i) = false := by simp
      have HF : Hid (okCs rest (-1) cs = true) := Lib.hid (by rw [HE.out, List.drop_of_length_le (by rw [HL.out]; exact Nat.le_refl _)]; rfl)
      go_wp2_with fail
      go_ret
      exact ⟨by rw [HF.out]; rfl, HB.out⟩
/-- A number of a sort other than Array. -/
def gdN (s n d : Int) : Bool := fvalid n d && (s == 3 || (d == 1 && (s == 2 || (decide (0 ≤ n) && decide (n ≤ grt s)))))
/-- A value of a sort. -/
def gdV (s : Int) (v : Vl) : Bool := if s = 5 then v.num == 0 && v.den == 0 && !nTh v.rest && okCs v.rest (-1) v.cells else v.cells.isEmpty && v.rest == 0 && gdN s v.num v.den
end Go.Proofs.Ytibpgcdaommjeaa
namespace Go.Proofs.Ytibpgcdaommjeaa
open Go.RowKit

set_option maxHeartbeats 2000000 in
theorem isnum_any (s n d : Int) (hs : okSo s) (h5 : s ≠ 5) (w : World) : Calls Try.prog 71 #[.int .i64 s, .agg #[.int .i64 n, .int .i64 d]] w fun e w' => e = .returned (.bool (gdN s n d)) ∧ Below w.heap.size w w' := by
  cases hv : fvalid n d with
  | false =>
    have HC := Lib.hid (fun W => check_no n d W hv)
    have HE : Hid (gdN s n d = false) := Lib.hid (by unfold gdN; rw [hv]; rfl)
    clear hs h5 hv
    go_enter Try.func71, Try.ntmps71
    go_wp2_with fail
    refine (HC.out _).mono ?_
    rintro e w1 ⟨rfl, hb1⟩
    have HB1 := Lib.hid (below_after (new_below w _) hb1)
    clear hb1
    go_wp2_with fail
    go_ret
    exact ⟨by rw [HE.out]; rfl, HB1.out⟩
  | true =>
    have HC := Lib.hid (fun W => check_yes n d W hv)
    have HE : Hid (gdN s n d = (s == 3 || (d == 1 && (s == 2 || (decide (0 ≤ n) && decide (n ≤ grt s)))))) := Lib.hid (by unfold gdN; rw [hv]; rfl)
    clear hv
    have HN0 := Lib.hid (HB.new w 39 #[.int .i64 n, .int .i64 d])
    by_cases h3 : s = 3
    · subst h3
      clear hs h5
      go_enter Try.func71, Try.ntmps71
      go_wp2_with fail
      refine (HC.out _).mono ?_
      rintro e w1 ⟨rfl, hb1⟩
      have HB1 := Lib.hid (below_after (new_below w _) hb1)
      clear hb1
      go_wp2_with fail
      go_ret
      exact ⟨by rw [HE.out]; rfl, HB1.out⟩
    · have t3 : (s == 3) = false := by simpa using h3
      by_cases h2 : s = 2
      · subst h2
        clear hs h5 h3
        go_enter Try.func71, Try.ntmps71
        go_wp2_with fail
        refine (HC.out _).mono ?_
        rintro e w1 ⟨rfl, hb1⟩
        have HB1 := Lib.hid (below_after (new_below w _) hb1)
        have N1 := Lib.hid (HN0.out.below hb1)
        clear hb1
        obtain ⟨c0, c1, _, _⟩ := N1.out.two
        have l1 := N1.out.lt
        go_wp2_with fail
        go_ret
        exact ⟨by rw [HE.out]; simp, HB1.out⟩
      · have t2 : (s == 2) = false := by simpa using h2
        have HG := Lib.hid (fun W => greatest_any s (by unfold okSo at hs; omega) W)
        have HE2 : Hid (gdN s n d = (d == 1 && (decide (0 ≤ n) && decide (n ≤ grt s)))) := Lib.hid (by rw [HE.out, t3, t2]; simp)
        clear hs h5 h3 h2 HE
        generalize grt s = m at *
        cases d1 : d == 1 with
        | false =>
          have HF : Hid (gdN s n d = false) := Lib.hid (by rw [HE2.out, d1]; rfl)
          clear HE2
          go_enter Try.func71, Try.ntmps71
          go_wp2_with fail
          refine (HC.out _).mono ?_
          rintro e w1 ⟨rfl, hb1⟩
          have HB1 := Lib.hid (below_after (new_below w _) hb1)
          have N1 := Lib.hid (HN0.out.below hb1)
          clear hb1
          obtain ⟨c0, c1, _, _⟩ := N1.out.two
          have l1 := N1.out.lt
          go_wp2_with fail
          go_quiet ((go_at_call 93; exact Calls.quiet_of_same (HG.out _)))
          go_wp2_with fail
          go_ret
          exact ⟨by rw [HF.out]; rfl, below_dn HB1.out _⟩
        | true =>
          cases d2 : decide (0 ≤ n) with
          | false =>
            have HF : Hid (gdN s n d = false) := Lib.hid (by rw [HE2.out, d1, d2]; rfl)
            clear HE2
            go_enter Try.func71, Try.ntmps71
            go_wp2_with fail
            refine (HC.out _).mono ?_
            rintro e w1 ⟨rfl, hb1⟩
            have HB1 := Lib.hid (below_after (new_below w _) hb1)
            have N1 := Lib.hid (HN0.out.below hb1)
            clear hb1
            obtain ⟨c0, c1, _, _⟩ := N1.out.two
            have l1 := N1.out.lt
            go_wp2_with fail
            go_quiet ((go_at_call 93; exact Calls.quiet_of_same (HG.out _)))
            go_wp2_with fail
            go_ret
            exact ⟨by rw [HF.out]; rfl, below_dn HB1.out _⟩
          | true =>
            have HF : Hid (gdN s n d = decide (n ≤ m)) := Lib.hid (by rw [HE2.out, d1, d2]; simp)
            clear HE2
            go_enter Try.func71, Try.ntmps71
            go_wp2_with fail
            refine (HC.out _).mono ?_
            rintro e w1 ⟨rfl, hb1⟩
            have HB1 := Lib.hid (below_after (new_below w _) hb1)
            have N1 := Lib.hid (HN0.out.below hb1)
            clear hb1
            obtain ⟨c0, c1, _, _⟩ := N1.out.two
            have l1 := N1.out.lt
            go_wp2_with fail
            go_quiet ((go_at_call 93; exact Calls.quiet_of_same (HG.out _)))
            go_wp2_with fail
            go_ret
            exact ⟨by rw [HF.out]; rfl, below_dn HB1.out _⟩
theorem gdv_5 (v : Vl) : gdV 5 v = (v.num == 0 && v.den == 0 && !nTh v.rest && okCs v.rest (-1) v.cells) := rfl
theorem gdv_n (s : Int) (v : Vl) (h : s ≠ 5) : gdV s v = (v.cells.isEmpty && v.rest == 0 && gdN s v.num v.den) := if_neg h
set_option maxHeartbeats 4000000 in
theorem isvalue_any (s : Int) (v : Vl) (A : Option Addr) (c : Nat) (hs : okSo s) (hl : v.cells.length ≤ maxLen) (w : World) (h : CsAt w A v.cells) :
    Calls Try.prog 45 #[.int .i64 s, .agg #[.int .i64 v.num, .int .i64 v.den, .slice A v.cells.length c, .int .i64 v.rest]] w fun e w' => e = .returned (.bool (gdV s v)) ∧ Below w.heap.size w w' := by
  have NEW := Lib.hid (new_below w (.cells #[.int .i64 v.num, .int .i64 v.den, .slice A v.cells.length c, .int .i64 v.rest] 42))
  by_cases h5 : s = 5
  · subst h5
    have HA := Lib.hid (fun W (hb : Below w.heap.size w W) => arecells_any v.cells A c v.rest hl W (h.below hb))
    have HN := Lib.hid (fun W => nothing_any v.rest W)
    have HE : Hid (gdV 5 v = (v.num == 0 && v.den == 0 && !nTh v.rest && okCs v.rest (-1) v.cells)) := Lib.hid (gdv_5 v)
    unfold maxLen at hl
    generalize gdV 5 v = r at *
    generalize okCs v.rest (-1) v.cells = oc at *
    generalize v.cells.length = L at *
    generalize v.num = n at *
    generalize v.den = d at *
    generalize v.rest = z at *
    clear hs h
    cases d1 : n == 0 with
    | false =>
      have HF : Hid (r = false) := Lib.hid (by rw [HE.out, d1]; rfl)
      clear HE
      go_enter Try.func45, Try.ntmps45
      go_wp2_with fail
      go_ret
      exact ⟨by rw [HF.out]; rfl, NEW.out⟩
    | true =>
      cases d2 : d == 0 with
      | false =>
        have HF : Hid (r = false) := Lib.hid (by rw [HE.out, d1, d2]; rfl)
        clear HE
        go_enter Try.func45, Try.ntmps45
        go_wp2_with fail
        go_ret
        exact ⟨by rw [HF.out]; rfl, NEW.out⟩
      | true =>
        cases d3 : nTh z with
        | true =>
          have HF : Hid (r = false) := Lib.hid (by rw [HE.out, d1, d2, d3]; rfl)
          have D3 := Lib.hid d3
          clear HE d3
          go_enter Try.func45, Try.ntmps45
          go_wp2_with fail
          refine (HN.out _).mono ?_
          rintro e w1 ⟨rfl, rfl⟩
          rw [D3.out]
          go_wp2_with fail
          go_ret
          exact ⟨by rw [HF.out]; rfl, NEW.out⟩
        | false =>
          have HF : Hid (r = oc) := Lib.hid (by rw [HE.out, d1, d2, d3]; simp)
          have D3 := Lib.hid d3
          clear HE d3
          go_enter Try.func45, Try.ntmps45
          go_wp2_with fail
          refine (HN.out _).mono ?_
          rintro e w1 ⟨rfl, rfl⟩
          rw [D3.out]
          go_wp2_with fail
          refine (HA.out _ NEW.out).mono ?_
          rintro e w1 ⟨rfl, hb1⟩
          have HB1 := Lib.hid (below_after NEW.out hb1)
          clear hb1
          go_wp2_with fail
          go_ret
          exact ⟨by rw [HF.out]; rfl, HB1.out⟩
  · have HN := Lib.hid (fun W => isnum_any s v.num v.den hs h5 W)
    have HE : Hid (gdV s v = (decide (v.cells.length = 0) && v.rest == 0 && gdN s v.num v.den)) := Lib.hid (by rw [gdv_n s v h5]; cases v.cells <;> simp)
    have t5 : (s == 5) = false := by simpa using h5
    unfold maxLen at hl
    generalize gdV s v = r at *
    generalize gdN s v.num v.den = g at *
    generalize v.cells.length = L at *
    generalize v.num = n at *
    generalize v.den = d at *
    generalize v.rest = z at *
    clear hs h h5
    by_cases hL : L = 0
    · subst hL
      cases d2 : z == 0 with
      | false =>
        have HF : Hid (r = false) := Lib.hid (by rw [HE.out, d2]; rfl)
        clear HE
        go_enter Try.func45, Try.ntmps45
        go_wp2_with fail
        go_ret
        exact ⟨by rw [HF.out]; rfl, NEW.out⟩
      | true =>
        have HF : Hid (r = g) := Lib.hid (by rw [HE.out, d2]; simp)
        clear HE
        go_enter Try.func45, Try.ntmps45
        go_wp2_with fail
        refine (HN.out _).mono ?_
        rintro e w1 ⟨rfl, hb1⟩
        have HB1 := Lib.hid (below_after NEW.out hb1)
        clear hb1
        go_wp2_with fail
        go_ret
        exact ⟨by rw [HF.out]; rfl, HB1.out⟩
    · have d1 : ((L : Int) == 0) = false := by simpa using hL
      have HF : Hid (r = false) := Lib.hid (by rw [HE.out]; simp [hL])
      clear HE hL
      go_enter Try.func45, Try.ntmps45
      go_wp2_with fail
      go_ret
      exact ⟨by rw [HF.out]; rfl, NEW.out⟩
end Go.Proofs.Ytibpgcdaommjeaa
