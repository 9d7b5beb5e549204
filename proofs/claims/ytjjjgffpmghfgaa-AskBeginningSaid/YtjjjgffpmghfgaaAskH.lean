/-
  Asks: fractions of a node.
-/
import Derived.Test.YtjjjgffpmghfgaaAskG
import Derived.Test.YtjjjgffpmghfgaaFracB
namespace Go.Proofs.Ytjjjgffpmghfgaa
open Go.RowKit

/-- Is n / d a fraction that a node may have? -/
def isFr (n d : Int) : Bool := decide (-1000000 ≤ n ∧ n ≤ 1000000 ∧ 1 ≤ d ∧ d ≤ 1000000 ∧ Nat.gcd (mag n) (mag d) = 1)
theorem isfr_valid {n d : Int} (h1 : -1000000 ≤ n) (h2 : n ≤ 1000000) (h3 : d ≤ 1000000) : fvalid n d = isFr n d := by
  unfold fvalid isFr
  congr 1
  apply propext
  constructor
  · rintro ⟨a, b, c, e, f⟩; exact ⟨h1, h2, a, h3, f⟩
  · rintro ⟨a, b, c, e, f⟩; exact ⟨c, by omega, by omega, by omega, f⟩
theorem isfr_no {n d : Int} (h : n < -1000000 ∨ 1000000 < n ∨ 1000000 < d) : isFr n d = false := by
  unfold isFr
  simp
  omega
set_option maxHeartbeats 1000000 in
theorem isfr_any (n d : Int) (w : World) : Calls Try.prog 72 #[.int .i64 n, .int .i64 d] w fun e w' => e = .returned (.bool (isFr n d)) ∧ Below w.heap.size w w' := by
  by_cases h1 : -1000000 ≤ n
  · have d1 : decide (-1000000 ≤ n) = true := by simpa using h1
    by_cases h2 : n ≤ 1000000
    · have d2 : decide (n ≤ 1000000) = true := by simpa using h2
      by_cases h3 : d ≤ 1000000
      · have d3 : decide (d ≤ 1000000) = true := by simpa using h3
        have HV := Lib.hid (isfr_valid h1 h2 h3)
        cases hf : isFr n d with
        | true =>
          have HC := Lib.hid (fun W => check_yes n d W (by rw [HV.out]; exact hf))
          clear h1 h2 h3 hf
          go_enter Try.func72, Try.ntmps72
          go_wp2_with fail
          refine (HC.out _).mono ?_
          rintro e w1 ⟨rfl, hb1⟩
          have HB1 := Lib.hid hb1
          clear hb1
          go_wp2_with fail
          go_ret
          exact ⟨rfl, HB1.out⟩
        | false =>
          have HC := Lib.hid (fun W => check_no n d W (by rw [HV.out]; exact hf))
          clear h1 h2 h3 hf
          go_enter Try.func72, Try.ntmps72
          go_wp2_with fail
          refine (HC.out _).mono ?_
          rintro e w1 ⟨rfl, hb1⟩
          have HB1 := Lib.hid hb1
          clear hb1
          go_wp2_with fail
          go_ret
          exact ⟨rfl, HB1.out⟩
      · have d3 : decide (d ≤ 1000000) = false := by simpa using h3
        rw [isfr_no (.inr (.inr (by omega)))]
        clear h1 h2 h3
        go_enter Try.func72, Try.ntmps72
        go_wp2_with fail
        go_ret
        exact ⟨rfl, Below.refl _ _⟩
    · have d2 : decide (n ≤ 1000000) = false := by simpa using h2
      rw [isfr_no (.inr (.inl (by omega)))]
      clear h1 h2
      go_enter Try.func72, Try.ntmps72
      go_wp2_with fail
      go_ret
      exact ⟨rfl, Below.refl _ _⟩
  · have d1 : decide (-1000000 ≤ n) = false := by simpa using h1
    rw [isfr_no (.inl (by omega))]
    clear h1
    go_enter Try.func72, Try.ntmps72
    go_wp2_with fail
    go_ret
    exact ⟨rfl, Below.refl _ _⟩
theorem mag_tmod (a b : Int) : mag (a.tmod b) = mag a % mag b := by unfold mag; exact Int.natAbs_tmod a b
set_option maxHeartbeats 1000000 in
theorem gcd_ref (n d : Int) (h1 : -1000000 ≤ n) (h2 : n ≤ 1000000) (h3 : 1 ≤ d) (h4 : d ≤ 1000000) (w : World) :
    Calls Try.prog 96 #[.int .i64 n, .int .i64 d] w fun e w' => e = .returned (.int .i64 (Nat.gcd (mag n) (mag d) : Nat)) ∧ ∃ m, w' = w.drewN m := by
  go_enter Try.func96, Try.ntmps96
  go_wp2_with fail
  go_loopw [0, 1] (fun a b wr => ∃ x y : Int, a = .int .i64 x ∧ b = .int .i64 y ∧ -1000000 ≤ x ∧ x ≤ 1000000 ∧ -1000000 ≤ y ∧ y ≤ 1000000 ∧ Hid (Nat.gcd (mag x) (mag y) = Nat.gcd (mag n) (mag d)) ∧ Hid (∃ m, wr = w.drewN m)) (fun _ b _ => (intOf b).natAbs)
  case atStart => exact ⟨n, d, rfl, rfl, h1, h2, by omega, h4, rfl, 0, rfl⟩
  case round =>
    obtain ⟨x, y, rfl, rfl, b1, b2, b3, b4, HG, HW⟩ := hrel
    by_cases hy : y = 0
    · subst hy
      have HG2 : Hid (mag x = Nat.gcd (mag n) (mag d)) := Lib.hid (by rw [← HG.out]; simp [mag])
      by_cases hx : x < 0
      · have d1 : decide (x < 0) = true := by simpa using hx
        go_wp2_with fail
        go_ret
        exact ⟨ret_int (by rw [← HG2.out]; unfold mag; omega), HW.out⟩
      · have d1 : decide (x < 0) = false := by simpa using hx
        go_wp2_with fail
        go_ret
        exact ⟨ret_int (by rw [← HG2.out]; unfold mag; omega), HW.out⟩
    · have d1 : (y != 0) = true := by simpa using hy
      go_wp2_with fail
      go_quiet (fail)
      go_wp2_with fail
      have hm : mag (x.tmod y) < mag y := by rw [mag_tmod]; exact Nat.mod_lt _ (by unfold mag; omega)
      have hb : mag y ≤ 1000000 := by unfold mag; omega
      have HS : Hid (Nat.gcd (mag y) (mag (x.tmod y)) = Nat.gcd (mag n) (mag d)) := Lib.hid (by rw [mag_tmod, gcd_step]; exact HG.out)
      unfold mag at hm hb
      generalize x.tmod y = z at *
      go_round
      case rel =>
        obtain ⟨m, hm2⟩ := HW.out
        exact ⟨y, z, rfl, rfl, b3, b4, by omega, by omega, HS, Lib.hid ⟨m + nq, by rw [hm2]; simp [World.drewN, Nat.add_assoc]⟩⟩
      case measure => simp [intOf]; omega
end Go.Proofs.Ytjjjgffpmghfgaa
