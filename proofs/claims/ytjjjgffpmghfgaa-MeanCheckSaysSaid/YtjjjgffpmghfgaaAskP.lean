/-
  Asks: the name and the numbers of a node, as the reference tells them.
-/
import Derived.Test.YtjjjgffpmghfgaaAskJ1
import Derived.Test.YtjjjgffpmghfgaaAskJ2
import Derived.Test.YtjjjgffpmghfgaaAskJ3
namespace Go.Proofs.Ytjjjgffpmghfgaa
open Go.RowKit

theorem isfr_low {n d : Int} (h : d < 1) : isFr n d = false := by
  unfold isFr
  simp
  omega
theorem isfr_gcd {n d : Int} (h1 : -1000000 ≤ n) (h2 : n ≤ 1000000) (h3 : 1 ≤ d) (h4 : d ≤ 1000000) {b : Bool} (h : ((Nat.gcd (mag n) (mag d) : Int) != 1) = !b) : isFr n d = b := by
  have e : isFr n d = !((Nat.gcd (mag n) (mag d) : Int) != 1) := by
    unfold isFr
    by_cases z : Nat.gcd (mag n) (mag d) = 1
    · simp [z, h1, h2, h3, h4]
    · have : ¬ ((Nat.gcd (mag n) (mag d) : Int) = 1) := by omega
      simp [z, this]
  rw [e, h]; simp
set_option maxHeartbeats 1000000 in
theorem fx30_10 (n d : Int) (nm : ByteArray) (A : Option Addr) (k c : Nat) (w : World) :
    Calls Try.prog 61 #[.agg #[.int .i64 10, .slice A k c, .int .i64 n, .int .i64 d, .string nm]] w fun e w' => e = .returned (.int .i64 (flC 10 n d nm.toList.isEmpty)) ∧ Below w.heap.size w w' := by
  have go : ∀ r : Int, flC 10 n d nm.toList.isEmpty = r → (Calls Try.prog 61 #[.agg #[.int .i64 10, .slice A k c, .int .i64 n, .int .i64 d, .string nm]] w fun e w' => e = .returned (.int .i64 r) ∧ Below w.heap.size w w') → Calls Try.prog 61 #[.agg #[.int .i64 10, .slice A k c, .int .i64 n, .int .i64 d, .string nm]] w fun e w' => e = .returned (.int .i64 (flC 10 n d nm.toList.isEmpty)) ∧ Below w.heap.size w w' := fun r hr h => by rw [hr]; exact h
  rcases tl_b nm with he | he
  · rcases (show (n < -1000000) ∨ (1000000 < n) ∨ (n = 0) ∨ (-1000000 ≤ n ∧ n ≤ 1000000 ∧ n ≠ 0) from by omega) with yn | yn | yn | yn
    · rcases (show (d = 0) ∨ (d ≠ 0) from by omega) with yd | yd
      · refine go 3 ?_ (fl30_60 n d nm A k c w (by omega) (by omega) he)
        unfold flC; rw [he]; rw [isfr_no (by omega)]; subst yd; (first | (simp; done) | (simp; omega) | omega)
      · refine go 3 ?_ (fl30_61 n d nm A k c w (by omega) (by omega) he)
        unfold flC; rw [he]; rw [isfr_no (by omega)]; (first | (simp; done) | (simp; omega) | omega)
    · rcases (show (d = 0) ∨ (d ≠ 0) from by omega) with yd | yd
      · refine go 3 ?_ (fl30_62 n d nm A k c w (by omega) (by omega) he)
        unfold flC; rw [he]; rw [isfr_no (by omega)]; subst yd; (first | (simp; done) | (simp; omega) | omega)
      · refine go 3 ?_ (fl30_63 n d nm A k c w (by omega) (by omega) he)
        unfold flC; rw [he]; rw [isfr_no (by omega)]; (first | (simp; done) | (simp; omega) | omega)
    · rcases (show (d = 0) ∨ (d < 0) ∨ (1000000 < d) ∨ (1 ≤ d ∧ d ≤ 1000000) from by omega) with yd | yd | yd | yd
      · refine go 3 ?_ (fl30_64 n d nm A k c w (by omega) (by omega) he)
        unfold flC; rw [he]; rw [isfr_low (by omega)]; subst yn; subst yd; (first | (simp; done) | (simp; omega) | omega)
      · refine go 3 ?_ (fl30_65 n d nm A k c w (by omega) (by omega) he)
        unfold flC; rw [he]; rw [isfr_low (by omega)]; subst yn; (first | (simp; done) | (simp; omega) | omega)
      · refine go 3 ?_ (fl30_66 n d nm A k c w (by omega) (by omega) he)
        unfold flC; rw [he]; rw [isfr_no (by omega)]; subst yn; (first | (simp; done) | (simp; omega) | omega)
      · cases hf : ((Nat.gcd (mag n) (mag d) : Int) != 1) with
        | true =>
          refine go 3 ?_ (fl30_68 n d nm A k c w (by omega) (by omega) he hf)
          unfold flC; rw [he]; subst yn; rw [isfr_gcd (b := false) (by omega) (by omega) (by omega) (by omega) (by rw [hf]; rfl)]; simp
        | false =>
          refine go 0 ?_ (fl30_67 n d nm A k c w (by omega) (by omega) he hf)
          unfold flC; rw [he]; subst yn; rw [isfr_gcd (b := true) (by omega) (by omega) (by omega) (by omega) (by rw [hf]; rfl)]; simp
    · rcases (show (d = 0) ∨ (d < 0) ∨ (1000000 < d) ∨ (1 ≤ d ∧ d ≤ 1000000) from by omega) with yd | yd | yd | yd
      · refine go 3 ?_ (fl30_69 n d nm A k c w (by omega) (by omega) he)
        unfold flC; rw [he]; rw [isfr_low (by omega)]; subst yd; (first | (simp; done) | (simp; omega) | omega)
      · refine go 3 ?_ (fl30_70 n d nm A k c w (by omega) (by omega) he)
        unfold flC; rw [he]; rw [isfr_low (by omega)]; (first | (simp; done) | (simp; omega) | omega)
      · refine go 3 ?_ (fl30_71 n d nm A k c w (by omega) (by omega) he)
        unfold flC; rw [he]; rw [isfr_no (by omega)]; (first | (simp; done) | (simp; omega) | omega)
      · cases hf : ((Nat.gcd (mag n) (mag d) : Int) != 1) with
        | true =>
          refine go 3 ?_ (fl30_73 n d nm A k c w (by omega) (by omega) he hf)
          unfold flC; rw [he]; rw [isfr_gcd (b := false) (by omega) (by omega) (by omega) (by omega) (by rw [hf]; rfl)]; simp
        | false =>
          refine go 0 ?_ (fl30_72 n d nm A k c w (by omega) (by omega) he hf)
          unfold flC; rw [he]; rw [isfr_gcd (b := true) (by omega) (by omega) (by omega) (by omega) (by rw [hf]; rfl)]; simp
  · refine go 5 ?_ (fl30_0 n d nm A k c w he)
    unfold flC; rw [he]; (first | (simp; done) | (simp; omega) | omega)
set_option maxHeartbeats 1000000 in
theorem fx30_12 (n d : Int) (nm : ByteArray) (A : Option Addr) (k c : Nat) (w : World) :
    Calls Try.prog 61 #[.agg #[.int .i64 12, .slice A k c, .int .i64 n, .int .i64 d, .string nm]] w fun e w' => e = .returned (.int .i64 (flC 12 n d nm.toList.isEmpty)) ∧ Below w.heap.size w w' := by
  have go : ∀ r : Int, flC 12 n d nm.toList.isEmpty = r → (Calls Try.prog 61 #[.agg #[.int .i64 12, .slice A k c, .int .i64 n, .int .i64 d, .string nm]] w fun e w' => e = .returned (.int .i64 r) ∧ Below w.heap.size w w') → Calls Try.prog 61 #[.agg #[.int .i64 12, .slice A k c, .int .i64 n, .int .i64 d, .string nm]] w fun e w' => e = .returned (.int .i64 (flC 12 n d nm.toList.isEmpty)) ∧ Below w.heap.size w w' := fun r hr h => by rw [hr]; exact h
  rcases tl_b nm with he | he
  · rcases (show (n < -1000000) ∨ (1000000 < n) ∨ (n = 0) ∨ (-1000000 ≤ n ∧ n ≤ 1000000 ∧ n ≠ 0) from by omega) with yn | yn | yn | yn
    · rcases (show (d = 0) ∨ (d ≠ 0) from by omega) with yd | yd
      · refine go 3 ?_ (fl30_74 n d nm A k c w (by omega) (by omega) he)
        unfold flC; rw [he]; rw [isfr_no (by omega)]; subst yd; (first | (simp; done) | (simp; omega) | omega)
      · refine go 3 ?_ (fl30_75 n d nm A k c w (by omega) (by omega) he)
        unfold flC; rw [he]; rw [isfr_no (by omega)]; (first | (simp; done) | (simp; omega) | omega)
    · rcases (show (d = 0) ∨ (d ≠ 0) from by omega) with yd | yd
      · refine go 3 ?_ (fl30_76 n d nm A k c w (by omega) (by omega) he)
        unfold flC; rw [he]; rw [isfr_no (by omega)]; subst yd; (first | (simp; done) | (simp; omega) | omega)
      · refine go 3 ?_ (fl30_77 n d nm A k c w (by omega) (by omega) he)
        unfold flC; rw [he]; rw [isfr_no (by omega)]; (first | (simp; done) | (simp; omega) | omega)
    · rcases (show (d = 0) ∨ (d < 0) ∨ (1000000 < d) ∨ (1 ≤ d ∧ d ≤ 1000000) from by omega) with yd | yd | yd | yd
      · refine go 3 ?_ (fl30_78 n d nm A k c w (by omega) (by omega) he)
        unfold flC; rw [he]; rw [isfr_low (by omega)]; subst yn; subst yd; (first | (simp; done) | (simp; omega) | omega)
      · refine go 3 ?_ (fl30_79 n d nm A k c w (by omega) (by omega) he)
        unfold flC; rw [he]; rw [isfr_low (by omega)]; subst yn; (first | (simp; done) | (simp; omega) | omega)
      · refine go 3 ?_ (fl30_80 n d nm A k c w (by omega) (by omega) he)
        unfold flC; rw [he]; rw [isfr_no (by omega)]; subst yn; (first | (simp; done) | (simp; omega) | omega)
      · cases hf : ((Nat.gcd (mag n) (mag d) : Int) != 1) with
        | true =>
          refine go 3 ?_ (fl30_82 n d nm A k c w (by omega) (by omega) he hf)
          unfold flC; rw [he]; subst yn; rw [isfr_gcd (b := false) (by omega) (by omega) (by omega) (by omega) (by rw [hf]; rfl)]; simp
        | false =>
          refine go 0 ?_ (fl30_81 n d nm A k c w (by omega) (by omega) he hf)
          unfold flC; rw [he]; subst yn; rw [isfr_gcd (b := true) (by omega) (by omega) (by omega) (by omega) (by rw [hf]; rfl)]; simp
    · rcases (show (d = 0) ∨ (d < 0) ∨ (1000000 < d) ∨ (1 ≤ d ∧ d ≤ 1000000) from by omega) with yd | yd | yd | yd
      · refine go 3 ?_ (fl30_83 n d nm A k c w (by omega) (by omega) he)
        unfold flC; rw [he]; rw [isfr_low (by omega)]; subst yd; (first | (simp; done) | (simp; omega) | omega)
      · refine go 3 ?_ (fl30_84 n d nm A k c w (by omega) (by omega) he)
        unfold flC; rw [he]; rw [isfr_low (by omega)]; (first | (simp; done) | (simp; omega) | omega)
      · refine go 3 ?_ (fl30_85 n d nm A k c w (by omega) (by omega) he)
        unfold flC; rw [he]; rw [isfr_no (by omega)]; (first | (simp; done) | (simp; omega) | omega)
      · cases hf : ((Nat.gcd (mag n) (mag d) : Int) != 1) with
        | true =>
          refine go 3 ?_ (fl30_87 n d nm A k c w (by omega) (by omega) he hf)
          unfold flC; rw [he]; rw [isfr_gcd (b := false) (by omega) (by omega) (by omega) (by omega) (by rw [hf]; rfl)]; simp
        | false =>
          refine go 0 ?_ (fl30_86 n d nm A k c w (by omega) (by omega) he hf)
          unfold flC; rw [he]; rw [isfr_gcd (b := true) (by omega) (by omega) (by omega) (by omega) (by rw [hf]; rfl)]; simp
  · refine go 5 ?_ (fl30_1 n d nm A k c w he)
    unfold flC; rw [he]; (first | (simp; done) | (simp; omega) | omega)
set_option maxHeartbeats 1000000 in
theorem fx30_15 (n d : Int) (nm : ByteArray) (A : Option Addr) (k c : Nat) (w : World) :
    Calls Try.prog 61 #[.agg #[.int .i64 15, .slice A k c, .int .i64 n, .int .i64 d, .string nm]] w fun e w' => e = .returned (.int .i64 (flC 15 n d nm.toList.isEmpty)) ∧ Below w.heap.size w w' := by
  have go : ∀ r : Int, flC 15 n d nm.toList.isEmpty = r → (Calls Try.prog 61 #[.agg #[.int .i64 15, .slice A k c, .int .i64 n, .int .i64 d, .string nm]] w fun e w' => e = .returned (.int .i64 r) ∧ Below w.heap.size w w') → Calls Try.prog 61 #[.agg #[.int .i64 15, .slice A k c, .int .i64 n, .int .i64 d, .string nm]] w fun e w' => e = .returned (.int .i64 (flC 15 n d nm.toList.isEmpty)) ∧ Below w.heap.size w w' := fun r hr h => by rw [hr]; exact h
  rcases tl_b nm with he | he
  · rcases (show (d < 0) ∨ (d = 0) ∨ (8 < d) ∨ (d = 1) ∨ (d = 2) ∨ (d = 3) ∨ (d = 4) ∨ (d = 5) ∨ (d = 6) ∨ (d = 7) ∨ (d = 8) from by omega) with yd | yd | yd | yd | yd | yd | yd | yd | yd | yd | yd
    · rcases (show (n = 0) ∨ (n ≠ 0) from by omega) with yn | yn
      · refine go 3 ?_ (fl30_3 n d nm A k c w (by omega) (by omega) he)
        unfold flC; rw [he]; subst yn; (first | (simp; done) | (simp; omega) | omega)
      · refine go 3 ?_ (fl30_4 n d nm A k c w (by omega) (by omega) he)
        unfold flC; rw [he]; (first | (simp; done) | (simp; omega) | omega)
    · rcases (show (n = 0) ∨ (n ≠ 0) from by omega) with yn | yn
      · refine go 3 ?_ (fl30_5 n d nm A k c w (by omega) (by omega) he)
        unfold flC; rw [he]; subst yn; subst yd; (first | (simp; done) | (simp; omega) | omega)
      · refine go 3 ?_ (fl30_6 n d nm A k c w (by omega) (by omega) he)
        unfold flC; rw [he]; subst yd; (first | (simp; done) | (simp; omega) | omega)
    · rcases (show (n = 0) ∨ (n ≠ 0) from by omega) with yn | yn
      · refine go 3 ?_ (fl30_7 n d nm A k c w (by omega) (by omega) he)
        unfold flC; rw [he]; subst yn; (first | (simp; done) | (simp; omega) | omega)
      · refine go 3 ?_ (fl30_8 n d nm A k c w (by omega) (by omega) he)
        unfold flC; rw [he]; (first | (simp; done) | (simp; omega) | omega)
    · rcases (show (n < 0) ∨ (n = 0) ∨ (0 < n ∧ n < 2) ∨ (2 ≤ n) from by omega) with yn | yn | yn | yn
      · refine go 3 ?_ (fl30_9 n d nm A k c w (by omega) (by omega) he)
        unfold flC; rw [he]; subst yd; (first | (simp; done) | (simp; omega) | omega)
      · refine go 0 ?_ (fl30_10 n d nm A k c w (by omega) (by omega) he)
        unfold flC; rw [he]; subst yn; subst yd; (first | (simp; done) | (simp; omega) | omega)
      · refine go 0 ?_ (fl30_11 n d nm A k c w (by omega) (by omega) he)
        unfold flC; rw [he]; subst yd; (first | (simp; done) | (simp; omega) | omega)
      · refine go 3 ?_ (fl30_12 n d nm A k c w (by omega) (by omega) he)
        unfold flC; rw [he]; subst yd; (first | (simp; done) | (simp; omega) | omega)
    · rcases (show (n < 0) ∨ (n = 0) ∨ (0 < n ∧ n < 4) ∨ (4 ≤ n) from by omega) with yn | yn | yn | yn
      · refine go 3 ?_ (fl30_13 n d nm A k c w (by omega) (by omega) he)
        unfold flC; rw [he]; subst yd; (first | (simp; done) | (simp; omega) | omega)
      · refine go 0 ?_ (fl30_14 n d nm A k c w (by omega) (by omega) he)
        unfold flC; rw [he]; subst yn; subst yd; (first | (simp; done) | (simp; omega) | omega)
      · refine go 0 ?_ (fl30_15 n d nm A k c w (by omega) (by omega) he)
        unfold flC; rw [he]; subst yd; (first | (simp; done) | (simp; omega) | omega)
      · refine go 3 ?_ (fl30_16 n d nm A k c w (by omega) (by omega) he)
        unfold flC; rw [he]; subst yd; (first | (simp; done) | (simp; omega) | omega)
    · rcases (show (n < 0) ∨ (n = 0) ∨ (0 < n ∧ n < 8) ∨ (8 ≤ n) from by omega) with yn | yn | yn | yn
      · refine go 3 ?_ (fl30_17 n d nm A k c w (by omega) (by omega) he)
        unfold flC; rw [he]; subst yd; (first | (simp; done) | (simp; omega) | omega)
      · refine go 0 ?_ (fl30_18 n d nm A k c w (by omega) (by omega) he)
        unfold flC; rw [he]; subst yn; subst yd; (first | (simp; done) | (simp; omega) | omega)
      · refine go 0 ?_ (fl30_19 n d nm A k c w (by omega) (by omega) he)
        unfold flC; rw [he]; subst yd; (first | (simp; done) | (simp; omega) | omega)
      · refine go 3 ?_ (fl30_20 n d nm A k c w (by omega) (by omega) he)
        unfold flC; rw [he]; subst yd; (first | (simp; done) | (simp; omega) | omega)
    · rcases (show (n < 0) ∨ (n = 0) ∨ (0 < n ∧ n < 16) ∨ (16 ≤ n) from by omega) with yn | yn | yn | yn
      · refine go 3 ?_ (fl30_21 n d nm A k c w (by omega) (by omega) he)
        unfold flC; rw [he]; subst yd; (first | (simp; done) | (simp; omega) | omega)
      · refine go 0 ?_ (fl30_22 n d nm A k c w (by omega) (by omega) he)
        unfold flC; rw [he]; subst yn; subst yd; (first | (simp; done) | (simp; omega) | omega)
      · refine go 0 ?_ (fl30_23 n d nm A k c w (by omega) (by omega) he)
        unfold flC; rw [he]; subst yd; (first | (simp; done) | (simp; omega) | omega)
      · refine go 3 ?_ (fl30_24 n d nm A k c w (by omega) (by omega) he)
        unfold flC; rw [he]; subst yd; (first | (simp; done) | (simp; omega) | omega)
    · rcases (show (n < 0) ∨ (n = 0) ∨ (0 < n ∧ n < 32) ∨ (32 ≤ n) from by omega) with yn | yn | yn | yn
      · refine go 3 ?_ (fl30_25 n d nm A k c w (by omega) (by omega) he)
        unfold flC; rw [he]; subst yd; (first | (simp; done) | (simp; omega) | omega)
      · refine go 0 ?_ (fl30_26 n d nm A k c w (by omega) (by omega) he)
        unfold flC; rw [he]; subst yn; subst yd; (first | (simp; done) | (simp; omega) | omega)
      · refine go 0 ?_ (fl30_27 n d nm A k c w (by omega) (by omega) he)
        unfold flC; rw [he]; subst yd; (first | (simp; done) | (simp; omega) | omega)
      · refine go 3 ?_ (fl30_28 n d nm A k c w (by omega) (by omega) he)
        unfold flC; rw [he]; subst yd; (first | (simp; done) | (simp; omega) | omega)
    · rcases (show (n < 0) ∨ (n = 0) ∨ (0 < n ∧ n < 64) ∨ (64 ≤ n) from by omega) with yn | yn | yn | yn
      · refine go 3 ?_ (fl30_29 n d nm A k c w (by omega) (by omega) he)
        unfold flC; rw [he]; subst yd; (first | (simp; done) | (simp; omega) | omega)
      · refine go 0 ?_ (fl30_30 n d nm A k c w (by omega) (by omega) he)
        unfold flC; rw [he]; subst yn; subst yd; (first | (simp; done) | (simp; omega) | omega)
      · refine go 0 ?_ (fl30_31 n d nm A k c w (by omega) (by omega) he)
        unfold flC; rw [he]; subst yd; (first | (simp; done) | (simp; omega) | omega)
      · refine go 3 ?_ (fl30_32 n d nm A k c w (by omega) (by omega) he)
        unfold flC; rw [he]; subst yd; (first | (simp; done) | (simp; omega) | omega)
    · rcases (show (n < 0) ∨ (n = 0) ∨ (0 < n ∧ n < 128) ∨ (128 ≤ n) from by omega) with yn | yn | yn | yn
      · refine go 3 ?_ (fl30_33 n d nm A k c w (by omega) (by omega) he)
        unfold flC; rw [he]; subst yd; (first | (simp; done) | (simp; omega) | omega)
      · refine go 0 ?_ (fl30_34 n d nm A k c w (by omega) (by omega) he)
        unfold flC; rw [he]; subst yn; subst yd; (first | (simp; done) | (simp; omega) | omega)
      · refine go 0 ?_ (fl30_35 n d nm A k c w (by omega) (by omega) he)
        unfold flC; rw [he]; subst yd; (first | (simp; done) | (simp; omega) | omega)
      · refine go 3 ?_ (fl30_36 n d nm A k c w (by omega) (by omega) he)
        unfold flC; rw [he]; subst yd; (first | (simp; done) | (simp; omega) | omega)
    · rcases (show (n < 0) ∨ (n = 0) ∨ (0 < n ∧ n < 256) ∨ (256 ≤ n) from by omega) with yn | yn | yn | yn
      · refine go 3 ?_ (fl30_37 n d nm A k c w (by omega) (by omega) he)
        unfold flC; rw [he]; subst yd; (first | (simp; done) | (simp; omega) | omega)
      · refine go 0 ?_ (fl30_38 n d nm A k c w (by omega) (by omega) he)
        unfold flC; rw [he]; subst yn; subst yd; (first | (simp; done) | (simp; omega) | omega)
      · refine go 0 ?_ (fl30_39 n d nm A k c w (by omega) (by omega) he)
        unfold flC; rw [he]; subst yd; (first | (simp; done) | (simp; omega) | omega)
      · refine go 3 ?_ (fl30_40 n d nm A k c w (by omega) (by omega) he)
        unfold flC; rw [he]; subst yd; (first | (simp; done) | (simp; omega) | omega)
  · refine go 5 ?_ (fl30_2 n d nm A k c w he)
    unfold flC; rw [he]; (first | (simp; done) | (simp; omega) | omega)
set_option maxHeartbeats 1000000 in
theorem fx30_23 (n d : Int) (nm : ByteArray) (A : Option Addr) (k c : Nat) (w : World) :
    Calls Try.prog 61 #[.agg #[.int .i64 23, .slice A k c, .int .i64 n, .int .i64 d, .string nm]] w fun e w' => e = .returned (.int .i64 (flC 23 n d nm.toList.isEmpty)) ∧ Below w.heap.size w w' := by
  have go : ∀ r : Int, flC 23 n d nm.toList.isEmpty = r → (Calls Try.prog 61 #[.agg #[.int .i64 23, .slice A k c, .int .i64 n, .int .i64 d, .string nm]] w fun e w' => e = .returned (.int .i64 r) ∧ Below w.heap.size w w') → Calls Try.prog 61 #[.agg #[.int .i64 23, .slice A k c, .int .i64 n, .int .i64 d, .string nm]] w fun e w' => e = .returned (.int .i64 (flC 23 n d nm.toList.isEmpty)) ∧ Below w.heap.size w w' := fun r hr h => by rw [hr]; exact h
  rcases tl_b nm with he | he
  · rcases (show (d ≠ 0) ∨ (d = 0) from by omega) with yd | yd
    · rcases (show (n < 0) ∨ (n = 0) ∨ (0 < n ∧ n ≤ 8) ∨ (8 < n) from by omega) with yn | yn | yn | yn
      · refine go 5 ?_ (fl30_42 n d nm A k c w (by omega) (by omega) he)
        unfold flC; rw [he]; (first | (simp; done) | (simp; omega) | omega)
      · refine go 5 ?_ (fl30_44 n d nm A k c w (by omega) (by omega) he)
        unfold flC; rw [he]; subst yn; (first | (simp; done) | (simp; omega) | omega)
      · refine go 5 ?_ (fl30_46 n d nm A k c w (by omega) (by omega) he)
        unfold flC; rw [he]; (first | (simp; done) | (simp; omega) | omega)
      · refine go 5 ?_ (fl30_48 n d nm A k c w (by omega) (by omega) he)
        unfold flC; rw [he]; (first | (simp; done) | (simp; omega) | omega)
    · rcases (show (n < 0) ∨ (n = 0) ∨ (0 < n ∧ n ≤ 8) ∨ (8 < n) from by omega) with yn | yn | yn | yn
      · refine go 3 ?_ (fl30_43 n d nm A k c w (by omega) (by omega) he)
        unfold flC; rw [he]; subst yd; (first | (simp; done) | (simp; omega) | omega)
      · refine go 0 ?_ (fl30_45 n d nm A k c w (by omega) (by omega) he)
        unfold flC; rw [he]; subst yn; subst yd; (first | (simp; done) | (simp; omega) | omega)
      · refine go 0 ?_ (fl30_47 n d nm A k c w (by omega) (by omega) he)
        unfold flC; rw [he]; subst yd; (first | (simp; done) | (simp; omega) | omega)
      · refine go 3 ?_ (fl30_49 n d nm A k c w (by omega) (by omega) he)
        unfold flC; rw [he]; subst yd; (first | (simp; done) | (simp; omega) | omega)
  · refine go 5 ?_ (fl30_41 n d nm A k c w he)
    unfold flC; rw [he]; (first | (simp; done) | (simp; omega) | omega)
set_option maxHeartbeats 1000000 in
theorem fx30_9 (n d : Int) (nm : ByteArray) (A : Option Addr) (k c : Nat) (w : World) :
    Calls Try.prog 61 #[.agg #[.int .i64 9, .slice A k c, .int .i64 n, .int .i64 d, .string nm]] w fun e w' => e = .returned (.int .i64 (flC 9 n d nm.toList.isEmpty)) ∧ Below w.heap.size w w' := by
  have go : ∀ r : Int, flC 9 n d nm.toList.isEmpty = r → (Calls Try.prog 61 #[.agg #[.int .i64 9, .slice A k c, .int .i64 n, .int .i64 d, .string nm]] w fun e w' => e = .returned (.int .i64 r) ∧ Below w.heap.size w w') → Calls Try.prog 61 #[.agg #[.int .i64 9, .slice A k c, .int .i64 n, .int .i64 d, .string nm]] w fun e w' => e = .returned (.int .i64 (flC 9 n d nm.toList.isEmpty)) ∧ Below w.heap.size w w' := fun r hr h => by rw [hr]; exact h
  rcases tl_b nm with he | he
  · rcases (show (n ≠ 0) ∨ (n = 0) from by omega) with yn | yn
    · refine go 5 ?_ (fl30_50 n d nm A k c w (by omega) he)
      unfold flC; rw [he]; (first | (simp; done) | (simp; omega) | omega)
    · rcases (show (d ≠ 0) ∨ (d = 0) from by omega) with yd | yd
      · refine go 5 ?_ (fl30_51 n d nm A k c w (by omega) (by omega) he)
        unfold flC; rw [he]; subst yn; (first | (simp; done) | (simp; omega) | omega)
      · refine go 0 ?_ (fl30_52 n d nm A k c w (by omega) (by omega) he)
        unfold flC; rw [he]; subst yn; subst yd; (first | (simp; done) | (simp; omega) | omega)
  · rcases (show (n ≠ 0) ∨ (n = 0) from by omega) with yn | yn
    · refine go 5 ?_ (fl30_53 n d nm A k c w (by omega) he)
      unfold flC; rw [he]; (first | (simp; done) | (simp; omega) | omega)
    · rcases (show (d ≠ 0) ∨ (d = 0) from by omega) with yd | yd
      · refine go 5 ?_ (fl30_54 n d nm A k c w (by omega) (by omega) he)
        unfold flC; rw [he]; subst yn; (first | (simp; done) | (simp; omega) | omega)
      · refine go 0 ?_ (fl30_55 n d nm A k c w (by omega) (by omega) he)
        unfold flC; rw [he]; subst yn; subst yd; (first | (simp; done) | (simp; omega) | omega)
set_option maxHeartbeats 1000000 in
theorem fx30_o (op n d : Int) (nm : ByteArray) (A : Option Addr) (k c : Nat) (w : World) (g1 : op ≠ 10) (g2 : op ≠ 12) (g3 : op ≠ 15) (g4 : op ≠ 23) (g5 : op ≠ 9) :
    Calls Try.prog 61 #[.agg #[.int .i64 op, .slice A k c, .int .i64 n, .int .i64 d, .string nm]] w fun e w' => e = .returned (.int .i64 (flC op n d nm.toList.isEmpty)) ∧ Below w.heap.size w w' := by
  have go : ∀ r : Int, flC op n d nm.toList.isEmpty = r → (Calls Try.prog 61 #[.agg #[.int .i64 op, .slice A k c, .int .i64 n, .int .i64 d, .string nm]] w fun e w' => e = .returned (.int .i64 r) ∧ Below w.heap.size w w') → Calls Try.prog 61 #[.agg #[.int .i64 op, .slice A k c, .int .i64 n, .int .i64 d, .string nm]] w fun e w' => e = .returned (.int .i64 (flC op n d nm.toList.isEmpty)) ∧ Below w.heap.size w w' := fun r hr h => by rw [hr]; exact h
  rcases tl_b nm with he | he
  · rcases (show (n ≠ 0) ∨ (n = 0) from by omega) with yn | yn
    · refine go 5 ?_ (fl30_57 op n d nm A k c w (by simpa using g1) (by simpa using g2) (by simpa using g3) (by simpa using g4) (by simpa using g5) (by simpa using g3) (by simpa using g4) (by omega) he)
      unfold flC; rw [he]; (first | (simp; done) | (simp; omega) | omega)
    · rcases (show (d ≠ 0) ∨ (d = 0) from by omega) with yd | yd
      · refine go 5 ?_ (fl30_58 op n d nm A k c w (by simpa using g1) (by simpa using g2) (by simpa using g3) (by simpa using g4) (by simpa using g5) (by simpa using g3) (by simpa using g4) (by omega) (by omega) he)
        unfold flC; rw [he]; subst yn; (first | (simp; done) | (simp; omega) | omega)
      · refine go 0 ?_ (fl30_59 op n d nm A k c w (by simpa using g1) (by simpa using g2) (by simpa using g3) (by simpa using g4) (by simpa using g5) (by simpa using g3) (by simpa using g4) (by omega) (by omega) he)
        unfold flC; rw [he]; subst yn; subst yd; (first | (simp; done) | (simp; omega) | omega)
  · refine go 5 ?_ (fl30_56 op n d nm A k c w (by simpa using g1) (by simpa using g2) (by simpa using g3) (by simpa using g4) (by simpa using g5) (by simpa using g3) (by simpa using g4) he)
    unfold flC; rw [he]; (first | (simp; done) | (simp; omega) | omega)
theorem fieldsfault_any (op n d : Int) (nm : ByteArray) (A : Option Addr) (k c : Nat) (w : World) :
    Calls Try.prog 61 #[.agg #[.int .i64 op, .slice A k c, .int .i64 n, .int .i64 d, .string nm]] w fun e w' => e = .returned (.int .i64 (flC op n d nm.toList.isEmpty)) ∧ Below w.heap.size w w' := by
  rcases (show op = 10 ∨ op = 12 ∨ op = 15 ∨ op = 23 ∨ op = 9 ∨ (op ≠ 10 ∧ op ≠ 12 ∧ op ≠ 15 ∧ op ≠ 23 ∧ op ≠ 9) from by omega) with rfl | rfl | rfl | rfl | rfl | ⟨g1, g2, g3, g4, g5⟩
  · exact fx30_10 n d nm A k c w
  · exact fx30_12 n d nm A k c w
  · exact fx30_15 n d nm A k c w
  · exact fx30_23 n d nm A k c w
  · exact fx30_9 n d nm A k c w
  · exact fx30_o op n d nm A k c w g1 g2 g3 g4 g5
end Go.Proofs.Ytjjjgffpmghfgaa
