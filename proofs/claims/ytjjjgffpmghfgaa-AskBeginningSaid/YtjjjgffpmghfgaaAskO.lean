/-
  Asks: the name and the numbers of a node, as the program tells them.
-/
import Derived.Test.YtjjjgffpmghfgaaAskI1
import Derived.Test.YtjjjgffpmghfgaaAskI2
import Derived.Test.YtjjjgffpmghfgaaAskI3
namespace Go.Proofs.Ytjjjgffpmghfgaa
open Go.RowKit

set_option maxHeartbeats 1000000 in
theorem fx42_10 (n d : Int) (nm : ByteArray) (A : Option Addr) (k c : Nat) (w : World) :
    Calls Try.prog 43 #[.agg #[.int .i64 10, .slice A k c, .int .i64 n, .int .i64 d, .string nm]] w fun e w' => e = .returned (.int .i64 (flC 10 n d nm.toList.isEmpty)) ∧ Below w.heap.size w w' := by
  have go : ∀ r : Int, flC 10 n d nm.toList.isEmpty = r → (Calls Try.prog 43 #[.agg #[.int .i64 10, .slice A k c, .int .i64 n, .int .i64 d, .string nm]] w fun e w' => e = .returned (.int .i64 r) ∧ Below w.heap.size w w') → Calls Try.prog 43 #[.agg #[.int .i64 10, .slice A k c, .int .i64 n, .int .i64 d, .string nm]] w fun e w' => e = .returned (.int .i64 (flC 10 n d nm.toList.isEmpty)) ∧ Below w.heap.size w w' := fun r hr h => by rw [hr]; exact h
  rcases tl_b nm with he | he
  · rcases (show (d = 0) ∨ (d ≠ 0) from by omega) with yd | yd
    · rcases (show (n = 0) ∨ (n ≠ 0) from by omega) with yn | yn
      · cases hf : isFr n d with
        | true =>
          refine go 0 ?_ (fl42_1 n d nm A k c w (by omega) (by omega) he hf)
          unfold flC; rw [he]; subst yn; subst yd; rw [hf]; simp
        | false =>
          refine go 3 ?_ (fl42_2 n d nm A k c w (by omega) (by omega) he hf)
          unfold flC; rw [he]; subst yn; subst yd; rw [hf]; simp
      · cases hf : isFr n d with
        | true =>
          refine go 0 ?_ (fl42_5 n d nm A k c w (by omega) (by omega) he hf)
          unfold flC; rw [he]; subst yd; rw [hf]; simp
        | false =>
          refine go 3 ?_ (fl42_6 n d nm A k c w (by omega) (by omega) he hf)
          unfold flC; rw [he]; subst yd; rw [hf]; simp
    · rcases (show (n = 0) ∨ (n ≠ 0) from by omega) with yn | yn
      · cases hf : isFr n d with
        | true =>
          refine go 0 ?_ (fl42_3 n d nm A k c w (by omega) (by omega) he hf)
          unfold flC; rw [he]; subst yn; rw [hf]; simp
        | false =>
          refine go 3 ?_ (fl42_4 n d nm A k c w (by omega) (by omega) he hf)
          unfold flC; rw [he]; subst yn; rw [hf]; simp
      · cases hf : isFr n d with
        | true =>
          refine go 0 ?_ (fl42_7 n d nm A k c w (by omega) (by omega) he hf)
          unfold flC; rw [he]; rw [hf]; simp
        | false =>
          refine go 3 ?_ (fl42_8 n d nm A k c w (by omega) (by omega) he hf)
          unfold flC; rw [he]; rw [hf]; simp
  · refine go 5 ?_ (fl42_0 n d nm A k c w he)
    unfold flC; rw [he]; (first | (simp; done) | (simp; omega) | omega)
set_option maxHeartbeats 1000000 in
theorem fx42_12 (n d : Int) (nm : ByteArray) (A : Option Addr) (k c : Nat) (w : World) :
    Calls Try.prog 43 #[.agg #[.int .i64 12, .slice A k c, .int .i64 n, .int .i64 d, .string nm]] w fun e w' => e = .returned (.int .i64 (flC 12 n d nm.toList.isEmpty)) ∧ Below w.heap.size w w' := by
  have go : ∀ r : Int, flC 12 n d nm.toList.isEmpty = r → (Calls Try.prog 43 #[.agg #[.int .i64 12, .slice A k c, .int .i64 n, .int .i64 d, .string nm]] w fun e w' => e = .returned (.int .i64 r) ∧ Below w.heap.size w w') → Calls Try.prog 43 #[.agg #[.int .i64 12, .slice A k c, .int .i64 n, .int .i64 d, .string nm]] w fun e w' => e = .returned (.int .i64 (flC 12 n d nm.toList.isEmpty)) ∧ Below w.heap.size w w' := fun r hr h => by rw [hr]; exact h
  rcases tl_b nm with he | he
  · rcases (show (d = 0) ∨ (d ≠ 0) from by omega) with yd | yd
    · rcases (show (n = 0) ∨ (n ≠ 0) from by omega) with yn | yn
      · cases hf : isFr n d with
        | true =>
          refine go 0 ?_ (fl42_10 n d nm A k c w (by omega) (by omega) he hf)
          unfold flC; rw [he]; subst yn; subst yd; rw [hf]; simp
        | false =>
          refine go 3 ?_ (fl42_11 n d nm A k c w (by omega) (by omega) he hf)
          unfold flC; rw [he]; subst yn; subst yd; rw [hf]; simp
      · cases hf : isFr n d with
        | true =>
          refine go 0 ?_ (fl42_14 n d nm A k c w (by omega) (by omega) he hf)
          unfold flC; rw [he]; subst yd; rw [hf]; simp
        | false =>
          refine go 3 ?_ (fl42_15 n d nm A k c w (by omega) (by omega) he hf)
          unfold flC; rw [he]; subst yd; rw [hf]; simp
    · rcases (show (n = 0) ∨ (n ≠ 0) from by omega) with yn | yn
      · cases hf : isFr n d with
        | true =>
          refine go 0 ?_ (fl42_12 n d nm A k c w (by omega) (by omega) he hf)
          unfold flC; rw [he]; subst yn; rw [hf]; simp
        | false =>
          refine go 3 ?_ (fl42_13 n d nm A k c w (by omega) (by omega) he hf)
          unfold flC; rw [he]; subst yn; rw [hf]; simp
      · cases hf : isFr n d with
        | true =>
          refine go 0 ?_ (fl42_16 n d nm A k c w (by omega) (by omega) he hf)
          unfold flC; rw [he]; rw [hf]; simp
        | false =>
          refine go 3 ?_ (fl42_17 n d nm A k c w (by omega) (by omega) he hf)
          unfold flC; rw [he]; rw [hf]; simp
  · refine go 5 ?_ (fl42_9 n d nm A k c w he)
    unfold flC; rw [he]; (first | (simp; done) | (simp; omega) | omega)
set_option maxHeartbeats 1000000 in
theorem fx42_15 (n d : Int) (nm : ByteArray) (A : Option Addr) (k c : Nat) (w : World) :
    Calls Try.prog 43 #[.agg #[.int .i64 15, .slice A k c, .int .i64 n, .int .i64 d, .string nm]] w fun e w' => e = .returned (.int .i64 (flC 15 n d nm.toList.isEmpty)) ∧ Below w.heap.size w w' := by
  have go : ∀ r : Int, flC 15 n d nm.toList.isEmpty = r → (Calls Try.prog 43 #[.agg #[.int .i64 15, .slice A k c, .int .i64 n, .int .i64 d, .string nm]] w fun e w' => e = .returned (.int .i64 r) ∧ Below w.heap.size w w') → Calls Try.prog 43 #[.agg #[.int .i64 15, .slice A k c, .int .i64 n, .int .i64 d, .string nm]] w fun e w' => e = .returned (.int .i64 (flC 15 n d nm.toList.isEmpty)) ∧ Below w.heap.size w w' := fun r hr h => by rw [hr]; exact h
  rcases tl_b nm with he | he
  · rcases (show (d < 0) ∨ (d = 0) ∨ (8 < d) ∨ (d = 1) ∨ (d = 2) ∨ (d = 3) ∨ (d = 4) ∨ (d = 5) ∨ (d = 6) ∨ (d = 7) ∨ (d = 8) from by omega) with yd | yd | yd | yd | yd | yd | yd | yd | yd | yd | yd
    · rcases (show (n = 0) ∨ (n ≠ 0) from by omega) with yn | yn
      · refine go 3 ?_ (fl42_19 n d nm A k c w (by omega) (by omega) he)
        unfold flC; rw [he]; subst yn; (first | (simp; done) | (simp; omega) | omega)
      · refine go 3 ?_ (fl42_20 n d nm A k c w (by omega) (by omega) he)
        unfold flC; rw [he]; (first | (simp; done) | (simp; omega) | omega)
    · rcases (show (n = 0) ∨ (n ≠ 0) from by omega) with yn | yn
      · refine go 3 ?_ (fl42_21 n d nm A k c w (by omega) (by omega) he)
        unfold flC; rw [he]; subst yn; subst yd; (first | (simp; done) | (simp; omega) | omega)
      · refine go 3 ?_ (fl42_22 n d nm A k c w (by omega) (by omega) he)
        unfold flC; rw [he]; subst yd; (first | (simp; done) | (simp; omega) | omega)
    · rcases (show (n = 0) ∨ (n ≠ 0) from by omega) with yn | yn
      · refine go 3 ?_ (fl42_23 n d nm A k c w (by omega) (by omega) he)
        unfold flC; rw [he]; subst yn; (first | (simp; done) | (simp; omega) | omega)
      · refine go 3 ?_ (fl42_24 n d nm A k c w (by omega) (by omega) he)
        unfold flC; rw [he]; (first | (simp; done) | (simp; omega) | omega)
    · rcases (show (n < 0) ∨ (n = 0) ∨ (0 < n ∧ n < 2) ∨ (2 ≤ n) from by omega) with yn | yn | yn | yn
      · refine go 3 ?_ (fl42_25 n d nm A k c w (by omega) (by omega) he)
        unfold flC; rw [he]; subst yd; (first | (simp; done) | (simp; omega) | omega)
      · refine go 0 ?_ (fl42_26 n d nm A k c w (by omega) (by omega) he)
        unfold flC; rw [he]; subst yn; subst yd; (first | (simp; done) | (simp; omega) | omega)
      · refine go 0 ?_ (fl42_27 n d nm A k c w (by omega) (by omega) he)
        unfold flC; rw [he]; subst yd; (first | (simp; done) | (simp; omega) | omega)
      · refine go 3 ?_ (fl42_28 n d nm A k c w (by omega) (by omega) he)
        unfold flC; rw [he]; subst yd; (first | (simp; done) | (simp; omega) | omega)
    · rcases (show (n < 0) ∨ (n = 0) ∨ (0 < n ∧ n < 4) ∨ (4 ≤ n) from by omega) with yn | yn | yn | yn
      · refine go 3 ?_ (fl42_29 n d nm A k c w (by omega) (by omega) he)
        unfold flC; rw [he]; subst yd; (first | (simp; done) | (simp; omega) | omega)
      · refine go 0 ?_ (fl42_30 n d nm A k c w (by omega) (by omega) he)
        unfold flC; rw [he]; subst yn; subst yd; (first | (simp; done) | (simp; omega) | omega)
      · refine go 0 ?_ (fl42_31 n d nm A k c w (by omega) (by omega) he)
        unfold flC; rw [he]; subst yd; (first | (simp; done) | (simp; omega) | omega)
      · refine go 3 ?_ (fl42_32 n d nm A k c w (by omega) (by omega) he)
        unfold flC; rw [he]; subst yd; (first | (simp; done) | (simp; omega) | omega)
    · rcases (show (n < 0) ∨ (n = 0) ∨ (0 < n ∧ n < 8) ∨ (8 ≤ n) from by omega) with yn | yn | yn | yn
      · refine go 3 ?_ (fl42_33 n d nm A k c w (by omega) (by omega) he)
        unfold flC; rw [he]; subst yd; (first | (simp; done) | (simp; omega) | omega)
      · refine go 0 ?_ (fl42_34 n d nm A k c w (by omega) (by omega) he)
        unfold flC; rw [he]; subst yn; subst yd; (first | (simp; done) | (simp; omega) | omega)
      · refine go 0 ?_ (fl42_35 n d nm A k c w (by omega) (by omega) he)
        unfold flC; rw [he]; subst yd; (first | (simp; done) | (simp; omega) | omega)
      · refine go 3 ?_ (fl42_36 n d nm A k c w (by omega) (by omega) he)
        unfold flC; rw [he]; subst yd; (first | (simp; done) | (simp; omega) | omega)
    · rcases (show (n < 0) ∨ (n = 0) ∨ (0 < n ∧ n < 16) ∨ (16 ≤ n) from by omega) with yn | yn | yn | yn
      · refine go 3 ?_ (fl42_37 n d nm A k c w (by omega) (by omega) he)
        unfold flC; rw [he]; subst yd; (first | (simp; done) | (simp; omega) | omega)
      · refine go 0 ?_ (fl42_38 n d nm A k c w (by omega) (by omega) he)
        unfold flC; rw [he]; subst yn; subst yd; (first | (simp; done) | (simp; omega) | omega)
      · refine go 0 ?_ (fl42_39 n d nm A k c w (by omega) (by omega) he)
        unfold flC; rw [he]; subst yd; (first | (simp; done) | (simp; omega) | omega)
      · refine go 3 ?_ (fl42_40 n d nm A k c w (by omega) (by omega) he)
        unfold flC; rw [he]; subst yd; (first | (simp; done) | (simp; omega) | omega)
    · rcases (show (n < 0) ∨ (n = 0) ∨ (0 < n ∧ n < 32) ∨ (32 ≤ n) from by omega) with yn | yn | yn | yn
      · refine go 3 ?_ (fl42_41 n d nm A k c w (by omega) (by omega) he)
        unfold flC; rw [he]; subst yd; (first | (simp; done) | (simp; omega) | omega)
      · refine go 0 ?_ (fl42_42 n d nm A k c w (by omega) (by omega) he)
        unfold flC; rw [he]; subst yn; subst yd; (first | (simp; done) | (simp; omega) | omega)
      · refine go 0 ?_ (fl42_43 n d nm A k c w (by omega) (by omega) he)
        unfold flC; rw [he]; subst yd; (first | (simp; done) | (simp; omega) | omega)
      · refine go 3 ?_ (fl42_44 n d nm A k c w (by omega) (by omega) he)
        unfold flC; rw [he]; subst yd; (first | (simp; done) | (simp; omega) | omega)
    · rcases (show (n < 0) ∨ (n = 0) ∨ (0 < n ∧ n < 64) ∨ (64 ≤ n) from by omega) with yn | yn | yn | yn
      · refine go 3 ?_ (fl42_45 n d nm A k c w (by omega) (by omega) he)
        unfold flC; rw [he]; subst yd; (first | (simp; done) | (simp; omega) | omega)
      · refine go 0 ?_ (fl42_46 n d nm A k c w (by omega) (by omega) he)
        unfold flC; rw [he]; subst yn; subst yd; (first | (simp; done) | (simp; omega) | omega)
      · refine go 0 ?_ (fl42_47 n d nm A k c w (by omega) (by omega) he)
        unfold flC; rw [he]; subst yd; (first | (simp; done) | (simp; omega) | omega)
      · refine go 3 ?_ (fl42_48 n d nm A k c w (by omega) (by omega) he)
        unfold flC; rw [he]; subst yd; (first | (simp; done) | (simp; omega) | omega)
    · rcases (show (n < 0) ∨ (n = 0) ∨ (0 < n ∧ n < 128) ∨ (128 ≤ n) from by omega) with yn | yn | yn | yn
      · refine go 3 ?_ (fl42_49 n d nm A k c w (by omega) (by omega) he)
        unfold flC; rw [he]; subst yd; (first | (simp; done) | (simp; omega) | omega)
      · refine go 0 ?_ (fl42_50 n d nm A k c w (by omega) (by omega) he)
        unfold flC; rw [he]; subst yn; subst yd; (first | (simp; done) | (simp; omega) | omega)
      · refine go 0 ?_ (fl42_51 n d nm A k c w (by omega) (by omega) he)
        unfold flC; rw [he]; subst yd; (first | (simp; done) | (simp; omega) | omega)
      · refine go 3 ?_ (fl42_52 n d nm A k c w (by omega) (by omega) he)
        unfold flC; rw [he]; subst yd; (first | (simp; done) | (simp; omega) | omega)
    · rcases (show (n < 0) ∨ (n = 0) ∨ (0 < n ∧ n < 256) ∨ (256 ≤ n) from by omega) with yn | yn | yn | yn
      · refine go 3 ?_ (fl42_53 n d nm A k c w (by omega) (by omega) he)
        unfold flC; rw [he]; subst yd; (first | (simp; done) | (simp; omega) | omega)
      · refine go 0 ?_ (fl42_54 n d nm A k c w (by omega) (by omega) he)
        unfold flC; rw [he]; subst yn; subst yd; (first | (simp; done) | (simp; omega) | omega)
      · refine go 0 ?_ (fl42_55 n d nm A k c w (by omega) (by omega) he)
        unfold flC; rw [he]; subst yd; (first | (simp; done) | (simp; omega) | omega)
      · refine go 3 ?_ (fl42_56 n d nm A k c w (by omega) (by omega) he)
        unfold flC; rw [he]; subst yd; (first | (simp; done) | (simp; omega) | omega)
  · refine go 5 ?_ (fl42_18 n d nm A k c w he)
    unfold flC; rw [he]; (first | (simp; done) | (simp; omega) | omega)
set_option maxHeartbeats 1000000 in
theorem fx42_23 (n d : Int) (nm : ByteArray) (A : Option Addr) (k c : Nat) (w : World) :
    Calls Try.prog 43 #[.agg #[.int .i64 23, .slice A k c, .int .i64 n, .int .i64 d, .string nm]] w fun e w' => e = .returned (.int .i64 (flC 23 n d nm.toList.isEmpty)) ∧ Below w.heap.size w w' := by
  have go : ∀ r : Int, flC 23 n d nm.toList.isEmpty = r → (Calls Try.prog 43 #[.agg #[.int .i64 23, .slice A k c, .int .i64 n, .int .i64 d, .string nm]] w fun e w' => e = .returned (.int .i64 r) ∧ Below w.heap.size w w') → Calls Try.prog 43 #[.agg #[.int .i64 23, .slice A k c, .int .i64 n, .int .i64 d, .string nm]] w fun e w' => e = .returned (.int .i64 (flC 23 n d nm.toList.isEmpty)) ∧ Below w.heap.size w w' := fun r hr h => by rw [hr]; exact h
  rcases tl_b nm with he | he
  · rcases (show (d ≠ 0) ∨ (d = 0) from by omega) with yd | yd
    · rcases (show (n < 0) ∨ (n = 0) ∨ (0 < n ∧ n ≤ 8) ∨ (8 < n) from by omega) with yn | yn | yn | yn
      · refine go 5 ?_ (fl42_58 n d nm A k c w (by omega) (by omega) he)
        unfold flC; rw [he]; (first | (simp; done) | (simp; omega) | omega)
      · refine go 5 ?_ (fl42_60 n d nm A k c w (by omega) (by omega) he)
        unfold flC; rw [he]; subst yn; (first | (simp; done) | (simp; omega) | omega)
      · refine go 5 ?_ (fl42_62 n d nm A k c w (by omega) (by omega) he)
        unfold flC; rw [he]; (first | (simp; done) | (simp; omega) | omega)
      · refine go 5 ?_ (fl42_64 n d nm A k c w (by omega) (by omega) he)
        unfold flC; rw [he]; (first | (simp; done) | (simp; omega) | omega)
    · rcases (show (n < 0) ∨ (n = 0) ∨ (0 < n ∧ n ≤ 8) ∨ (8 < n) from by omega) with yn | yn | yn | yn
      · refine go 3 ?_ (fl42_59 n d nm A k c w (by omega) (by omega) he)
        unfold flC; rw [he]; subst yd; (first | (simp; done) | (simp; omega) | omega)
      · refine go 0 ?_ (fl42_61 n d nm A k c w (by omega) (by omega) he)
        unfold flC; rw [he]; subst yn; subst yd; (first | (simp; done) | (simp; omega) | omega)
      · refine go 0 ?_ (fl42_63 n d nm A k c w (by omega) (by omega) he)
        unfold flC; rw [he]; subst yd; (first | (simp; done) | (simp; omega) | omega)
      · refine go 3 ?_ (fl42_65 n d nm A k c w (by omega) (by omega) he)
        unfold flC; rw [he]; subst yd; (first | (simp; done) | (simp; omega) | omega)
  · refine go 5 ?_ (fl42_57 n d nm A k c w he)
    unfold flC; rw [he]; (first | (simp; done) | (simp; omega) | omega)
set_option maxHeartbeats 1000000 in
theorem fx42_9 (n d : Int) (nm : ByteArray) (A : Option Addr) (k c : Nat) (w : World) :
    Calls Try.prog 43 #[.agg #[.int .i64 9, .slice A k c, .int .i64 n, .int .i64 d, .string nm]] w fun e w' => e = .returned (.int .i64 (flC 9 n d nm.toList.isEmpty)) ∧ Below w.heap.size w w' := by
  have go : ∀ r : Int, flC 9 n d nm.toList.isEmpty = r → (Calls Try.prog 43 #[.agg #[.int .i64 9, .slice A k c, .int .i64 n, .int .i64 d, .string nm]] w fun e w' => e = .returned (.int .i64 r) ∧ Below w.heap.size w w') → Calls Try.prog 43 #[.agg #[.int .i64 9, .slice A k c, .int .i64 n, .int .i64 d, .string nm]] w fun e w' => e = .returned (.int .i64 (flC 9 n d nm.toList.isEmpty)) ∧ Below w.heap.size w w' := fun r hr h => by rw [hr]; exact h
  rcases tl_b nm with he | he
  · rcases (show (n ≠ 0) ∨ (n = 0) from by omega) with yn | yn
    · refine go 5 ?_ (fl42_66 n d nm A k c w (by omega) he)
      unfold flC; rw [he]; (first | (simp; done) | (simp; omega) | omega)
    · rcases (show (d ≠ 0) ∨ (d = 0) from by omega) with yd | yd
      · refine go 5 ?_ (fl42_67 n d nm A k c w (by omega) (by omega) he)
        unfold flC; rw [he]; subst yn; (first | (simp; done) | (simp; omega) | omega)
      · refine go 0 ?_ (fl42_68 n d nm A k c w (by omega) (by omega) he)
        unfold flC; rw [he]; subst yn; subst yd; (first | (simp; done) | (simp; omega) | omega)
  · rcases (show (n ≠ 0) ∨ (n = 0) from by omega) with yn | yn
    · refine go 5 ?_ (fl42_69 n d nm A k c w (by omega) he)
      unfold flC; rw [he]; (first | (simp; done) | (simp; omega) | omega)
    · rcases (show (d ≠ 0) ∨ (d = 0) from by omega) with yd | yd
      · refine go 5 ?_ (fl42_70 n d nm A k c w (by omega) (by omega) he)
        unfold flC; rw [he]; subst yn; (first | (simp; done) | (simp; omega) | omega)
      · refine go 0 ?_ (fl42_71 n d nm A k c w (by omega) (by omega) he)
        unfold flC; rw [he]; subst yn; subst yd; (first | (simp; done) | (simp; omega) | omega)
set_option maxHeartbeats 1000000 in
theorem fx42_o (op n d : Int) (nm : ByteArray) (A : Option Addr) (k c : Nat) (w : World) (g1 : op ≠ 10) (g2 : op ≠ 12) (g3 : op ≠ 15) (g4 : op ≠ 23) (g5 : op ≠ 9) :
    Calls Try.prog 43 #[.agg #[.int .i64 op, .slice A k c, .int .i64 n, .int .i64 d, .string nm]] w fun e w' => e = .returned (.int .i64 (flC op n d nm.toList.isEmpty)) ∧ Below w.heap.size w w' := by
  have go : ∀ r : Int, flC op n d nm.toList.isEmpty = r → (Calls Try.prog 43 #[.agg #[.int .i64 op, .slice A k c, .int .i64 n, .int .i64 d, .string nm]] w fun e w' => e = .returned (.int .i64 r) ∧ Below w.heap.size w w') → Calls Try.prog 43 #[.agg #[.int .i64 op, .slice A k c, .int .i64 n, .int .i64 d, .string nm]] w fun e w' => e = .returned (.int .i64 (flC op n d nm.toList.isEmpty)) ∧ Below w.heap.size w w' := fun r hr h => by rw [hr]; exact h
  rcases tl_b nm with he | he
  · rcases (show (n ≠ 0) ∨ (n = 0) from by omega) with yn | yn
    · refine go 5 ?_ (fl42_73 op n d nm A k c w (by simpa using g1) (by simpa using g2) (by simpa using g3) (by simpa using g4) (by simpa using g5) (by simpa using g3) (by simpa using g4) (by omega) he)
      unfold flC; rw [he]; (first | (simp; done) | (simp; omega) | omega)
    · rcases (show (d ≠ 0) ∨ (d = 0) from by omega) with yd | yd
      · refine go 5 ?_ (fl42_74 op n d nm A k c w (by simpa using g1) (by simpa using g2) (by simpa using g3) (by simpa using g4) (by simpa using g5) (by simpa using g3) (by simpa using g4) (by omega) (by omega) he)
        unfold flC; rw [he]; subst yn; (first | (simp; done) | (simp; omega) | omega)
      · refine go 0 ?_ (fl42_75 op n d nm A k c w (by simpa using g1) (by simpa using g2) (by simpa using g3) (by simpa using g4) (by simpa using g5) (by simpa using g3) (by simpa using g4) (by omega) (by omega) he)
        unfold flC; rw [he]; subst yn; subst yd; (first | (simp; done) | (simp; omega) | omega)
  · refine go 5 ?_ (fl42_72 op n d nm A k c w (by simpa using g1) (by simpa using g2) (by simpa using g3) (by simpa using g4) (by simpa using g5) (by simpa using g3) (by simpa using g4) he)
    unfold flC; rw [he]; (first | (simp; done) | (simp; omega) | omega)
theorem wrongnumbers_any (op n d : Int) (nm : ByteArray) (A : Option Addr) (k c : Nat) (w : World) :
    Calls Try.prog 43 #[.agg #[.int .i64 op, .slice A k c, .int .i64 n, .int .i64 d, .string nm]] w fun e w' => e = .returned (.int .i64 (flC op n d nm.toList.isEmpty)) ∧ Below w.heap.size w w' := by
  rcases (show op = 10 ∨ op = 12 ∨ op = 15 ∨ op = 23 ∨ op = 9 ∨ (op ≠ 10 ∧ op ≠ 12 ∧ op ≠ 15 ∧ op ≠ 23 ∧ op ≠ 9) from by omega) with rfl | rfl | rfl | rfl | rfl | ⟨g1, g2, g3, g4, g5⟩
  · exact fx42_10 n d nm A k c w
  · exact fx42_12 n d nm A k c w
  · exact fx42_15 n d nm A k c w
  · exact fx42_23 n d nm A k c w
  · exact fx42_9 n d nm A k c w
  · exact fx42_o op n d nm A k c w g1 g2 g3 g4 g5
end Go.Proofs.Ytjjjgffpmghfgaa
