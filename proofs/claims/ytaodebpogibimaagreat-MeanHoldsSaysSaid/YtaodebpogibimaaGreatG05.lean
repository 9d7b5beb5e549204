/-
  Asks: the name and the numbers of a node, as the program tells them.
  Asks: the sort of a node, as the program tells it.
  Asks: the sort of a node, operator by operator.
-/
import Derived.Test.YtaodebpogibimaaGreatAskI1
import Derived.Test.YtaodebpogibimaaGreatAskI2
import Derived.Test.YtaodebpogibimaaGreatAskI3
import Derived.Test.YtaodebpogibimaaGreatG04
namespace Go.Proofs.YtaodebpogibimaaGreat
open Go.RowKit

set_option maxHeartbeats 1000000 in
theorem fx42_10 (n d : Int) (nm : ByteArray) (A : Option Addr) (k c : Nat) (w : World) :
    Calls Tryz.prog 73 #[.agg #[.int .i64 10, .slice A k c, .int .i64 n, .int .i64 d, .string nm]] w fun e w' => e = .returned (.int .i64 (flC 10 n d nm.toList.isEmpty)) ∧ Below w.heap.size w w' := by
  have go : ∀ r : Int, flC 10 n d nm.toList.isEmpty = r → (Calls Tryz.prog 73 #[.agg #[.int .i64 10, .slice A k c, .int .i64 n, .int .i64 d, .string nm]] w fun e w' => e = .returned (.int .i64 r) ∧ Below w.heap.size w w') → Calls Tryz.prog 73 #[.agg #[.int .i64 10, .slice A k c, .int .i64 n, .int .i64 d, .string nm]] w fun e w' => e = .returned (.int .i64 (flC 10 n d nm.toList.isEmpty)) ∧ Below w.heap.size w w' := fun r hr h => by rw [hr]; exact h
  rcases tl_b nm with he | he
  · rcases (show (d = 0) ∨ (d ≠ 0) from by omega) with yd | yd
    · rcases (show (n = 0) ∨ (n ≠ 0) from by omega) with yn | yn
      · cases hf : isFr n d with
        | true =>
          refine go 0 ?_ (fl42_1 n d nm A k c w (by omega) (by omega) he hf)
          unfold flC; rw [he]; subst yn; subst yd; rw [hf]; simp
        | false =>
          refine go 3 ?_ (fl42_2 n d nm A k c w (by omega) (by omega) he hf)
          unfold flC; rw [he]; subst yn; subst yd; rw [hf]; simp
      · cases hf : isFr n d with
        | true =>
          refine go 0 ?_ (fl42_5 n d nm A k c w (by omega) (by omega) he hf)
          unfold flC; rw [he]; subst yd; rw [hf]; simp
        | false =>
          refine go 3 ?_ (fl42_6 n d nm A k c w (by omega) (by omega) he hf)
          unfold flC; rw [he]; subst yd; rw [hf]; simp
    · rcases (show (n = 0) ∨ (n ≠ 0) from by omega) with yn | yn
      · cases hf : isFr n d with
        | true =>
          refine go 0 ?_ (fl42_3 n d nm A k c w (by omega) (by omega) he hf)
          unfold flC; rw [he]; subst yn; rw [hf]; simp
        | false =>
          refine go 3 ?_ (fl42_4 n d nm A k c w (by omega) (by omega) he hf)
          unfold flC; rw [he]; subst yn; rw [hf]; simp
      · cases hf : isFr n d with
        | true =>
          refine go 0 ?_ (fl42_7 n d nm A k c w (by omega) (by omega) he hf)
          unfold flC; rw [he]; rw [hf]; simp
        | false =>
          refine go 3 ?_ (fl42_8 n d nm A k c w (by omega) (by omega) he hf)
          unfold flC; rw [he]; rw [hf]; simp
  · refine go 5 ?_ (fl42_0 n d nm A k c w he)
    unfold flC; rw [he]; (first | (simp; done) | (simp; omega) | omega)
set_option maxHeartbeats 1000000 in
theorem fx42_12 (n d : Int) (nm : ByteArray) (A : Option Addr) (k c : Nat) (w : World) :
    Calls Tryz.prog 73 #[.agg #[.int .i64 12, .slice A k c, .int .i64 n, .int .i64 d, .string nm]] w fun e w' => e = .returned (.int .i64 (flC 12 n d nm.toList.isEmpty)) ∧ Below w.heap.size w w' := by
  have go : ∀ r : Int, flC 12 n d nm.toList.isEmpty = r → (Calls Tryz.prog 73 #[.agg #[.int .i64 12, .slice A k c, .int .i64 n, .int .i64 d, .string nm]] w fun e w' => e = .returned (.int .i64 r) ∧ Below w.heap.size w w') → Calls Tryz.prog 73 #[.agg #[.int .i64 12, .slice A k c, .int .i64 n, .int .i64 d, .string nm]] w fun e w' => e = .returned (.int .i64 (flC 12 n d nm.toList.isEmpty)) ∧ Below w.heap.size w w' := fun r hr h => by rw [hr]; exact h
  rcases tl_b nm with he | he
  · rcases (show (d = 0) ∨ (d ≠ 0) from by omega) with yd | yd
    · rcases (show (n = 0) ∨ (n ≠ 0) from by omega) with yn | yn
      · cases hf : isFr n d with
        | true =>
          refine go 0 ?_ (fl42_10 n d nm A k c w (by omega) (by omega) he hf)
          unfold flC; rw [he]; subst yn; subst yd; rw [hf]; simp
        | false =>
          refine go 3 ?_ (fl42_11 n d nm A k c w (by omega) (by omega) he hf)
          unfold flC; rw [he]; subst yn; subst yd; rw [hf]; simp
      · cases hf : isFr n d with
        | true =>
          refine go 0 ?_ (fl42_14 n d nm A k c w (by omega) (by omega) he hf)
          unfold flC; rw [he]; subst yd; rw [hf]; simp
        | false =>
          refine go 3 ?_ (fl42_15 n d nm A k c w (by omega) (by omega) he hf)
          unfold flC; rw [he]; subst yd; rw [hf]; simp
    · rcases (show (n = 0) ∨ (n ≠ 0) from by omega) with yn | yn
      · cases hf : isFr n d with
        | true =>
          refine go 0 ?_ (fl42_12 n d nm A k c w (by omega) (by omega) he hf)
          unfold flC; rw [he]; subst yn; rw [hf]; simp
        | false =>
          refine go 3 ?_ (fl42_13 n d nm A k c w (by omega) (by omega) he hf)
          unfold flC; rw [he]; subst yn; rw [hf]; simp
      · cases hf : isFr n d with
        | true =>
          refine go 0 ?_ (fl42_16 n d nm A k c w (by omega) (by omega) he hf)
          unfold flC; rw [he]; rw [hf]; simp
        | false =>
          refine go 3 ?_ (fl42_17 n d nm A k c w (by omega) (by omega) he hf)
          unfold flC; rw [he]; rw [hf]; simp
  · refine go 5 ?_ (fl42_9 n d nm A k c w he)
    unfold flC; rw [he]; (first | (simp; done) | (simp; omega) | omega)
set_option maxHeartbeats 1000000 in
theorem fx42_15 (n d : Int) (nm : ByteArray) (A : Option Addr) (k c : Nat) (w : World) :
    Calls Tryz.prog 73 #[.agg #[.int .i64 15, .slice A k c, .int .i64 n, .int .i64 d, .string nm]] w fun e w' => e = .returned (.int .i64 (flC 15 n d nm.toList.isEmpty)) ∧ Below w.heap.size w w' := by
  have go : ∀ r : Int, flC 15 n d nm.toList.isEmpty = r → (Calls Tryz.prog 73 #[.agg #[.int .i64 15, .slice A k c, .int .i64 n, .int .i64 d, .string nm]] w fun e w' => e = .returned (.int .i64 r) ∧ Below w.heap.size w w') → Calls Tryz.prog 73 #[.agg #[.int .i64 15, .slice A k c, .int .i64 n, .int .i64 d, .string nm]] w fun e w' => e = .returned (.int .i64 (flC 15 n d nm.toList.isEmpty)) ∧ Below w.heap.size w w' := fun r hr h => by rw [hr]; exact h
  rcases tl_b nm with he | he
  · rcases (show (d < 0) ∨ (d = 0) ∨ (8 < d) ∨ (d = 1) ∨ (d = 2) ∨ (d = 3) ∨ (d = 4) ∨ (d = 5) ∨ (d = 6) ∨ (d = 7) ∨ (d = 8) from by omega) with yd | yd | yd | yd | yd | yd | yd | yd | yd | yd | yd
    · rcases (show (n = 0) ∨ (n ≠ 0) from by omega) with yn | yn
      · refine go 3 ?_ (fl42_19 n d nm A k c w (by omega) (by omega) he)
        unfold flC; rw [he]; subst yn; (first | (simp; done) | (simp; omega) | omega)
      · refine go 3 ?_ (fl42_20 n d nm A k c w (by omega) (by omega) he)
        unfold flC; rw [he]; (first | (simp; done) | (simp; omega) | omega)
    · rcases (show (n = 0) ∨ (n ≠ 0) from by omega) with yn | yn
      · refine go 3 ?_ (fl42_21 n d nm A k c w (by omega) (by omega) he)
        unfold flC; rw [he]; subst yn; subst yd; (first | (simp; done) | (simp; omega) | omega)
      · refine go 3 ?_ (fl42_22 n d nm A k c w (by omega) (by omega) he)
        unfold flC; rw [he]; subst yd; (first | (simp; done) | (simp; omega) | omega)
    · rcases (show (n = 0) ∨ (n ≠ 0) from by omega) with yn | yn
      · refine go 3 ?_ (fl42_23 n d nm A k c w (by omega) (by omega) he)
        unfold flC; rw [he]; subst yn; (first | (simp; done) | (simp; omega) | omega)
      · refine go 3 ?_ (fl42_24 n d nm A k c w (by omega) (by omega) he)
        unfold flC; rw [he]; (first | (simp; done) | (simp; omega) | omega)
    · rcases (show (n < 0) ∨ (n = 0) ∨ (0 < n ∧ n < 2) ∨ (2 ≤ n) from by omega) with yn | yn | yn | yn
      · refine go 3 ?_ (fl42_25 n d nm A k c w (by omega) (by omega) he)
        unfold flC; rw [he]; subst yd; (first | (simp; done) | (simp; omega) | omega)
      · refine go 0 ?_ (fl42_26 n d nm A k c w (by omega) (by omega) he)
        unfold flC; rw [he]; subst yn; subst yd; (first | (simp; done) | (simp; omega) | omega)
      · refine go 0 ?_ (fl42_27 n d nm A k c w (by omega) (by omega) he)
        unfold flC; rw [he]; subst yd; (first | (simp; done) | (simp; omega) | omega)
      · refine go 3 ?_ (fl42_28 n d nm A k c w (by omega) (by omega) he)
        unfold flC; rw [he]; subst yd; (first | (simp; done) | (simp; omega) | omega)
    · rcases (show (n < 0) ∨ (n = 0) ∨ (0 < n ∧ n < 4) ∨ (4 ≤ n) from by omega) with yn | yn | yn | yn
      · refine go 3 ?_ (fl42_29 n d nm A k c w (by omega) (by omega) he)
        unfold flC; rw [he]; subst yd; (first | (simp; done) | (simp; omega) | omega)
      · refine go 0 ?_ (fl42_30 n d nm A k c w (by omega) (by omega) he)
        unfold flC; rw [he]; subst yn; subst yd; (first | (simp; done) | (simp; omega) | omega)
      · refine go 0 ?_ (fl42_31 n d nm A k c w (by omega) (by omega) he)
        unfold flC; rw [he]; subst yd; (first | (simp; done) | (simp; omega) | omega)
      · refine go 3 ?_ (fl42_32 n d nm A k c w (by omega) (by omega) he)
        unfold flC; rw [he]; subst yd; (first | (simp; done) | (simp; omega) | omega)
    · rcases (show (n < 0) ∨ (n = 0) ∨ (0 < n ∧ n < 8) ∨ (8 ≤ n) from by omega) with yn | yn | yn | yn
      · refine go 3 ?_ (fl42_33 n d nm A k c w (by omega) (by omega) he)
        unfold flC; rw [he]; subst yd; (first | (simp; done) | (simp; omega) | omega)
      · refine go 0 ?_ (fl42_34 n d nm A k c w (by omega) (by omega) he)
        unfold flC; rw [he]; subst yn; subst yd; (first | (simp; done) | (simp; omega) | omega)
      · refine go 0 ?_ (fl42_35 n d nm A k c w (by omega) (by omega) he)
        unfold flC; rw [he]; subst yd; (first | (simp; done) | (simp; omega) | omega)
      · refine go 3 ?_ (fl42_36 n d nm A k c w (by omega) (by omega) he)
        unfold flC; rw [he]; subst yd; (first | (simp; done) | (simp; omega) | omega)
    · rcases (show (n < 0) ∨ (n = 0) ∨ (0 < n ∧ n < 16) ∨ (16 ≤ n) from by omega) with yn | yn | yn | yn
      · refine go 3 ?_ (fl42_37 n d nm A k c w (by omega) (by omega) he)
        unfold flC; rw [he]; subst yd; (first | (simp; done) | (simp; omega) | omega)
      · refine go 0 ?_ (fl42_38 n d nm A k c w (by omega) (by omega) he)
        unfold flC; rw [he]; subst yn; subst yd; (first | (simp; done) | (simp; omega) | omega)
      · refine go 0 ?_ (fl42_39 n d nm A k c w (by omega) (by omega) he)
        unfold flC; rw [he]; subst yd; (first | (simp; done) | (simp; omega) | omega)
      · refine go 3 ?_ (fl42_40 n d nm A k c w (by omega) (by omega) he)
        unfold flC; rw [he]; subst yd; (first | (simp; done) | (simp; omega) | omega)
    · rcases (show (n < 0) ∨ (n = 0) ∨ (0 < n ∧ n < 32) ∨ (32 ≤ n) from by omega) with yn | yn | yn | yn
      · refine go 3 ?_ (fl42_41 n d nm A k c w (by omega) (by omega) he)
        unfold flC; rw [he]; subst yd; (first | (simp; done) | (simp; omega) | omega)
      · refine go 0 ?_ (fl42_42 n d nm A k c w (by omega) (by omega) he)
        unfold flC; rw [he]; subst yn; subst yd; (first | (simp; done) | (simp; omega) | omega)
      · refine go 0 ?_ (fl42_43 n d nm A k c w (by omega) (by omega) he)
        unfold flC; rw [he]; subst yd; (first | (simp; done) | (simp; omega) | omega)
      · refine go 3 ?_ (fl42_44 n d nm A k c w (by omega) (by omega) he)
        unfold flC; rw [he]; subst yd; (first | (simp; done) | (simp; omega) | omega)
    · rcases (show (n < 0) ∨ (n = 0) ∨ (0 < n ∧ n < 64) ∨ (64 ≤ n) from by omega) with yn | yn | yn | yn
      · refine go 3 ?_ (fl42_45 n d nm A k c w (by omega) (by omega) he)
        unfold flC; rw [he]; subst yd; (first | (simp; done) | (simp; omega) | omega)
      · refine go 0 ?_ (fl42_46 n d nm A k c w (by omega) (by omega) he)
        unfold flC; rw [he]; subst yn; subst yd; (first | (simp; done) | (simp; omega) | omega)
      · refine go 0 ?_ (fl42_47 n d nm A k c w (by omega) (by omega) he)
        unfold flC; rw [he]; subst yd; (first | (simp; done) | (simp; omega) | omega)
      · refine go 3 ?_ (fl42_48 n d nm A k c w (by omega) (by omega) he)
        unfold flC; rw [he]; subst yd; (first | (simp; done) | (simp; omega) | omega)
    · rcases (show (n < 0) ∨ (n = 0) ∨ (0 < n ∧ n < 128) ∨ (128 ≤ n) from by omega) with yn | yn | yn | yn
      · refine go 3 ?_ (fl42_49 n d nm A k c w (by omega) (by omega) he)
        unfold flC; rw [he]; subst yd; (first | (simp; done) | (simp; omega) | omega)
      · refine go 0 ?_ (fl42_50 n d nm A k c w (by omega) (by omega) he)
        unfold flC; rw [he]; subst yn; subst yd; (first | (simp; done) | (simp; omega) | omega)
      · refine go 0 ?_ (fl42_51 n d nm A k c w (by omega) (by omega) he)
        unfold flC; rw [he]; subst yd; (first | (simp; done) | (simp; omega) | omega)
      · refine go 3 ?_ (fl42_52 n d nm A k c w (by omega) (by omega) he)
        unfold flC; rw [he]; subst yd; (first | (simp; done) | (simp; omega) | omega)
    · rcases (show (n < 0) ∨ (n = 0) ∨ (0 < n ∧ n < 256) ∨ (256 ≤ n) from by omega) with yn | yn | yn | yn
      · refine go 3 ?_ (fl42_53 n d nm A k c w (by omega) (by omega) he)
        unfold flC; rw [he]; subst yd; (first | (simp; done) | (simp; omega) | omega)
      · refine go 0 ?_ (fl42_54 n d nm A k c w (by omega) (by omega) he)
        unfold flC; rw [he]; subst yn; subst yd; (first | (simp; done) | (simp; omega) | omega)
      · refine go 0 ?_ (fl42_55 n d nm A k c w (by omega) (by omega) he)
        unfold flC; rw [he]; subst yd; (first | (simp; done) | (simp; omega) | omega)
      · refine go 3 ?_ (fl42_56 n d nm A k c w (by omega) (by omega) he)
        unfold flC; rw [he]; subst yd; (first | (simp; done) | (simp; omega) | omega)
  · refine go 5 ?_ (fl42_18 n d nm A k c w he)
    unfold flC; rw [he]; (first | (simp; done) | (simp; omega) | omega)
set_option maxHeartbeats 1000000 in
theorem fx42_23 (n d : Int) (nm : ByteArray) (A : Option Addr) (k c : Nat) (w : World) :
    Calls Tryz.prog 73 #[.agg #[.int .i64 23, .slice A k c, .int .i64 n, .int .i64 d, .string nm]] w fun e w' => e = .returned (.int .i64 (flC 23 n d nm.toList.isEmpty)) ∧ Below w.heap.size w w' := by
  have go : ∀ r : Int, flC 23 n d nm.toList.isEmpty = r → (Calls Tryz.prog 73 #[.agg #[.int .i64 23, .slice A k c, .int .i64 n, .int .i64 d, .string nm]] w fun e w' => e = .returned (.int .i64 r) ∧ Below w.heap.size w w') → Calls Tryz.prog 73 #[.agg #[.int .i64 23, .slice A k c, .int .i64 n, .int .i64 d, .string nm]] w fun e w' => e = .returned (.int .i64 (flC 23 n d nm.toList.isEmpty)) ∧ Below w.heap.size w w' := fun r hr h => by rw [hr]; exact h
  rcases tl_b nm with he | he
  · rcases (show (d ≠ 0) ∨ (d = 0) from by omega) with yd | yd
    · rcases (show (n < 0) ∨ (n = 0) ∨ (0 < n ∧ n ≤ 8) ∨ (8 < n) from by omega) with yn | yn | yn | yn
      · refine go 5 ?_ (fl42_58 n d nm A k c w (by omega) (by omega) he)
        unfold flC; rw [he]; (first | (simp; done) | (simp; omega) | omega)
      · refine go 5 ?_ (fl42_60 n d nm A k c w (by omega) (by omega) he)
        unfold flC; rw [he]; subst yn; (first | (simp; done) | (simp; omega) | omega)
      · refine go 5 ?_ (fl42_62 n d nm A k c w (by omega) (by omega) he)
        unfold flC; rw [he]; (first | (simp; done) | (simp; omega) | omega)
      · refine go 5 ?_ (fl42_64 n d nm A k c w (by omega) (by omega) he)
        unfold flC; rw [he]; (first | (simp; done) | (simp; omega) | omega)
    · rcases (show (n < 0) ∨ (n = 0) ∨ (0 < n ∧ n ≤ 8) ∨ (8 < n) from by omega) with yn | yn | yn | yn
      · refine go 3 ?_ (fl42_59 n d nm A k c w (by omega) (by omega) he)
        unfold flC; rw [he]; subst yd; (first | (simp; done) | (simp; omega) | omega)
      · refine go 0 ?_ (fl42_61 n d nm A k c w (by omega) (by omega) he)
        unfold flC; rw [he]; subst yn; subst yd; (first | (simp; done) | (simp; omega) | omega)
      · refine go 0 ?_ (fl42_63 n d nm A k c w (by omega) (by omega) he)
        unfold flC; rw [he]; subst yd; (first | (simp; done) | (simp; omega) | omega)
      · refine go 3 ?_ (fl42_65 n d nm A k c w (by omega) (by omega) he)
        unfold flC; rw [he]; subst yd; (first | (simp; done) | (simp; omega) | omega)
  · refine go 5 ?_ (fl42_57 n d nm A k c w he)
    unfold flC; rw [he]; (first | (simp; done) | (simp; omega) | omega)
set_option maxHeartbeats 1000000 in
theorem fx42_9 (n d : Int) (nm : ByteArray) (A : Option Addr) (k c : Nat) (w : World) :
    Calls Tryz.prog 73 #[.agg #[.int .i64 9, .slice A k c, .int .i64 n, .int .i64 d, .string nm]] w fun e w' => e = .returned (.int .i64 (flC 9 n d nm.toList.isEmpty)) ∧ Below w.heap.size w w' := by
  have go : ∀ r : Int, flC 9 n d nm.toList.isEmpty = r → (Calls Tryz.prog 73 #[.agg #[.int .i64 9, .slice A k c, .int .i64 n, .int .i64 d, .string nm]] w fun e w' => e = .returned (.int .i64 r) ∧ Below w.heap.size w w') → Calls Tryz.prog 73 #[.agg #[.int .i64 9, .slice A k c, .int .i64 n, .int .i64 d, .string nm]] w fun e w' => e = .returned (.int .i64 (flC 9 n d nm.toList.isEmpty)) ∧ Below w.heap.size w w' := fun r hr h => by rw [hr]; exact h
  rcases tl_b nm with he | he
  · rcases (show (n ≠ 0) ∨ (n = 0) from by omega) with yn | yn
    · refine go 5 ?_ (fl42_66 n d nm A k c w (by omega) he)
      unfold flC; rw [he]; (first | (simp; done) | (simp; omega) | omega)
    · rcases (show (d ≠ 0) ∨ (d = 0) from by omega) with yd | yd
      · refine go 5 ?_ (fl42_67 n d nm A k c w (by omega) (by omega) he)
        unfold flC; rw [he]; subst yn; (first | (simp; done) | (simp; omega) | omega)
      · refine go 0 ?_ (fl42_68 n d nm A k c w (by omega) (by omega) he)
        unfold flC; rw [he]; subst yn; subst yd; (first | (simp; done) | (simp; omega) | omega)
  · rcases (show (n ≠ 0) ∨ (n = 0) from by omega) with yn | yn
    · refine go 5 ?_ (fl42_69 n d nm A k c w (by omega) he)
      unfold flC; rw [he]; (first | (simp; done) | (simp; omega) | omega)
    · rcases (show (d ≠ 0) ∨ (d = 0) from by omega) with yd | yd
      · refine go 5 ?_ (fl42_70 n d nm A k c w (by omega) (by omega) he)
        unfold flC; rw [he]; subst yn; (first | (simp; done) | (simp; omega) | omega)
      · refine go 0 ?_ (fl42_71 n d nm A k c w (by omega) (by omega) he)
        unfold flC; rw [he]; subst yn; subst yd; (first | (simp; done) | (simp; omega) | omega)
set_option maxHeartbeats 1000000 in
theorem fx42_o (op n d : Int) (nm : ByteArray) (A : Option Addr) (k c : Nat) (w : World) (g1 : op ≠ 10) (g2 : op ≠ 12) (g3 : op ≠ 15) (g4 : op ≠ 23) (g5 : op ≠ 9) :
    Calls Tryz.prog 73 #[.agg #[.int .i64 op, .slice A k c, .int .i64 n, .int .i64 d, .string nm]] w fun e w' => e = .returned (.int .i64 (flC op n d nm.toList.isEmpty)) ∧ Below w.heap.size w w' := by
  have go : ∀ r : Int, flC op n d nm.toList.isEmpty = r → (Calls Tryz.prog 73 #[.agg #[.int .i64 op, .slice A k c, .int .i64 n, .int .i64 d, .string nm]] w fun e w' => e = .returned (.int .i64 r) ∧ Below w.heap.size w w') → Calls Tryz.prog 73 #[.agg #[.int .i64 op, .slice A k c, .int .i64 n, .int .i64 d, .string nm]] w fun e w' => e = .returned (.int .i64 (flC op n d nm.toList.isEmpty)) ∧ Below w.heap.size w w' := fun r hr h => by rw [hr]; exact h
  rcases tl_b nm with he | he
  · rcases (show (n ≠ 0) ∨ (n = 0) from by omega) with yn | yn
    · refine go 5 ?_ (fl42_73 op n d nm A k c w (by simpa using g1) (by simpa using g2) (by simpa using g3) (by simpa using g4) (by simpa using g5) (by simpa using g3) (by simpa using g4) (by omega) he)
      unfold flC; rw [he]; (first | (simp; done) | (simp; omega) | omega)
    · rcases (show (d ≠ 0) ∨ (d = 0) from by omega) with yd | yd
      · refine go 5 ?_ (fl42_74 op n d nm A k c w (by simpa using g1) (by simpa using g2) (by simpa using g3) (by simpa using g4) (by simpa using g5) (by simpa using g3) (by simpa using g4) (by omega) (by omega) he)
        unfold flC; rw [he]; subst yn; (first | (simp; done) | (simp; omega) | omega)
      · refine go 0 ?_ (fl42_75 op n d nm A k c w (by simpa using g1) (by simpa using g2) (by simpa using g3) (by simpa using g4) (by simpa using g5) (by simpa using g3) (by simpa using g4) (by omega) (by omega) he)
        unfold flC; rw [he]; subst yn; subst yd; (first | (simp; done) | (simp; omega) | omega)
  · refine go 5 ?_ (fl42_72 op n d nm A k c w (by simpa using g1) (by simpa using g2) (by simpa using g3) (by simpa using g4) (by simpa using g5) (by simpa using g3) (by simpa using g4) he)
    unfold flC; rw [he]; (first | (simp; done) | (simp; omega) | omega)
theorem wrongnumbers_any (op n d : Int) (nm : ByteArray) (A : Option Addr) (k c : Nat) (w : World) :
    Calls Tryz.prog 73 #[.agg #[.int .i64 op, .slice A k c, .int .i64 n, .int .i64 d, .string nm]] w fun e w' => e = .returned (.int .i64 (flC op n d nm.toList.isEmpty)) ∧ Below w.heap.size w w' := by
  rcases (show op = 10 ∨ op = 12 ∨ op = 15 ∨ op = 23 ∨ op = 9 ∨ (op ≠ 10 ∧ op ≠ 12 ∧ op ≠ 15 ∧ op ≠ 23 ∧ op ≠ 9) from by omega) with rfl | rfl | rfl | rfl | rfl | ⟨g1, g2, g3, g4, g5⟩
  · exact fx42_10 n d nm A k c w
  · exact fx42_12 n d nm A k c w
  · exact fx42_15 n d nm A k c w
  · exact fx42_23 n d nm A k c w
  · exact fx42_9 n d nm A k c w
  · exact fx42_o op n d nm A k c w g1 g2 g3 g4 g5
end Go.Proofs.YtaodebpogibimaaGreat
namespace Go.Proofs.YtaodebpogibimaaGreat
open Go.RowKit

/-- A sort, if it is allowed. -/
def whn (b : Bool) (s : Int) : Int := if b then s else 0
theorem whn_any (b : Bool) (s : Int) (w : World) : Calls Tryz.prog 104 #[.bool b, .int .i64 s] w fun e w' => e = .returned (.int .i64 (whn b s)) ∧ w = w' := when_any b s w
/-- The sort of a number, a sum or a product. -/
def numS (op d : Int) (ks : List Int) : Int := if (op ≠ 11 ∧ d ≠ 1) ∨ ks.all sIn = false then 3 else 2
/-- The sort of a node, by its kids' sorts; 0: one may not stand there. -/
def srt (op d ds : Int) (ks : List Int) : Int :=
  if op ≤ 6 then whn (ks.all sBo) 1
  else if op = 7 then whn (sBo (nth ks 0) && (nth ks 1 == nth ks 2) && (nth ks 1 != 5)) (nth ks 1)
  else if op = 8 then whn (ks.all sNu || ks.all sTh || sSw ks) 1
  else if op = 9 then whn (ks.all sTh) ds
  else if op ≤ 12 then whn (ks.all sNu) (numS op d ks)
  else if op ≤ 14 then whn (ks.all sNu) 1
  else if op = 15 then 10 + d
  else if op ≤ 21 ∨ op = 23 then whn (sSw ks) (nth ks 0)
  else if op = 22 then whn (sSw ks) 1
  else if op = 24 then whn ((nth ks 0 == 5) && sTh (nth ks 1)) 4
  else whn ((nth ks 0 == 5) && (sTh (nth ks 1) && sTh (nth ks 2))) 5
/-- How many kids an operator has; -1: any number. -/
def kcN (op : Int) : Int := if op ≤ 2 ∨ op = 10 ∨ op = 15 then 0 else if op = 3 ∨ op = 12 ∨ op = 16 ∨ op = 23 then 1 else if op = 7 ∨ op = 25 then 3 else if op = 4 ∨ op = 5 ∨ op = 11 then -1 else 2
theorem ag5 {w : World} {g : Nat} {a b c d e : Value} (h : HB w g 56 #[a, b, c, d, e]) : w.cell? ⟨g, 0, none⟩ = some a ∧ w.cell? ⟨g, 1, none⟩ = some b ∧ w.cell? ⟨g, 2, none⟩ = some c ∧ w.cell? ⟨g, 3, none⟩ = some d ∧ w.cell? ⟨g, 4, none⟩ = some e := h.five
set_option maxHeartbeats 1000000 in
theorem number_any (op n d : Int) (nm : ByteArray) (A0 : Option Addr) (k0 c0 : Nat) (ks : List Int) (A : Option Addr) (c : Nat) (hl : ks.length ≤ maxLen) (w : World) (h : Is w A ks) :
    Calls Tryz.prog 108 #[.agg #[.int .i64 op, .slice A0 k0 c0, .int .i64 n, .int .i64 d, .string nm], .slice A ks.length c] w fun e w' => e = .returned (.int .i64 (numS op d ks)) ∧ Below w.heap.size w w' := by
  have HV := Lib.hid (fun (W : World) (hW : Is W A ks) => everyint_any ks A c hl W hW)
  have HA := Lib.hid (h.below (new_below w (.cells #[.int .i64 op, .slice A0 k0 c0, .int .i64 n, .int .i64 d, .string nm] 56)))
  clear h hl
  generalize ks.length = L at *
  by_cases h1 : op ≠ 11 ∧ d ≠ 1
  · have d1 : (op != 11) = true := by simpa using h1.1
    have d2 : (d != 1) = true := by simpa using h1.2
    rw [show numS op d ks = 3 by unfold numS; rw [if_pos (.inl h1)]]
    clear h1
    go_enter Tryz.func108, Tryz.ntmps108
    go_wp2_with fail
    go_ret
    exact ⟨rfl, new_below _ _⟩
  · have HE : numS op d ks = if ks.all sIn = false then 3 else 2 := by unfold numS; simp only [h1, false_or]
    cases hq : ks.all sIn with
    | true =>
      have HQ := Lib.hid hq
      rw [HE, hq, if_neg (by decide)]
      clear HE hq
      by_cases h2 : op = 11
      · have d1 : (op != 11) = false := by simpa using h2
        clear h1 h2
        go_enter Tryz.func108, Tryz.ntmps108
        go_wp2_with fail
        refine (HV.out _ HA.out).mono ?_
        rintro e w1 ⟨rfl, hb1⟩
        have HB1 := Lib.hid (bw_below (Nat.le_refl _) (new_below w _) hb1)
        clear hb1
        rw [HQ.out]
        go_wp2_with fail
        go_ret
        exact ⟨rfl, HB1.out⟩
      · have d1 : (op != 11) = true := by simpa using h2
        have d2 : (d != 1) = false := by simp at h1; simpa using h1 h2
        clear h1 h2
        go_enter Tryz.func108, Tryz.ntmps108
        go_wp2_with fail
        refine (HV.out _ HA.out).mono ?_
        rintro e w1 ⟨rfl, hb1⟩
        have HB1 := Lib.hid (bw_below (Nat.le_refl _) (new_below w _) hb1)
        clear hb1
        rw [HQ.out]
        go_wp2_with fail
        go_ret
        exact ⟨rfl, HB1.out⟩
    | false =>
      have HQ := Lib.hid hq
      rw [HE, hq, if_pos rfl]
      clear HE hq
      by_cases h2 : op = 11
      · have d1 : (op != 11) = false := by simpa using h2
        clear h1 h2
        go_enter Tryz.func108, Tryz.ntmps108
        go_wp2_with fail
        refine (HV.out _ HA.out).mono ?_
        rintro e w1 ⟨rfl, hb1⟩
        have HB1 := Lib.hid (bw_below (Nat.le_refl _) (new_below w _) hb1)
        clear hb1
        rw [HQ.out]
        go_wp2_with fail
        go_ret
        exact ⟨rfl, HB1.out⟩
      · have d1 : (op != 11) = true := by simpa using h2
        have d2 : (d != 1) = false := by simp at h1; simpa using h1 h2
        clear h1 h2
        go_enter Tryz.func108, Tryz.ntmps108
        go_wp2_with fail
        refine (HV.out _ HA.out).mono ?_
        rintro e w1 ⟨rfl, hb1⟩
        have HB1 := Lib.hid (bw_below (Nat.le_refl _) (new_below w _) hb1)
        clear hb1
        rw [HQ.out]
        go_wp2_with fail
        go_ret
        exact ⟨rfl, HB1.out⟩
end Go.Proofs.YtaodebpogibimaaGreat
namespace Go.Proofs.YtaodebpogibimaaGreat
open Go.RowKit

set_option maxHeartbeats 2000000 in
theorem so43_1 (n d : Int) (nm : ByteArray) (A0 : Option Addr) (k0 c0 : Nat) (ds : Int) (ks : List Int) (A : Option Addr) (c : Nat) (hl : ks.length ≤ c) (hcm : c ≤ maxLen) (w : World) (h : Is w A ks) :
    Calls Tryz.prog 74 #[.agg #[.int .i64 1, .slice A0 k0 c0, .int .i64 n, .int .i64 d, .string nm], .int .i64 ds, .slice A ks.length c] w fun e w' => e = .returned (.int .i64 (srt 1 d ds ks)) ∧ Below w.heap.size w w' := by
  rw [show srt 1 d ds ks = whn (ks.all sBo) (1) by simp [srt]]
  have HV := Lib.hid (fun (W : World) (hW : Is W A ks) => everybool_any ks A c (Nat.le_trans hl hcm) W hW)
  have HA := Lib.hid (h.below (new_below w (.cells #[.int .i64 1, .slice A0 k0 c0, .int .i64 n, .int .i64 d, .string nm] 56)))
  clear h hl hcm
  generalize ks.length = L at *
  go_enter Tryz.func74, Tryz.ntmps74
  go_wp2_with fail
  refine (HV.out _ HA.out).mono ?_
  rintro e w1 ⟨rfl, hb1⟩
  have HB1 := Lib.hid (bw_below (Nat.le_refl _) (new_below w _) hb1)
  clear hb1
  go_wp2_with fail
  refine (whn_any _ _ _).mono ?_
  rintro e w2 ⟨rfl, rfl⟩
  go_wp2_with fail
  go_ret
  exact ⟨rfl, HB1.out⟩
set_option maxHeartbeats 2000000 in
theorem so43_2 (n d : Int) (nm : ByteArray) (A0 : Option Addr) (k0 c0 : Nat) (ds : Int) (ks : List Int) (A : Option Addr) (c : Nat) (hl : ks.length ≤ c) (hcm : c ≤ maxLen) (w : World) (h : Is w A ks) :
    Calls Tryz.prog 74 #[.agg #[.int .i64 2, .slice A0 k0 c0, .int .i64 n, .int .i64 d, .string nm], .int .i64 ds, .slice A ks.length c] w fun e w' => e = .returned (.int .i64 (srt 2 d ds ks)) ∧ Below w.heap.size w w' := by
  rw [show srt 2 d ds ks = whn (ks.all sBo) (1) by simp [srt]]
  have HV := Lib.hid (fun (W : World) (hW : Is W A ks) => everybool_any ks A c (Nat.le_trans hl hcm) W hW)
  have HA := Lib.hid (h.below (new_below w (.cells #[.int .i64 2, .slice A0 k0 c0, .int .i64 n, .int .i64 d, .string nm] 56)))
  clear h hl hcm
  generalize ks.length = L at *
  go_enter Tryz.func74, Tryz.ntmps74
  go_wp2_with fail
  refine (HV.out _ HA.out).mono ?_
  rintro e w1 ⟨rfl, hb1⟩
  have HB1 := Lib.hid (bw_below (Nat.le_refl _) (new_below w _) hb1)
  clear hb1
  go_wp2_with fail
  refine (whn_any _ _ _).mono ?_
  rintro e w2 ⟨rfl, rfl⟩
  go_wp2_with fail
  go_ret
  exact ⟨rfl, HB1.out⟩
set_option maxHeartbeats 2000000 in
theorem so43_3 (n d : Int) (nm : ByteArray) (A0 : Option Addr) (k0 c0 : Nat) (ds : Int) (ks : List Int) (A : Option Addr) (c : Nat) (hl : ks.length ≤ c) (hcm : c ≤ maxLen) (w : World) (h : Is w A ks) :
    Calls Tryz.prog 74 #[.agg #[.int .i64 3, .slice A0 k0 c0, .int .i64 n, .int .i64 d, .string nm], .int .i64 ds, .slice A ks.length c] w fun e w' => e = .returned (.int .i64 (srt 3 d ds ks)) ∧ Below w.heap.size w w' := by
  rw [show srt 3 d ds ks = whn (ks.all sBo) (1) by simp [srt]]
  have HV := Lib.hid (fun (W : World) (hW : Is W A ks) => everybool_any ks A c (Nat.le_trans hl hcm) W hW)
  have HA := Lib.hid (h.below (new_below w (.cells #[.int .i64 3, .slice A0 k0 c0, .int .i64 n, .int .i64 d, .string nm] 56)))
  clear h hl hcm
  generalize ks.length = L at *
  go_enter Tryz.func74, Tryz.ntmps74
  go_wp2_with fail
  refine (HV.out _ HA.out).mono ?_
  rintro e w1 ⟨rfl, hb1⟩
  have HB1 := Lib.hid (bw_below (Nat.le_refl _) (new_below w _) hb1)
  clear hb1
  go_wp2_with fail
  refine (whn_any _ _ _).mono ?_
  rintro e w2 ⟨rfl, rfl⟩
  go_wp2_with fail
  go_ret
  exact ⟨rfl, HB1.out⟩
set_option maxHeartbeats 2000000 in
theorem so43_4 (n d : Int) (nm : ByteArray) (A0 : Option Addr) (k0 c0 : Nat) (ds : Int) (ks : List Int) (A : Option Addr) (c : Nat) (hl : ks.length ≤ c) (hcm : c ≤ maxLen) (w : World) (h : Is w A ks) :
    Calls Tryz.prog 74 #[.agg #[.int .i64 4, .slice A0 k0 c0, .int .i64 n, .int .i64 d, .string nm], .int .i64 ds, .slice A ks.length c] w fun e w' => e = .returned (.int .i64 (srt 4 d ds ks)) ∧ Below w.heap.size w w' := by
  rw [show srt 4 d ds ks = whn (ks.all sBo) (1) by simp [srt]]
  have HV := Lib.hid (fun (W : World) (hW : Is W A ks) => everybool_any ks A c (Nat.le_trans hl hcm) W hW)
  have HA := Lib.hid (h.below (new_below w (.cells #[.int .i64 4, .slice A0 k0 c0, .int .i64 n, .int .i64 d, .string nm] 56)))
  clear h hl hcm
  generalize ks.length = L at *
  go_enter Tryz.func74, Tryz.ntmps74
  go_wp2_with fail
  refine (HV.out _ HA.out).mono ?_
  rintro e w1 ⟨rfl, hb1⟩
  have HB1 := Lib.hid (bw_below (Nat.le_refl _) (new_below w _) hb1)
  clear hb1
  go_wp2_with fail
  refine (whn_any _ _ _).mono ?_
  rintro e w2 ⟨rfl, rfl⟩
  go_wp2_with fail
  go_ret
  exact ⟨rfl, HB1.out⟩
set_option maxHeartbeats 2000000 in
theorem so43_5 (n d : Int) (nm : ByteArray) (A0 : Option Addr) (k0 c0 : Nat) (ds : Int) (ks : List Int) (A : Option Addr) (c : Nat) (hl : ks.length ≤ c) (hcm : c ≤ maxLen) (w : World) (h : Is w A ks) :
    Calls Tryz.prog 74 #[.agg #[.int .i64 5, .slice A0 k0 c0, .int .i64 n, .int .i64 d, .string nm], .int .i64 ds, .slice A ks.length c] w fun e w' => e = .returned (.int .i64 (srt 5 d ds ks)) ∧ Below w.heap.size w w' := by
  rw [show srt 5 d ds ks = whn (ks.all sBo) (1) by simp [srt]]
  have HV := Lib.hid (fun (W : World) (hW : Is W A ks) => everybool_any ks A c (Nat.le_trans hl hcm) W hW)
  have HA := Lib.hid (h.below (new_below w (.cells #[.int .i64 5, .slice A0 k0 c0, .int .i64 n, .int .i64 d, .string nm] 56)))
  clear h hl hcm
  generalize ks.length = L at *
  go_enter Tryz.func74, Tryz.ntmps74
  go_wp2_with fail
  refine (HV.out _ HA.out).mono ?_
  rintro e w1 ⟨rfl, hb1⟩
  have HB1 := Lib.hid (bw_below (Nat.le_refl _) (new_below w _) hb1)
  clear hb1
  go_wp2_with fail
  refine (whn_any _ _ _).mono ?_
  rintro e w2 ⟨rfl, rfl⟩
  go_wp2_with fail
  go_ret
  exact ⟨rfl, HB1.out⟩
set_option maxHeartbeats 2000000 in
theorem so43_6 (n d : Int) (nm : ByteArray) (A0 : Option Addr) (k0 c0 : Nat) (ds : Int) (ks : List Int) (A : Option Addr) (c : Nat) (hl : ks.length ≤ c) (hcm : c ≤ maxLen) (w : World) (h : Is w A ks) :
    Calls Tryz.prog 74 #[.agg #[.int .i64 6, .slice A0 k0 c0, .int .i64 n, .int .i64 d, .string nm], .int .i64 ds, .slice A ks.length c] w fun e w' => e = .returned (.int .i64 (srt 6 d ds ks)) ∧ Below w.heap.size w w' := by
  rw [show srt 6 d ds ks = whn (ks.all sBo) (1) by simp [srt]]
  have HV := Lib.hid (fun (W : World) (hW : Is W A ks) => everybool_any ks A c (Nat.le_trans hl hcm) W hW)
  have HA := Lib.hid (h.below (new_below w (.cells #[.int .i64 6, .slice A0 k0 c0, .int .i64 n, .int .i64 d, .string nm] 56)))
  clear h hl hcm
  generalize ks.length = L at *
  go_enter Tryz.func74, Tryz.ntmps74
  go_wp2_with fail
  refine (HV.out _ HA.out).mono ?_
  rintro e w1 ⟨rfl, hb1⟩
  have HB1 := Lib.hid (bw_below (Nat.le_refl _) (new_below w _) hb1)
  clear hb1
  go_wp2_with fail
  refine (whn_any _ _ _).mono ?_
  rintro e w2 ⟨rfl, rfl⟩
  go_wp2_with fail
  go_ret
  exact ⟨rfl, HB1.out⟩
set_option maxHeartbeats 2000000 in
theorem so43_9 (n d : Int) (nm : ByteArray) (A0 : Option Addr) (k0 c0 : Nat) (ds : Int) (ks : List Int) (A : Option Addr) (c : Nat) (hl : ks.length ≤ c) (hcm : c ≤ maxLen) (w : World) (h : Is w A ks) :
    Calls Tryz.prog 74 #[.agg #[.int .i64 9, .slice A0 k0 c0, .int .i64 n, .int .i64 d, .string nm], .int .i64 ds, .slice A ks.length c] w fun e w' => e = .returned (.int .i64 (srt 9 d ds ks)) ∧ Below w.heap.size w w' := by
  rw [show srt 9 d ds ks = whn (ks.all sTh) (ds) by simp [srt]]
  have HV := Lib.hid (fun (W : World) (hW : Is W A ks) => everything_any ks A c (Nat.le_trans hl hcm) W hW)
  have HA := Lib.hid (h.below (new_below w (.cells #[.int .i64 9, .slice A0 k0 c0, .int .i64 n, .int .i64 d, .string nm] 56)))
  clear h hl hcm
  generalize ks.length = L at *
  go_enter Tryz.func74, Tryz.ntmps74
  go_wp2_with fail
  refine (HV.out _ HA.out).mono ?_
  rintro e w1 ⟨rfl, hb1⟩
  have HB1 := Lib.hid (bw_below (Nat.le_refl _) (new_below w _) hb1)
  clear hb1
  go_wp2_with fail
  refine (whn_any _ _ _).mono ?_
  rintro e w2 ⟨rfl, rfl⟩
  go_wp2_with fail
  go_ret
  exact ⟨rfl, HB1.out⟩
set_option maxHeartbeats 2000000 in
theorem so43_13 (n d : Int) (nm : ByteArray) (A0 : Option Addr) (k0 c0 : Nat) (ds : Int) (ks : List Int) (A : Option Addr) (c : Nat) (hl : ks.length ≤ c) (hcm : c ≤ maxLen) (w : World) (h : Is w A ks) :
    Calls Tryz.prog 74 #[.agg #[.int .i64 13, .slice A0 k0 c0, .int .i64 n, .int .i64 d, .string nm], .int .i64 ds, .slice A ks.length c] w fun e w' => e = .returned (.int .i64 (srt 13 d ds ks)) ∧ Below w.heap.size w w' := by
  rw [show srt 13 d ds ks = whn (ks.all sNu) (1) by simp [srt]]
  have HV := Lib.hid (fun (W : World) (hW : Is W A ks) => everynum_any ks A c (Nat.le_trans hl hcm) W hW)
  have HA := Lib.hid (h.below (new_below w (.cells #[.int .i64 13, .slice A0 k0 c0, .int .i64 n, .int .i64 d, .string nm] 56)))
  clear h hl hcm
  generalize ks.length = L at *
  go_enter Tryz.func74, Tryz.ntmps74
  go_wp2_with fail
  refine (HV.out _ HA.out).mono ?_
  rintro e w1 ⟨rfl, hb1⟩
  have HB1 := Lib.hid (bw_below (Nat.le_refl _) (new_below w _) hb1)
  clear hb1
  go_wp2_with fail
  refine (whn_any _ _ _).mono ?_
  rintro e w2 ⟨rfl, rfl⟩
  go_wp2_with fail
  go_ret
  exact ⟨rfl, HB1.out⟩
set_option maxHeartbeats 2000000 in
theorem so43_14 (n d : Int) (nm : ByteArray) (A0 : Option Addr) (k0 c0 : Nat) (ds : Int) (ks : List Int) (A : Option Addr) (c : Nat) (hl : ks.length ≤ c) (hcm : c ≤ maxLen) (w : World) (h : Is w A ks) :
    Calls Tryz.prog 74 #[.agg #[.int .i64 14, .slice A0 k0 c0, .int .i64 n, .int .i64 d, .string nm], .int .i64 ds, .slice A ks.length c] w fun e w' => e = .returned (.int .i64 (srt 14 d ds ks)) ∧ Below w.heap.size w w' := by
  rw [show srt 14 d ds ks = whn (ks.all sNu) (1) by simp [srt]]
  have HV := Lib.hid (fun (W : World) (hW : Is W A ks) => everynum_any ks A c (Nat.le_trans hl hcm) W hW)
  have HA := Lib.hid (h.below (new_below w (.cells #[.int .i64 14, .slice A0 k0 c0, .int .i64 n, .int .i64 d, .string nm] 56)))
  clear h hl hcm
  generalize ks.length = L at *
  go_enter Tryz.func74, Tryz.ntmps74
  go_wp2_with fail
  refine (HV.out _ HA.out).mono ?_
  rintro e w1 ⟨rfl, hb1⟩
  have HB1 := Lib.hid (bw_below (Nat.le_refl _) (new_below w _) hb1)
  clear hb1
  go_wp2_with fail
  refine (whn_any _ _ _).mono ?_
  rintro e w2 ⟨rfl, rfl⟩
  go_wp2_with fail
  go_ret
  exact ⟨rfl, HB1.out⟩
set_option maxHeartbeats 2000000 in
theorem so43_15 (n d : Int) (nm : ByteArray) (A0 : Option Addr) (k0 c0 : Nat) (ds : Int) (ks : List Int) (A : Option Addr) (c : Nat) (_hl : ks.length ≤ c) (_hcm : c ≤ maxLen) (w : World) (_h : Is w A ks) (hd0 : -1000 ≤ d) (hd1 : d ≤ 1000) :
    Calls Tryz.prog 74 #[.agg #[.int .i64 15, .slice A0 k0 c0, .int .i64 n, .int .i64 d, .string nm], .int .i64 ds, .slice A ks.length c] w fun e w' => e = .returned (.int .i64 (srt 15 d ds ks)) ∧ Below w.heap.size w w' := by
  rw [show srt 15 d ds ks = 10 + d by simp [srt]]
  clear _h _hl _hcm
  generalize ks.length = L at *
  go_enter Tryz.func74, Tryz.ntmps74
  go_wp2_with fail
  go_ret
  exact ⟨rfl, new_below _ _⟩
set_option maxHeartbeats 2000000 in
theorem so43_22 (n d : Int) (nm : ByteArray) (A0 : Option Addr) (k0 c0 : Nat) (ds : Int) (ks : List Int) (A : Option Addr) (c : Nat) (hl : ks.length ≤ c) (hcm : c ≤ maxLen) (w : World) (h : Is w A ks) (hn : 0 < ks.length) :
    Calls Tryz.prog 74 #[.agg #[.int .i64 22, .slice A0 k0 c0, .int .i64 n, .int .i64 d, .string nm], .int .i64 ds, .slice A ks.length c] w fun e w' => e = .returned (.int .i64 (srt 22 d ds ks)) ∧ Below w.heap.size w w' := by
  rw [show srt 22 d ds ks = whn (sSw ks) 1 by simp [srt]]
  have HV := Lib.hid (fun (W : World) (hW : Is W A ks) => samewords_any ks A c hn (Nat.le_trans hl hcm) W hW)
  have HA := Lib.hid (h.below (new_below w (.cells #[.int .i64 22, .slice A0 k0 c0, .int .i64 n, .int .i64 d, .string nm] 56)))
  clear h hl hcm hn
  generalize ks.length = L at *
  go_enter Tryz.func74, Tryz.ntmps74
  go_wp2_with fail
  refine (HV.out _ HA.out).mono ?_
  rintro e w1 ⟨rfl, hb1⟩
  have HB1 := Lib.hid (bw_below (Nat.le_refl _) (new_below w _) hb1)
  clear hb1
  go_wp2_with fail
  refine (whn_any _ _ _).mono ?_
  rintro e w2 ⟨rfl, rfl⟩
  go_wp2_with fail
  go_ret
  exact ⟨rfl, HB1.out⟩
set_option maxHeartbeats 2000000 in
theorem so43_8 (n d : Int) (nm : ByteArray) (A0 : Option Addr) (k0 c0 : Nat) (ds : Int) (ks : List Int) (A : Option Addr) (c : Nat) (hl : ks.length ≤ c) (hcm : c ≤ maxLen) (w : World) (h : Is w A ks) (hn : 0 < ks.length) :
    Calls Tryz.prog 74 #[.agg #[.int .i64 8, .slice A0 k0 c0, .int .i64 n, .int .i64 d, .string nm], .int .i64 ds, .slice A ks.length c] w fun e w' => e = .returned (.int .i64 (srt 8 d ds ks)) ∧ Below w.heap.size w w' := by
  rw [show srt 8 d ds ks = whn (ks.all sNu || ks.all sTh || sSw ks) 1 by simp [srt]]
  have HV1 := Lib.hid (fun (W : World) (hW : Is W A ks) => everynum_any ks A c (Nat.le_trans hl hcm) W hW)
  have HV2 := Lib.hid (fun (W : World) (hW : Is W A ks) => everything_any ks A c (Nat.le_trans hl hcm) W hW)
  have HV3 := Lib.hid (fun (W : World) (hW : Is W A ks) => samewords_any ks A c hn (Nat.le_trans hl hcm) W hW)
  have HA := Lib.hid (h.below (new_below w (.cells #[.int .i64 8, .slice A0 k0 c0, .int .i64 n, .int .i64 d, .string nm] 56)))
  have HA0 := Lib.hid h
  clear h hl hcm hn
  generalize ks.length = L at *
  cases q1 : ks.all sNu with
  | true =>
    have Q1 := Lib.hid q1
    rw [Bool.true_or, Bool.true_or]
    clear q1
    go_enter Tryz.func74, Tryz.ntmps74
    go_wp2_with fail
    refine (HV1.out _ HA.out).mono ?_
    rintro e w1 ⟨rfl, hb1⟩
    have HB1 := Lib.hid (bw_below (Nat.le_refl _) (new_below w _) hb1)
    clear hb1
    rw [Q1.out]
    go_wp2_with fail
    refine (whn_any _ _ _).mono ?_
    rintro e w2 ⟨rfl, rfl⟩
    go_wp2_with fail
    go_ret
    exact ⟨rfl, HB1.out⟩
  | false =>
    have Q1 := Lib.hid q1
    cases q2 : ks.all sTh with
    | true =>
      have Q2 := Lib.hid q2
      rw [Bool.or_true, Bool.true_or]
      clear q1 q2
      go_enter Tryz.func74, Tryz.ntmps74
      go_wp2_with fail
      refine (HV1.out _ HA.out).mono ?_
      rintro e w1 ⟨rfl, hb1⟩
      have HB1 := Lib.hid (bw_below (Nat.le_refl _) (new_below w _) hb1)
      clear hb1
      rw [Q1.out]
      go_wp2_with fail
      refine (HV2.out _ (HA0.out.below HB1.out)).mono ?_
      rintro e w2 ⟨rfl, hb2⟩
      have HB2 := Lib.hid (bw_below (Nat.le_refl _) HB1.out hb2)
      clear hb2
      rw [Q2.out]
      go_wp2_with fail
      refine (whn_any _ _ _).mono ?_
      rintro e w2 ⟨rfl, rfl⟩
      go_wp2_with fail
      go_ret
      exact ⟨rfl, HB2.out⟩
    | false =>
      have Q2 := Lib.hid q2
      rw [Bool.or_false, Bool.false_or]
      clear q1 q2
      go_enter Tryz.func74, Tryz.ntmps74
      go_wp2_with fail
      refine (HV1.out _ HA.out).mono ?_
      rintro e w1 ⟨rfl, hb1⟩
      have HB1 := Lib.hid (bw_below (Nat.le_refl _) (new_below w _) hb1)
      clear hb1
      rw [Q1.out]
      go_wp2_with fail
      refine (HV2.out _ (HA0.out.below HB1.out)).mono ?_
      rintro e w2 ⟨rfl, hb2⟩
      have HB2 := Lib.hid (bw_below (Nat.le_refl _) HB1.out hb2)
      clear hb2
      rw [Q2.out]
      go_wp2_with fail
      refine (HV3.out _ (HA0.out.below HB2.out)).mono ?_
      rintro e w3 ⟨rfl, hb3⟩
      have HB3 := Lib.hid (bw_below (Nat.le_refl _) HB2.out hb3)
      clear hb3
      go_wp2_with fail
      refine (whn_any _ _ _).mono ?_
      rintro e w4 ⟨rfl, rfl⟩
      go_wp2_with fail
      go_ret
      exact ⟨rfl, HB3.out⟩
end Go.Proofs.YtaodebpogibimaaGreat
