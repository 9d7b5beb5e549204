/-
  Asks: the name and the numbers of a node, case by case.
  Asks: the name and the numbers of a node, as the program tells them.
  Asks: the sort of a node, as the program tells it.
-/
import Derived.Test.YtibpgcdaommjeaaG07
import Derived.Test.YtibpgcdaommjeaaG08
namespace Go.Proofs.Ytibpgcdaommjeaa
open Go.RowKit

set_option maxHeartbeats 1000000 in
theorem fl42_57 (n d : Int) (nm : ByteArray) (A : Option Addr) (k c : Nat) (w : World) (e : nm.toList.isEmpty = false) :
    Calls Try.prog 54 #[.agg #[.int .i64 23, .slice A k c, .int .i64 n, .int .i64 d, .string nm]] w fun e w' => e = .returned (.int .i64 5) ∧ Below w.heap.size w w' := by
  go_enter Try.func54, Try.ntmps54
  go_wp2_with fail
  go_ret
  exact ⟨rfl, new_below _ _⟩
set_option maxHeartbeats 1000000 in
theorem fl42_58 (n d : Int) (nm : ByteArray) (A : Option Addr) (k c : Nat) (w : World) (h0 : n < 0) (h1 : d ≠ 0) (e : nm.toList.isEmpty = true) :
    Calls Try.prog 54 #[.agg #[.int .i64 23, .slice A k c, .int .i64 n, .int .i64 d, .string nm]] w fun e w' => e = .returned (.int .i64 5) ∧ Below w.heap.size w w' := by
  have f1 : (n != 0) = true := by simp; omega
  have f2 : (d != 0) = true := by simp; omega
  have f3 : decide (n < 0) = true := by simp; omega
  have f4 : decide (8 < n) = false := by simp; omega
  clear h0 h1
  go_enter Try.func54, Try.ntmps54
  go_wp2_with fail
  go_ret
  exact ⟨rfl, new_below _ _⟩
set_option maxHeartbeats 1000000 in
theorem fl42_59 (n d : Int) (nm : ByteArray) (A : Option Addr) (k c : Nat) (w : World) (h0 : n < 0) (h1 : d = 0) (e : nm.toList.isEmpty = true) :
    Calls Try.prog 54 #[.agg #[.int .i64 23, .slice A k c, .int .i64 n, .int .i64 d, .string nm]] w fun e w' => e = .returned (.int .i64 3) ∧ Below w.heap.size w w' := by
  have f1 : (n != 0) = true := by simp; omega
  have f2 : decide (n < 0) = true := by simp; omega
  have f3 : decide (8 < n) = false := by simp; omega
  clear h0
  subst h1
  go_enter Try.func54, Try.ntmps54
  go_wp2_with fail
  go_quiet (fail)
  go_wp2_with fail
  go_ret
  exact ⟨rfl, below_dn (new_below _ _) _⟩
set_option maxHeartbeats 1000000 in
theorem fl42_60 (n d : Int) (nm : ByteArray) (A : Option Addr) (k c : Nat) (w : World) (h0 : n = 0) (h1 : d ≠ 0) (e : nm.toList.isEmpty = true) :
    Calls Try.prog 54 #[.agg #[.int .i64 23, .slice A k c, .int .i64 n, .int .i64 d, .string nm]] w fun e w' => e = .returned (.int .i64 5) ∧ Below w.heap.size w w' := by
  have f1 : (d != 0) = true := by simp; omega
  clear h1
  subst h0
  go_enter Try.func54, Try.ntmps54
  go_wp2_with fail
  go_ret
  exact ⟨rfl, new_below _ _⟩
set_option maxHeartbeats 1000000 in
theorem fl42_61 (n d : Int) (nm : ByteArray) (A : Option Addr) (k c : Nat) (w : World) (h0 : n = 0) (h1 : d = 0) (e : nm.toList.isEmpty = true) :
    Calls Try.prog 54 #[.agg #[.int .i64 23, .slice A k c, .int .i64 n, .int .i64 d, .string nm]] w fun e w' => e = .returned (.int .i64 0) ∧ Below w.heap.size w w' := by
  subst h0
  subst h1
  go_enter Try.func54, Try.ntmps54
  go_wp2_with fail
  go_quiet (fail)
  go_wp2_with fail
  go_ret
  exact ⟨rfl, below_dn (new_below _ _) _⟩
set_option maxHeartbeats 1000000 in
theorem fl42_62 (n d : Int) (nm : ByteArray) (A : Option Addr) (k c : Nat) (w : World) (h0 : 0 < n ∧ n ≤ 8) (h1 : d ≠ 0) (e : nm.toList.isEmpty = true) :
    Calls Try.prog 54 #[.agg #[.int .i64 23, .slice A k c, .int .i64 n, .int .i64 d, .string nm]] w fun e w' => e = .returned (.int .i64 5) ∧ Below w.heap.size w w' := by
  have f1 : (n != 0) = true := by simp; omega
  have f2 : (d != 0) = true := by simp; omega
  have f3 : decide (n < 0) = false := by simp; omega
  have f4 : decide (8 < n) = false := by simp; omega
  clear h0 h1
  go_enter Try.func54, Try.ntmps54
  go_wp2_with fail
  go_ret
  exact ⟨rfl, new_below _ _⟩
set_option maxHeartbeats 1000000 in
theorem fl42_63 (n d : Int) (nm : ByteArray) (A : Option Addr) (k c : Nat) (w : World) (h0 : 0 < n ∧ n ≤ 8) (h1 : d = 0) (e : nm.toList.isEmpty = true) :
    Calls Try.prog 54 #[.agg #[.int .i64 23, .slice A k c, .int .i64 n, .int .i64 d, .string nm]] w fun e w' => e = .returned (.int .i64 0) ∧ Below w.heap.size w w' := by
  have f1 : (n != 0) = true := by simp; omega
  have f2 : decide (n < 0) = false := by simp; omega
  have f3 : decide (8 < n) = false := by simp; omega
  clear h0
  subst h1
  go_enter Try.func54, Try.ntmps54
  go_wp2_with fail
  go_quiet (fail)
  go_wp2_with fail
  go_ret
  exact ⟨rfl, below_dn (new_below _ _) _⟩
set_option maxHeartbeats 1000000 in
theorem fl42_64 (n d : Int) (nm : ByteArray) (A : Option Addr) (k c : Nat) (w : World) (h0 : 8 < n) (h1 : d ≠ 0) (e : nm.toList.isEmpty = true) :
    Calls Try.prog 54 #[.agg #[.int .i64 23, .slice A k c, .int .i64 n, .int .i64 d, .string nm]] w fun e w' => e = .returned (.int .i64 5) ∧ Below w.heap.size w w' := by
  have f1 : (n != 0) = true := by simp; omega
  have f2 : (d != 0) = true := by simp; omega
  have f3 : decide (n < 0) = false := by simp; omega
  have f4 : decide (8 < n) = true := by simp; omega
  clear h0 h1
  go_enter Try.func54, Try.ntmps54
  go_wp2_with fail
  go_ret
  exact ⟨rfl, new_below _ _⟩
set_option maxHeartbeats 1000000 in
theorem fl42_65 (n d : Int) (nm : ByteArray) (A : Option Addr) (k c : Nat) (w : World) (h0 : 8 < n) (h1 : d = 0) (e : nm.toList.isEmpty = true) :
    Calls Try.prog 54 #[.agg #[.int .i64 23, .slice A k c, .int .i64 n, .int .i64 d, .string nm]] w fun e w' => e = .returned (.int .i64 3) ∧ Below w.heap.size w w' := by
  have f1 : (n != 0) = true := by simp; omega
  have f2 : decide (n < 0) = false := by simp; omega
  have f3 : decide (8 < n) = true := by simp; omega
  clear h0
  subst h1
  go_enter Try.func54, Try.ntmps54
  go_wp2_with fail
  go_quiet (fail)
  go_wp2_with fail
  go_ret
  exact ⟨rfl, below_dn (new_below _ _) _⟩
set_option maxHeartbeats 1000000 in
theorem fl42_66 (n d : Int) (nm : ByteArray) (A : Option Addr) (k c : Nat) (w : World) (h0 : n ≠ 0) (e : nm.toList.isEmpty = true) :
    Calls Try.prog 54 #[.agg #[.int .i64 9, .slice A k c, .int .i64 n, .int .i64 d, .string nm]] w fun e w' => e = .returned (.int .i64 5) ∧ Below w.heap.size w w' := by
  have f1 : (n != 0) = true := by simp; omega
  clear h0
  go_enter Try.func54, Try.ntmps54
  go_wp2_with fail
  go_ret
  exact ⟨rfl, new_below _ _⟩
set_option maxHeartbeats 1000000 in
theorem fl42_67 (n d : Int) (nm : ByteArray) (A : Option Addr) (k c : Nat) (w : World) (h0 : n = 0) (h1 : d ≠ 0) (e : nm.toList.isEmpty = true) :
    Calls Try.prog 54 #[.agg #[.int .i64 9, .slice A k c, .int .i64 n, .int .i64 d, .string nm]] w fun e w' => e = .returned (.int .i64 5) ∧ Below w.heap.size w w' := by
  have f1 : (d != 0) = true := by simp; omega
  clear h1
  subst h0
  go_enter Try.func54, Try.ntmps54
  go_wp2_with fail
  go_ret
  exact ⟨rfl, new_below _ _⟩
set_option maxHeartbeats 1000000 in
theorem fl42_68 (n d : Int) (nm : ByteArray) (A : Option Addr) (k c : Nat) (w : World) (h0 : n = 0) (h1 : d = 0) (e : nm.toList.isEmpty = true) :
    Calls Try.prog 54 #[.agg #[.int .i64 9, .slice A k c, .int .i64 n, .int .i64 d, .string nm]] w fun e w' => e = .returned (.int .i64 0) ∧ Below w.heap.size w w' := by
  subst h0
  subst h1
  go_enter Try.func54, Try.ntmps54
  go_wp2_with fail
  go_quiet (fail)
  go_wp2_with fail
  go_ret
  exact ⟨rfl, below_dn (new_below _ _) _⟩
set_option maxHeartbeats 1000000 in
theorem fl42_69 (n d : Int) (nm : ByteArray) (A : Option Addr) (k c : Nat) (w : World) (h0 : n ≠ 0) (e : nm.toList.isEmpty = false) :
    Calls Try.prog 54 #[.agg #[.int .i64 9, .slice A k c, .int .i64 n, .int .i64 d, .string nm]] w fun e w' => e = .returned (.int .i64 5) ∧ Below w.heap.size w w' := by
  have f1 : (n != 0) = true := by simp; omega
  clear h0
  go_enter Try.func54, Try.ntmps54
  go_wp2_with fail
  go_ret
  exact ⟨rfl, new_below _ _⟩
set_option maxHeartbeats 1000000 in
theorem fl42_70 (n d : Int) (nm : ByteArray) (A : Option Addr) (k c : Nat) (w : World) (h0 : n = 0) (h1 : d ≠ 0) (e : nm.toList.isEmpty = false) :
    Calls Try.prog 54 #[.agg #[.int .i64 9, .slice A k c, .int .i64 n, .int .i64 d, .string nm]] w fun e w' => e = .returned (.int .i64 5) ∧ Below w.heap.size w w' := by
  have f1 : (d != 0) = true := by simp; omega
  clear h1
  subst h0
  go_enter Try.func54, Try.ntmps54
  go_wp2_with fail
  go_ret
  exact ⟨rfl, new_below _ _⟩
set_option maxHeartbeats 1000000 in
theorem fl42_71 (n d : Int) (nm : ByteArray) (A : Option Addr) (k c : Nat) (w : World) (h0 : n = 0) (h1 : d = 0) (e : nm.toList.isEmpty = false) :
    Calls Try.prog 54 #[.agg #[.int .i64 9, .slice A k c, .int .i64 n, .int .i64 d, .string nm]] w fun e w' => e = .returned (.int .i64 0) ∧ Below w.heap.size w w' := by
  subst h0
  subst h1
  go_enter Try.func54, Try.ntmps54
  go_wp2_with fail
  go_quiet (fail)
  go_wp2_with fail
  go_ret
  exact ⟨rfl, below_dn (new_below _ _) _⟩
set_option maxHeartbeats 1000000 in
theorem fl42_72 (op n d : Int) (nm : ByteArray) (A : Option Addr) (k c : Nat) (w : World) (o1 : (op == 10) = false) (o2 : (op == 12) = false) (o3 : (op == 15) = false) (o4 : (op == 23) = false) (_o5 : (op != 9) = true) (_o6 : (op != 15) = true) (_o7 : (op != 23) = true) (e : nm.toList.isEmpty = false) :
    Calls Try.prog 54 #[.agg #[.int .i64 op, .slice A k c, .int .i64 n, .int .i64 d, .string nm]] w fun e w' => e = .returned (.int .i64 5) ∧ Below w.heap.size w w' := by
  go_enter Try.func54, Try.ntmps54
  go_wp2_with fail
  go_ret
  exact ⟨rfl, new_below _ _⟩
set_option maxHeartbeats 1000000 in
theorem fl42_73 (op n d : Int) (nm : ByteArray) (A : Option Addr) (k c : Nat) (w : World) (o1 : (op == 10) = false) (o2 : (op == 12) = false) (o3 : (op == 15) = false) (o4 : (op == 23) = false) (_o5 : (op != 9) = true) (_o6 : (op != 15) = true) (_o7 : (op != 23) = true) (h0 : n ≠ 0) (e : nm.toList.isEmpty = true) :
    Calls Try.prog 54 #[.agg #[.int .i64 op, .slice A k c, .int .i64 n, .int .i64 d, .string nm]] w fun e w' => e = .returned (.int .i64 5) ∧ Below w.heap.size w w' := by
  have f1 : (n != 0) = true := by simp; omega
  clear h0
  go_enter Try.func54, Try.ntmps54
  go_wp2_with fail
  go_ret
  exact ⟨rfl, new_below _ _⟩
set_option maxHeartbeats 1000000 in
theorem fl42_74 (op n d : Int) (nm : ByteArray) (A : Option Addr) (k c : Nat) (w : World) (o1 : (op == 10) = false) (o2 : (op == 12) = false) (o3 : (op == 15) = false) (o4 : (op == 23) = false) (_o5 : (op != 9) = true) (_o6 : (op != 15) = true) (_o7 : (op != 23) = true) (h0 : n = 0) (h1 : d ≠ 0) (e : nm.toList.isEmpty = true) :
    Calls Try.prog 54 #[.agg #[.int .i64 op, .slice A k c, .int .i64 n, .int .i64 d, .string nm]] w fun e w' => e = .returned (.int .i64 5) ∧ Below w.heap.size w w' := by
  have f1 : (d != 0) = true := by simp; omega
  clear h1
  subst h0
  go_enter Try.func54, Try.ntmps54
  go_wp2_with fail
  go_ret
  exact ⟨rfl, new_below _ _⟩
set_option maxHeartbeats 1000000 in
theorem fl42_75 (op n d : Int) (nm : ByteArray) (A : Option Addr) (k c : Nat) (w : World) (o1 : (op == 10) = false) (o2 : (op == 12) = false) (o3 : (op == 15) = false) (o4 : (op == 23) = false) (_o5 : (op != 9) = true) (_o6 : (op != 15) = true) (_o7 : (op != 23) = true) (h0 : n = 0) (h1 : d = 0) (e : nm.toList.isEmpty = true) :
    Calls Try.prog 54 #[.agg #[.int .i64 op, .slice A k c, .int .i64 n, .int .i64 d, .string nm]] w fun e w' => e = .returned (.int .i64 0) ∧ Below w.heap.size w w' := by
  subst h0
  subst h1
  go_enter Try.func54, Try.ntmps54
  go_wp2_with fail
  go_quiet (fail)
  go_wp2_with fail
  go_ret
  exact ⟨rfl, below_dn (new_below _ _) _⟩
end Go.Proofs.Ytibpgcdaommjeaa
namespace Go.Proofs.Ytibpgcdaommjeaa
open Go.RowKit

set_option maxHeartbeats 1000000 in
theorem fx42_10 (n d : Int) (nm : ByteArray) (A : Option Addr) (k c : Nat) (w : World) :
    Calls Try.prog 54 #[.agg #[.int .i64 10, .slice A k c, .int .i64 n, .int .i64 d, .string nm]] w fun e w' => e = .returned (.int .i64 (flC 10 n d nm.toList.isEmpty)) ∧ Below w.heap.size w w' := by
  have go : ∀ r : Int, flC 10 n d nm.toList.isEmpty = r → (Calls Try.prog 54 #[.agg #[.int .i64 10, .slice A k c, .int .i64 n, .int .i64 d, .string nm]] w fun e w' => e = .returned (.int .i64 r) ∧ Below w.heap.size w w') → Calls Try.prog 54 #[.agg #[.int .i64 10, .slice A k c, .int .i64 n, .int .i64 d, .string nm]] w fun e w' => e = .returned (.int .i64 (flC 10 n d nm.toList.isEmpty)) ∧ Below w.heap.size w w' := fun r hr h => by rw [hr]; exact h
  rcases tl_b nm with he | he
  · rcases (show (d = 0) ∨ (d ≠ 0) from by omega) with yd | yd
    · rcases (show (n = 0) ∨ (n ≠ 0) from by omega) with yn | yn
      · cases hf : isFr n d with
        | true =>
          refine go 0 ?_ (fl42_1 n d nm A k c w (by omega) (by omega) he hf)
          unfold flC; rw [he]; subst yn; subst yd; rw [hf]; simp
        | false =>
          refine go 3 ?_ (fl42_2 n d nm A k c w (by omega) (by omega) he hf)
          unfold flC; rw [he]; subst yn; subst yd; rw [hf]; simp
      · cases hf : isFr n d with
        | true =>
          refine go 0 ?_ (fl42_5 n d nm A k c w (by omega) (by omega) he hf)
          unfold flC; rw [he]; subst yd; rw [hf]; simp
        | false =>
          refine go 3 ?_ (fl42_6 n d nm A k c w (by omega) (by omega) he hf)
          unfold flC; rw [he]; subst yd; rw [hf]; simp
    · rcases (show (n = 0) ∨ (n ≠ 0) from by omega) with yn | yn
      · cases hf : isFr n d with
        | true =>
          refine go 0 ?_ (fl42_3 n d nm A k c w (by omega) (by omega) he hf)
          unfold flC; rw [he]; subst yn; rw [hf]; simp
        | false =>
          refine go 3 ?_ (fl42_4 n d nm A k c w (by omega) (by omega) he hf)
          unfold flC; rw [he]; subst yn; rw [hf]; simp
      · cases hf : isFr n d with
        | true =>
          refine go 0 ?_ (fl42_7 n d nm A k c w (by omega) (by omega) he hf)
          unfold flC; rw [he]; rw [hf]; simp
        | false =>
          refine go 3 ?_ (fl42_8 n d nm A k c w (by omega) (by omega) he hf)
          unfold flC; rw [he]; rw [hf]; simp
  · refine go 5 ?_ (fl42_0 n d nm A k c w he)
    unfold flC; rw [he]; (first | (simp; done) | (simp; omega) | omega)
set_option maxHeartbeats 1000000 in
theorem fx42_12 (n d : Int) (nm : ByteArray) (A : Option Addr) (k c : Nat) (w : World) :
    Calls Try.prog 54 #[.agg #[.int .i64 12, .slice A k c, .int .i64 n, .int .i64 d, .string nm]] w fun e w' => e = .returned (.int .i64 (flC 12 n d nm.toList.isEmpty)) ∧ Below w.heap.size w w' := by
  have go : ∀ r : Int, flC 12 n d nm.toList.isEmpty = r → (Calls Try.prog 54 #[.agg #[.int .i64 12, .slice A k c, .int .i64 n, .int .i64 d, .string nm]] w fun e w' => e = .returned (.int .i64 r) ∧ Below w.heap.size w w') → Calls Try.prog 54 #[.agg #[.int .i64 12, .slice A k c, .int .i64 n, .int .i64 d, .string nm]] w fun e w' => e = .returned (.int .i64 (flC 12 n d nm.toList.isEmpty)) ∧ Below w.heap.size w w' := fun r hr h => by rw [hr]; exact h
  rcases tl_b nm with he | he
  · rcases (show (d = 0) ∨ (d ≠ 0) from by omega) with yd | yd
    · rcases (show (n = 0) ∨ (n ≠ 0) from by omega) with yn | yn
      · cases hf : isFr n d with
        | true =>
          refine go 0 ?_ (fl42_10 n d nm A k c w (by omega) (by omega) he hf)
          unfold flC; rw [he]; subst yn; subst yd; rw [hf]; simp
        | false =>
          refine go 3 ?_ (fl42_11 n d nm A k c w (by omega) (by omega) he hf)
          unfold flC; rw [he]; subst yn; subst yd; rw [hf]; simp
      · cases hf : isFr n d with
        | true =>
          refine go 0 ?_ (fl42_14 n d nm A k c w (by omega) (by omega) he hf)
          unfold flC; rw [he]; subst yd; rw [hf]; simp
        | false =>
          refine go 3 ?_ (fl42_15 n d nm A k c w (by omega) (by omega) he hf)
          unfold flC; rw [he]; subst yd; rw [hf]; simp
    · rcases (show (n = 0) ∨ (n ≠ 0) from by omega) with yn | yn
      · cases hf : isFr n d with
        | true =>
          refine go 0 ?_ (fl42_12 n d nm A k c w (by omega) (by omega) he hf)
          unfold flC; rw [he]; subst yn; rw [hf]; simp
        | false =>
          refine go 3 ?_ (fl42_13 n d nm A k c w (by omega) (by omega) he hf)
          unfold flC; rw [he]; subst yn; rw [hf]; simp
      · cases hf : isFr n d with
        | true =>
          refine go 0 ?_ (fl42_16 n d nm A k c w (by omega) (by omega) he hf)
          unfold flC; rw [he]; rw [hf]; simp
        | false =>
          refine go 3 ?_ (fl42_17 n d nm A k c w (by omega) (by omega) he hf)
          unfold flC; rw [he]; rw [hf]; simp
  · refine go 5 ?_ (fl42_9 n d nm A k c w he)
    unfold flC; rw [he]; (first | (simp; done) | (simp; omega) | omega)
set_option maxHeartbeats 1000000 in
theorem fx42_15 (n d : Int) (nm : ByteArray) (A : Option Addr) (k c : Nat) (w : World) :
    Calls Try.prog 54 #[.agg #[.int .i64 15, .slice A k c, .int .i64 n, .int .i64 d, .string nm]] w fun e w' => e = .returned (.int .i64 (flC 15 n d nm.toList.isEmpty)) ∧ Below w.heap.size w w' := by
  have go : ∀ r : Int, flC 15 n d nm.toList.isEmpty = r → (Calls Try.prog 54 #[.agg #[.int .i64 15, .slice A k c, .int .i64 n, .int .i64 d, .string nm]] w fun e w' => e = .returned (.int .i64 r) ∧ Below w.heap.size w w') → Calls Try.prog 54 #[.agg #[.int .i64 15, .slice A k c, .int .i64 n, .int .i64 d, .string nm]] w fun e w' => e = .returned (.int .i64 (flC 15 n d nm.toList.isEmpty)) ∧ Below w.heap.size w w' := fun r hr h => by rw [hr]; exact h
  rcases tl_b nm with he | he
  · rcases (show (d < 0) ∨ (d = 0) ∨ (8 < d) ∨ (d = 1) ∨ (d = 2) ∨ (d = 3) ∨ (d = 4) ∨ (d = 5) ∨ (d = 6) ∨ (d = 7) ∨ (d = 8) from by omega) with yd | yd | yd | yd | yd | yd | yd | yd | yd | yd | yd
    · rcases (show (n = 0) ∨ (n ≠ 0) from by omega) with yn | yn
      · refine go 3 ?_ (fl42_19 n d nm A k c w (by omega) (by omega) he)
        unfold flC; rw [he]; subst yn; (first | (simp; done) | (simp; omega) | omega)
      · refine go 3 ?_ (fl42_20 n d nm A k c w (by omega) (by omega) he)
        unfold flC; rw [he]; (first | (simp; done) | (simp; omega) | omega)
    · rcases (show (n = 0) ∨ (n ≠ 0) from by omega) with yn | yn
      · refine go 3 ?_ (fl42_21 n d nm A k c w (by omega) (by omega) he)
        unfold flC; rw [he]; subst yn; subst yd; (first | (simp; done) | (simp; omega) | omega)
      · refine go 3 ?_ (fl42_22 n d nm A k c w (by omega) (by omega) he)
        unfold flC; rw [he]; subst yd; (first | (simp; done) | (simp; omega) | omega)
    · rcases (show (n = 0) ∨ (n ≠ 0) from by omega) with yn | yn
      · refine go 3 ?_ (fl42_23 n d nm A k c w (by omega) (by omega) he)
        unfold flC; rw [he]; subst yn; (first | (simp; done) | (simp; omega) | omega)
      · refine go 3 ?_ (fl42_24 n d nm A k c w (by omega) (by omega) he)
        unfold flC; rw [he]; (first | (simp; done) | (simp; omega) | omega)
    · rcases (show (n < 0) ∨ (n = 0) ∨ (0 < n ∧ n < 2) ∨ (2 ≤ n) from by omega) with yn | yn | yn | yn
      · refine go 3 ?_ (fl42_25 n d nm A k c w (by omega) (by omega) he)
        unfold flC; rw [he]; subst yd; (first | (simp; done) | (simp; omega) | omega)
      · refine go 0 ?_ (fl42_26 n d nm A k c w (by omega) (by omega) he)
        unfold flC; rw [he]; subst yn; subst yd; (first | (simp; done) | (simp; omega) | omega)
      · refine go 0 ?_ (fl42_27 n d nm A k c w (by omega) (by omega) he)
        unfold flC; rw [he]; subst yd; (first | (simp; done) | (simp; omega) | omega)
      · refine go 3 ?_ (fl42_28 n d nm A k c w (by omega) (by omega) he)
        unfold flC; rw [he]; subst yd; (first | (simp; done) | (simp; omega) | omega)
    · rcases (show (n < 0) ∨ (n = 0) ∨ (0 < n ∧ n < 4) ∨ (4 ≤ n) from by omega) with yn | yn | yn | yn
      · refine go 3 ?_ (fl42_29 n d nm A k c w (by omega) (by omega) he)
        unfold flC; rw [he]; subst yd; (first | (simp; done) | (simp; omega) | omega)
      · refine go 0 ?_ (fl42_30 n d nm A k c w (by omega) (by omega) he)
        unfold flC; rw [he]; subst yn; subst yd; (first | (simp; done) | (simp; omega) | omega)
      · refine go 0 ?_ (fl42_31 n d nm A k c w (by omega) (by omega) he)
        unfold flC; rw [he]; subst yd; (first | (simp; done) | (simp; omega) | omega)
      · refine go 3 ?_ (fl42_32 n d nm A k c w (by omega) (by omega) he)
        unfold flC; rw [he]; subst yd; (first | (simp; done) | (simp; omega) | omega)
    · rcases (show (n < 0) ∨ (n = 0) ∨ (0 < n ∧ n < 8) ∨ (8 ≤ n) from by omega) with yn | yn | yn | yn
      · refine go 3 ?_ (fl42_33 n d nm A k c w (by omega) (by omega) he)
        unfold flC; rw [he]; subst yd; (first | (simp; done) | (simp; omega) | omega)
      · refine go 0 ?_ (fl42_34 n d nm A k c w (by omega) (by omega) he)
        unfold flC; rw [he]; subst yn; subst yd; (first | (simp; done) | (simp; omega) | omega)
      · refine go 0 ?_ (fl42_35 n d nm A k c w (by omega) (by omega) he)
        unfold flC; rw [he]; subst yd; (first | (simp; done) | (simp; omega) | omega)
      · refine go 3 ?_ (fl42_36 n d nm A k c w (by omega) (by omega) he)
        unfold flC; rw [he]; subst yd; (first | (simp; done) | (simp; omega) | omega)
    · rcases (show (n < 0) ∨ (n = 0) ∨ (0 < n ∧ n < 16) ∨ (16 ≤ n) from by omega) with yn | yn | yn | yn
      · refine go 3 ?_ (fl42_37 n d nm A k c w (by omega) (by omega) he)
        unfold flC; rw [he]; subst yd; (first | (simp; done) | (simp; omega) | omega)
      · refine go 0 ?_ (fl42_38 n d nm A k c w (by omega) (by omega) he)
        unfold flC; rw [he]; subst yn; subst yd; (first | (simp; done) | (simp; omega) | omega)
      · refine go 0 ?_ (fl42_39 n d nm A k c w (by omega) (by omega) he)
        unfold flC; rw [he]; subst yd; (first | (simp; done) | (simp; omega) | omega)
      · refine go 3 ?_ (fl42_40 n d nm A k c w (by omega) (by omega) he)
        unfold flC; rw [he]; subst yd; (first | (simp; done) | (simp; omega) | omega)
    · rcases (show (n < 0) ∨ (n = 0) ∨ (0 < n ∧ n < 32) ∨ (32 ≤ n) from by omega) with yn | yn | yn | yn
      · refine go 3 ?_ (fl42_41 n d nm A k c w (by omega) (by omega) he)
        unfold flC; rw [he]; subst yd; (first | (simp; done) | (simp; omega) | omega)
      · refine go 0 ?_ (fl42_42 n d nm A k c w (by omega) (by omega) he)
        unfold flC; rw [he]; subst yn; subst yd; (first | (simp; done) | (simp; omega) | omega)
      · refine go 0 ?_ (fl42_43 n d nm A k c w (by omega) (by omega) he)
        unfold flC; rw [he]; subst yd; (first | (simp; done) | (simp; omega) | omega)
      · refine go 3 ?_ (fl42_44 n d nm A k c w (by omega) (by omega) he)
        unfold flC; rw [he]; subst yd; (first | (simp; done) | (simp; omega) | omega)
    · rcases (show (n < 0) ∨ (n = 0) ∨ (0 < n ∧ n < 64) ∨ (64 ≤ n) from by omega) with yn | yn | yn | yn
      · refine go 3 ?_ (fl42_45 n d nm A k c w (by omega) (by omega) he)
        unfold flC; rw [he]; subst yd; (first | (simp; done) | (simp; omega) | omega)
      · refine go 0 ?_ (fl42_46 n d nm A k c w (by omega) (by omega) he)
        unfold flC; rw [he]; subst yn; subst yd; (first | (simp; done) | (simp; omega) | omega)
      · refine go 0 ?_ (fl42_47 n d nm A k c w (by omega) (by omega) he)
        unfold flC; rw [he]; subst yd; (first | (simp; done) | (simp; omega) | omega)
      · refine go 3 ?_ (fl42_48 n d nm A k c w (by omega) (by omega) he)
        unfold flC; rw [he]; subst yd; (first | (simp; done) | (simp; omega) | omega)
    · rcases (show (n < 0) ∨ (n = 0) ∨ (0 < n ∧ n < 128) ∨ (128 ≤ n) from by omega) with yn | yn | yn | yn
      · refine go 3 ?_ (fl42_49 n d nm A k c w (by omega) (by omega) he)
        unfold flC; rw [he]; subst yd; (first | (simp; done) | (simp; omega) | omega)
      · refine go 0 ?_ (fl42_50 n d nm A k c w (by omega) (by omega) he)
        unfold flC; rw [he]; subst yn; subst yd; (first | (simp; done) | (simp; omega) | omega)
      · refine go 0 ?_ (fl42_51 n d nm A k c w (by omega) (by omega) he)
        unfold flC; rw [he]; subst yd; (first | (simp; done) | (simp; omega) | omega)
      · refine go 3 ?_ (fl42_52 n d nm A k c w (by omega) (by omega) he)
        unfold flC; rw [he]; subst yd; (first | (simp; done) | (simp; omega) | omega)
    · rcases (show (n < 0) ∨ (n = 0) ∨ (0 < n ∧ n < 256) ∨ (256 ≤ n) from by omega) with yn | yn | yn | yn
      · refine go 3 ?_ (fl42_53 n d nm A k c w (by omega) (by omega) he)
        unfold flC; rw [he]; subst yd; (first | (simp; done) | (simp; omega) | omega)
      · refine go 0 ?_ (fl42_54 n d nm A k c w (by omega) (by omega) he)
        unfold flC; rw [he]; subst yn; subst yd; (first | (simp; done) | (simp; omega) | omega)
      · refine go 0 ?_ (fl42_55 n d nm A k c w (by omega) (by omega) he)
        unfold flC; rw [he]; subst yd; (first | (simp; done) | (simp; omega) | omega)
      · refine go 3 ?_ (fl42_56 n d nm A k c w (by omega) (by omega) he)
        unfold flC; rw [he]; subst yd; (first | (simp; done) | (simp; omega) | omega)
  · refine go 5 ?_ (fl42_18 n d nm A k c w he)
    unfold flC; rw [he]; (first | (simp; done) | (simp; omega) | omega)
set_option maxHeartbeats 1000000 in
theorem fx42_23 (n d : Int) (nm : ByteArray) (A : Option Addr) (k c : Nat) (w : World) :
    Calls Try.prog 54 #[.agg #[.int .i64 23, .slice A k c, .int .i64 n, .int .i64 d, .string nm]] w fun e w' => e = .returned (.int .i64 (flC 23 n d nm.toList.isEmpty)) ∧ Below w.heap.size w w' := by
  have go : ∀ r : Int, flC 23 n d nm.toList.isEmpty = r → (Calls Try.prog 54 #[.agg #[.int .i64 23, .slice A k c, .int .i64 n, .int .i64 d, .string nm]] w fun e w' => e = .returned (.int .i64 r) ∧ Below w.heap.size w w') → Calls Try.prog 54 #[.agg #[.int .i64 23, .slice A k c, .int .i64 n, .int .i64 d, .string nm]] w fun e w' => e = .returned (.int .i64 (flC 23 n d nm.toList.isEmpty)) ∧ Below w.heap.size w w' := fun r hr h => by rw [hr]; exact h
  rcases tl_b nm with he | he
  · rcases (show (d ≠ 0) ∨ (d = 0) from by omega) with yd | yd
    · rcases (show (n < 0) ∨ (n = 0) ∨ (0 < n ∧ n ≤ 8) ∨ (8 < n) from by omega) with yn | yn | yn | yn
      · refine go 5 ?_ (fl42_58 n d nm A k c w (by omega) (by omega) he)
        unfold flC; rw [he]; (first | (simp; done) | (simp; omega) | omega)
      · refine go 5 ?_ (fl42_60 n d nm A k c w (by omega) (by omega) he)
        unfold flC; rw [he]; subst yn; (first | (simp; done) | (simp; omega) | omega)
      · refine go 5 ?_ (fl42_62 n d nm A k c w (by omega) (by omega) he)
        unfold flC; rw [he]; (first | (simp; done) | (simp; omega) | omega)
      · refine go 5 ?_ (fl42_64 n d nm A k c w (by omega) (by omega) he)
        unfold flC; rw [he]; (first | (simp; done) | (simp; omega) | omega)
    · rcases (show (n < 0) ∨ (n = 0) ∨ (0 < n ∧ n ≤ 8) ∨ (8 < n) from by omega) with yn | yn | yn | yn
      · refine go 3 ?_ (fl42_59 n d nm A k c w (by omega) (by omega) he)
        unfold flC; rw [he]; subst yd; (first | (simp; done) | (simp; omega) | omega)
      · refine go 0 ?_ (fl42_61 n d nm A k c w (by omega) (by omega) he)
        unfold flC; rw [he]; subst yn; subst yd; (first | (simp; done) | (simp; omega) | omega)
      · refine go 0 ?_ (fl42_63 n d nm A k c w (by omega) (by omega) he)
        unfold flC; rw [he]; subst yd; (first | (simp; done) | (simp; omega) | omega)
      · refine go 3 ?_ (fl42_65 n d nm A k c w (by omega) (by omega) he)
        unfold flC; rw [he]; subst yd; (first | (simp; done) | (simp; omega) | omega)
  · refine go 5 ?_ (fl42_57 n d nm A k c w he)
    unfold flC; rw [he]; (first | (simp; done) | (simp; omega) | omega)
set_option maxHeartbeats 1000000 in
theorem fx42_9 (n d : Int) (nm : ByteArray) (A : Option Addr) (k c : Nat) (w : World) :
    Calls Try.prog 54 #[.agg #[.int .i64 9, .slice A k c, .int .i64 n, .int .i64 d, .string nm]] w fun e w' => e = .returned (.int .i64 (flC 9 n d nm.toList.isEmpty)) ∧ Below w.heap.size w w' := by
  have go : ∀ r : Int, flC 9 n d nm.toList.isEmpty = r → (Calls Try.prog 54 #[.agg #[.int .i64 9, .slice A k c, .int .i64 n, .int .i64 d, .string nm]] w fun e w' => e = .returned (.int .i64 r) ∧ Below w.heap.size w w') → Calls Try.prog 54 #[.agg #[.int .i64 9, .slice A k c, .int .i64 n, .int .i64 d, .string nm]] w fun e w' => e = .returned (.int .i64 (flC 9 n d nm.toList.isEmpty)) ∧ Below w.heap.size w w' := fun r hr h => by rw [hr]; exact h
  rcases tl_b nm with he | he
  · rcases (show (n ≠ 0) ∨ (n = 0) from by omega) with yn | yn
    · refine go 5 ?_ (fl42_66 n d nm A k c w (by omega) he)
      unfold flC; rw [he]; (first | (simp; done) | (simp; omega) | omega)
    · rcases (show (d ≠ 0) ∨ (d = 0) from by omega) with yd | yd
      · refine go 5 ?_ (fl42_67 n d nm A k c w (by omega) (by omega) he)
        unfold flC; rw [he]; subst yn; (first | (simp; done) | (simp; omega) | omega)
      · refine go 0 ?_ (fl42_68 n d nm A k c w (by omega) (by omega) he)
        unfold flC; rw [he]; subst yn; subst yd; (first | (simp; done) | (simp; omega) | omega)
  · rcases (show (n ≠ 0) ∨ (n = 0) from by omega) with yn | yn
    · refine go 5 ?_ (fl42_69 n d nm A k c w (by omega) he)
      unfold flC; rw [he]; (first | (simp; done) | (simp; omega) | omega)
    · rcases (show (d ≠ 0) ∨ (d = 0) from by omega) with yd | yd
      · refine go 5 ?_ (fl42_70 n d nm A k c w (by omega) (by omega) he)
        unfold flC; rw [he]; subst yn; (first | (simp; done) | (simp; omega) | omega)
      · refine go 0 ?_ (fl42_71 n d nm A k c w (by omega) (by omega) he)
        unfold flC; rw [he]; subst yn; subst yd; (first | (simp; done) | (simp; omega) | omega)
set_option maxHeartbeats 1000000 in
theorem fx42_o (op n d : Int) (nm : ByteArray) (A : Option Addr) (k c : Nat) (w : World) (g1 : op ≠ 10) (g2 : op ≠ 12) (g3 : op ≠ 15) (g4 : op ≠ 23) (g5 : op ≠ 9) :
    Calls Try.prog 54 #[.agg #[.int .i64 op, .slice A k c, .int .i64 n, .int .i64 d, .string nm]] w fun e w' => e = .returned (.int .i64 (flC op n d nm.toList.isEmpty)) ∧ Below w.heap.size w w' := by
  have go : ∀ r : Int, flC op n d nm.toList.isEmpty = r → (Calls Try.prog 54 #[.agg #[.int .i64 op, .slice A k c, .int .i64 n, .int .i64 d, .string nm]] w fun e w' => e = .returned (.int .i64 r) ∧ Below w.heap.size w w') → Calls Try.prog 54 #[.agg #[.int .i64 op, .slice A k c, .int .i64 n, .int .i64 d, .string nm]] w fun e w' => e = .returned (.int .i64 (flC op n d nm.toList.isEmpty)) ∧ Below w.heap.size w w' := fun r hr h => by rw [hr]; exact h
  rcases tl_b nm with he | he
  · rcases (show (n ≠ 0) ∨ (n = 0) from by omega) with yn | yn
    · refine go 5 ?_ (fl42_73 op n d nm A k c w (by simpa using g1) (by simpa using g2) (by simpa using g3) (by simpa using g4) (by simpa using g5) (by simpa using g3) (by simpa using g4) (by omega) he)
      unfold flC; rw [he]; (first | (simp; done) | (simp; omega) | omega)
    · rcases (show (d ≠ 0) ∨ (d = 0) from by omega) with yd | yd
      · refine go 5 ?_ (fl42_74 op n d nm A k c w (by simpa using g1) (by simpa using g2) (by simpa using g3) (by simpa using g4) (by simpa using g5) (by simpa using g3) (by simpa using g4) (by omega) (by omega) he)
        unfold flC; rw [he]; subst yn; (first | (simp; done) | (simp; omega) | omega)
      · refine go 0 ?_ (fl42_75 op n d nm A k c w (by simpa using g1) (by simpa using g2) (by simpa using g3) (by simpa using g4) (by simpa using g5) (by simpa using g3) (by simpa using g4) (by omega) (by omega) he)
        unfold flC; rw [he]; subst yn; subst yd; (first | (simp; done) | (simp; omega) | omega)
  · refine go 5 ?_ (fl42_72 op n d nm A k c w (by simpa using g1) (by simpa using g2) (by simpa using g3) (by simpa using g4) (by simpa using g5) (by simpa using g3) (by simpa using g4) he)
    unfold flC; rw [he]; (first | (simp; done) | (simp; omega) | omega)
theorem wrongnumbers_any (op n d : Int) (nm : ByteArray) (A : Option Addr) (k c : Nat) (w : World) :
    Calls Try.prog 54 #[.agg #[.int .i64 op, .slice A k c, .int .i64 n, .int .i64 d, .string nm]] w fun e w' => e = .returned (.int .i64 (flC op n d nm.toList.isEmpty)) ∧ Below w.heap.size w w' := by
  rcases (show op = 10 ∨ op = 12 ∨ op = 15 ∨ op = 23 ∨ op = 9 ∨ (op ≠ 10 ∧ op ≠ 12 ∧ op ≠ 15 ∧ op ≠ 23 ∧ op ≠ 9) from by omega) with rfl | rfl | rfl | rfl | rfl | ⟨g1, g2, g3, g4, g5⟩
  · exact fx42_10 n d nm A k c w
  · exact fx42_12 n d nm A k c w
  · exact fx42_15 n d nm A k c w
  · exact fx42_23 n d nm A k c w
  · exact fx42_9 n d nm A k c w
  · exact fx42_o op n d nm A k c w g1 g2 g3 g4 g5
end Go.Proofs.Ytibpgcdaommjeaa
namespace Go.Proofs.Ytibpgcdaommjeaa
open Go.RowKit

/-- A sort, if it is allowed. -/
def whn (b : Bool) (s : Int) : Int := if b then s else 0
theorem whn_any (b : Bool) (s : Int) (w : World) : Calls Try.prog 78 #[.bool b, .int .i64 s] w fun e w' => e = .returned (.int .i64 (whn b s)) ∧ w = w' := when_any b s w
/-- The sort of a number, a sum or a product. -/
def numS (op d : Int) (ks : List Int) : Int := if (op ≠ 11 ∧ d ≠ 1) ∨ ks.all sIn = false then 3 else 2
/-- The sort of a node, by its kids' sorts; 0: one may not stand there. -/
def srt (op d ds : Int) (ks : List Int) : Int :=
  if op ≤ 6 then whn (ks.all sBo) 1
  else if op = 7 then whn (sBo (nth ks 0) && (nth ks 1 == nth ks 2) && (nth ks 1 != 5)) (nth ks 1)
  else if op = 8 then whn (ks.all sNu || ks.all sTh || sSw ks) 1
  else if op = 9 then whn (ks.all sTh) ds
  else if op ≤ 12 then whn (ks.all sNu) (numS op d ks)
  else if op ≤ 14 then whn (ks.all sNu) 1
  else if op = 15 then 10 + d
  else if op ≤ 21 ∨ op = 23 then whn (sSw ks) (nth ks 0)
  else if op = 22 then whn (sSw ks) 1
  else if op = 24 then whn ((nth ks 0 == 5) && sTh (nth ks 1)) 4
  else whn ((nth ks 0 == 5) && (sTh (nth ks 1) && sTh (nth ks 2))) 5
/-- How many kids an operator has; -1: any number. -/
def kcN (op : Int) : Int := if op ≤ 2 ∨ op = 10 ∨ op = 15 then 0 else if op = 3 ∨ op = 12 ∨ op = 16 ∨ op = 23 then 1 else if op = 7 ∨ op = 25 then 3 else if op = 4 ∨ op = 5 ∨ op = 11 then -1 else 2
theorem ag5 {w : World} {g : Nat} {a b c d e : Value} (h : HB w g 24 #[a, b, c, d, e]) : w.cell? ⟨g, 0, none⟩ = some a ∧ w.cell? ⟨g, 1, none⟩ = some b ∧ w.cell? ⟨g, 2, none⟩ = some c ∧ w.cell? ⟨g, 3, none⟩ = some d ∧ w.cell? ⟨g, 4, none⟩ = some e := h.five
set_option maxHeartbeats 1000000 in
theorem number_any (op n d : Int) (nm : ByteArray) (A0 : Option Addr) (k0 c0 : Nat) (ks : List Int) (A : Option Addr) (c : Nat) (hl : ks.length ≤ maxLen) (w : World) (h : Is w A ks) :
    Calls Try.prog 82 #[.agg #[.int .i64 op, .slice A0 k0 c0, .int .i64 n, .int .i64 d, .string nm], .slice A ks.length c] w fun e w' => e = .returned (.int .i64 (numS op d ks)) ∧ Below w.heap.size w w' := by
  have HV := Lib.hid (fun (W : World) (hW : Is W A ks) => everyint_any ks A c hl W hW)
  have HA := Lib.hid (h.below (new_below w (.cells #[.int .i64 op, .slice A0 k0 c0, .int .i64 n, .int .i64 d, .string nm] 24)))
  clear h hl
  generalize ks.length = L at *
  by_cases h1 : op ≠ 11 ∧ d ≠ 1
  · have d1 : (op != 11) = true := by simpa using h1.1
    have d2 : (d != 1) = true := by simpa using h1.2
    rw [show numS op d ks = 3 by unfold numS; rw [if_pos (.inl h1)]]
    clear h1
    go_enter Try.func82, Try.ntmps82
    go_wp2_with fail
    go_ret
    exact ⟨rfl, new_below _ _⟩
  · have HE : numS op d ks = if ks.all sIn = false then 3 else 2 := by unfold numS; simp only [h1, false_or]
    cases hq : ks.all sIn with
    | true =>
      have HQ := Lib.hid hq
      rw [HE, hq, if_neg (by decide)]
      clear HE hq
      by_cases h2 : op = 11
      · have d1 : (op != 11) = false := by simpa using h2
        clear h1 h2
        go_enter Try.func82, Try.ntmps82
        go_wp2_with fail
        refine (HV.out _ HA.out).mono ?_
        rintro e w1 ⟨rfl, hb1⟩
        have HB1 := Lib.hid (bw_below (Nat.le_refl _) (new_below w _) hb1)
        clear hb1
        rw [HQ.out]
        go_wp2_with fail
        go_ret
        exact ⟨rfl, HB1.out⟩
      · have d1 : (op != 11) = true := by simpa using h2
        have d2 : (d != 1) = false := by simp at h1; simpa using h1 h2
        clear h1 h2
        go_enter Try.func82, Try.ntmps82
        go_wp2_with fail
        refine (HV.out _ HA.out).mono ?_
        rintro e w1 ⟨rfl, hb1⟩
        have HB1 := Lib.hid (bw_below (Nat.le_refl _) (new_below w _) hb1)
        clear hb1
        rw [HQ.out]
        go_wp2_with fail
        go_ret
        exact ⟨rfl, HB1.out⟩
    | false =>
      have HQ := Lib.hid hq
      rw [HE, hq, if_pos rfl]
      clear HE hq
      by_cases h2 : op = 11
      · have d1 : (op != 11) = false := by simpa using h2
        clear h1 h2
        go_enter Try.func82, Try.ntmps82
        go_wp2_with fail
        refine (HV.out _ HA.out).mono ?_
        rintro e w1 ⟨rfl, hb1⟩
        have HB1 := Lib.hid (bw_below (Nat.le_refl _) (new_below w _) hb1)
        clear hb1
        rw [HQ.out]
        go_wp2_with fail
        go_ret
        exact ⟨rfl, HB1.out⟩
      · have d1 : (op != 11) = true := by simpa using h2
        have d2 : (d != 1) = false := by simp at h1; simpa using h1 h2
        clear h1 h2
        go_enter Try.func82, Try.ntmps82
        go_wp2_with fail
        refine (HV.out _ HA.out).mono ?_
        rintro e w1 ⟨rfl, hb1⟩
        have HB1 := Lib.hid (bw_below (Nat.le_refl _) (new_below w _) hb1)
        clear hb1
        rw [HQ.out]
        go_wp2_with fail
        go_ret
        exact ⟨rfl, HB1.out⟩
end Go.Proofs.Ytibpgcdaommjeaa
