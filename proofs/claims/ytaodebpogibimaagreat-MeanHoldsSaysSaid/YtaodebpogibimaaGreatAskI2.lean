/-
  Asks: the name and the numbers of a node, case by case.
-/
import Derived.Test.YtaodebpogibimaaGreatG04
namespace Go.Proofs.YtaodebpogibimaaGreat
open Go.RowKit

set_option maxHeartbeats 1000000 in
theorem fl42_18 (n d : Int) (nm : ByteArray) (A : Option Addr) (k c : Nat) (w : World) (e : nm.toList.isEmpty = false) :
    Calls Tryz.prog 73 #[.agg #[.int .i64 15, .slice A k c, .int .i64 n, .int .i64 d, .string nm]] w fun e w' => e = .returned (.int .i64 5) ∧ Below w.heap.size w w' := by
  go_enter Tryz.func73, Tryz.ntmps73
  go_wp2_with fail
  go_ret
  exact ⟨rfl, new_below _ _⟩
set_option maxHeartbeats 1000000 in
theorem fl42_19 (n d : Int) (nm : ByteArray) (A : Option Addr) (k c : Nat) (w : World) (h0 : n = 0) (h1 : d < 0) (e : nm.toList.isEmpty = true) :
    Calls Tryz.prog 73 #[.agg #[.int .i64 15, .slice A k c, .int .i64 n, .int .i64 d, .string nm]] w fun e w' => e = .returned (.int .i64 3) ∧ Below w.heap.size w w' := by
  have f1 : (d != 0) = true := by simp; omega
  have f2 : decide (1 ≤ d) = false := by simp; omega
  have f3 : decide (d < 1) = true := by simp; omega
  have f4 : decide (d ≤ 8) = true := by simp; omega
  have f5 : decide (8 < d) = false := by simp; omega
  clear h1
  subst h0
  go_enter Tryz.func73, Tryz.ntmps73
  go_wp2_with fail
  go_quiet (fail)
  go_wp2_with fail
  go_ret
  exact ⟨rfl, below_dn (new_below _ _) _⟩
set_option maxHeartbeats 1000000 in
theorem fl42_20 (n d : Int) (nm : ByteArray) (A : Option Addr) (k c : Nat) (w : World) (h0 : n ≠ 0) (h1 : d < 0) (e : nm.toList.isEmpty = true) :
    Calls Tryz.prog 73 #[.agg #[.int .i64 15, .slice A k c, .int .i64 n, .int .i64 d, .string nm]] w fun e w' => e = .returned (.int .i64 3) ∧ Below w.heap.size w w' := by
  have f1 : (n != 0) = true := by simp; omega
  have f2 : (d != 0) = true := by simp; omega
  have f3 : decide (1 ≤ d) = false := by simp; omega
  have f4 : decide (d < 1) = true := by simp; omega
  have f5 : decide (d ≤ 8) = true := by simp; omega
  have f6 : decide (8 < d) = false := by simp; omega
  clear h0 h1
  go_enter Tryz.func73, Tryz.ntmps73
  go_wp2_with fail
  go_quiet (fail)
  go_wp2_with fail
  go_ret
  exact ⟨rfl, below_dn (new_below _ _) _⟩
set_option maxHeartbeats 1000000 in
theorem fl42_21 (n d : Int) (nm : ByteArray) (A : Option Addr) (k c : Nat) (w : World) (h0 : n = 0) (h1 : d = 0) (e : nm.toList.isEmpty = true) :
    Calls Tryz.prog 73 #[.agg #[.int .i64 15, .slice A k c, .int .i64 n, .int .i64 d, .string nm]] w fun e w' => e = .returned (.int .i64 3) ∧ Below w.heap.size w w' := by
  subst h0
  subst h1
  go_enter Tryz.func73, Tryz.ntmps73
  go_wp2_with fail
  go_quiet (fail)
  go_wp2_with fail
  go_ret
  exact ⟨rfl, below_dn (new_below _ _) _⟩
set_option maxHeartbeats 1000000 in
theorem fl42_22 (n d : Int) (nm : ByteArray) (A : Option Addr) (k c : Nat) (w : World) (h0 : n ≠ 0) (h1 : d = 0) (e : nm.toList.isEmpty = true) :
    Calls Tryz.prog 73 #[.agg #[.int .i64 15, .slice A k c, .int .i64 n, .int .i64 d, .string nm]] w fun e w' => e = .returned (.int .i64 3) ∧ Below w.heap.size w w' := by
  have f1 : (n != 0) = true := by simp; omega
  clear h0
  subst h1
  go_enter Tryz.func73, Tryz.ntmps73
  go_wp2_with fail
  go_quiet (fail)
  go_wp2_with fail
  go_ret
  exact ⟨rfl, below_dn (new_below _ _) _⟩
set_option maxHeartbeats 1000000 in
theorem fl42_23 (n d : Int) (nm : ByteArray) (A : Option Addr) (k c : Nat) (w : World) (h0 : n = 0) (h1 : 8 < d) (e : nm.toList.isEmpty = true) :
    Calls Tryz.prog 73 #[.agg #[.int .i64 15, .slice A k c, .int .i64 n, .int .i64 d, .string nm]] w fun e w' => e = .returned (.int .i64 3) ∧ Below w.heap.size w w' := by
  have f1 : (d != 0) = true := by simp; omega
  have f2 : decide (1 ≤ d) = true := by simp; omega
  have f3 : decide (d < 1) = false := by simp; omega
  have f4 : decide (d ≤ 8) = false := by simp; omega
  have f5 : decide (8 < d) = true := by simp; omega
  clear h1
  subst h0
  go_enter Tryz.func73, Tryz.ntmps73
  go_wp2_with fail
  go_quiet (fail)
  go_wp2_with fail
  go_ret
  exact ⟨rfl, below_dn (new_below _ _) _⟩
set_option maxHeartbeats 1000000 in
theorem fl42_24 (n d : Int) (nm : ByteArray) (A : Option Addr) (k c : Nat) (w : World) (h0 : n ≠ 0) (h1 : 8 < d) (e : nm.toList.isEmpty = true) :
    Calls Tryz.prog 73 #[.agg #[.int .i64 15, .slice A k c, .int .i64 n, .int .i64 d, .string nm]] w fun e w' => e = .returned (.int .i64 3) ∧ Below w.heap.size w w' := by
  have f1 : (n != 0) = true := by simp; omega
  have f2 : (d != 0) = true := by simp; omega
  have f3 : decide (1 ≤ d) = true := by simp; omega
  have f4 : decide (d < 1) = false := by simp; omega
  have f5 : decide (d ≤ 8) = false := by simp; omega
  have f6 : decide (8 < d) = true := by simp; omega
  clear h0 h1
  go_enter Tryz.func73, Tryz.ntmps73
  go_wp2_with fail
  go_quiet (fail)
  go_wp2_with fail
  go_ret
  exact ⟨rfl, below_dn (new_below _ _) _⟩
set_option maxHeartbeats 1000000 in
theorem fl42_25 (n d : Int) (nm : ByteArray) (A : Option Addr) (k c : Nat) (w : World) (h0 : n < 0) (h1 : d = 1) (e : nm.toList.isEmpty = true) :
    Calls Tryz.prog 73 #[.agg #[.int .i64 15, .slice A k c, .int .i64 n, .int .i64 d, .string nm]] w fun e w' => e = .returned (.int .i64 3) ∧ Below w.heap.size w w' := by
  have f1 : (n != 0) = true := by simp; omega
  have f2 : decide (0 ≤ n) = false := by simp; omega
  have f3 : decide (n < 0) = true := by simp; omega
  have f4 : decide (n < 2) = true := by simp; omega
  have f5 : decide (2 ≤ n) = false := by simp; omega
  clear h0
  subst h1
  go_enter Tryz.func73, Tryz.ntmps73
  go_wp2_with fail
  go_quiet (fail)
  go_wp2_with fail
  go_ret
  exact ⟨rfl, below_dn (new_below _ _) _⟩
set_option maxHeartbeats 1000000 in
theorem fl42_26 (n d : Int) (nm : ByteArray) (A : Option Addr) (k c : Nat) (w : World) (h0 : n = 0) (h1 : d = 1) (e : nm.toList.isEmpty = true) :
    Calls Tryz.prog 73 #[.agg #[.int .i64 15, .slice A k c, .int .i64 n, .int .i64 d, .string nm]] w fun e w' => e = .returned (.int .i64 0) ∧ Below w.heap.size w w' := by
  subst h0
  subst h1
  go_enter Tryz.func73, Tryz.ntmps73
  go_wp2_with fail
  go_quiet (fail)
  go_wp2_with fail
  go_ret
  exact ⟨rfl, below_dn (new_below _ _) _⟩
set_option maxHeartbeats 1000000 in
theorem fl42_27 (n d : Int) (nm : ByteArray) (A : Option Addr) (k c : Nat) (w : World) (h0 : 0 < n ∧ n < 2) (h1 : d = 1) (e : nm.toList.isEmpty = true) :
    Calls Tryz.prog 73 #[.agg #[.int .i64 15, .slice A k c, .int .i64 n, .int .i64 d, .string nm]] w fun e w' => e = .returned (.int .i64 0) ∧ Below w.heap.size w w' := by
  have f1 : (n != 0) = true := by simp; omega
  have f2 : decide (0 ≤ n) = true := by simp; omega
  have f3 : decide (n < 0) = false := by simp; omega
  have f4 : decide (n < 2) = true := by simp; omega
  have f5 : decide (2 ≤ n) = false := by simp; omega
  clear h0
  subst h1
  go_enter Tryz.func73, Tryz.ntmps73
  go_wp2_with fail
  go_quiet (fail)
  go_wp2_with fail
  go_ret
  exact ⟨rfl, below_dn (new_below _ _) _⟩
set_option maxHeartbeats 1000000 in
theorem fl42_28 (n d : Int) (nm : ByteArray) (A : Option Addr) (k c : Nat) (w : World) (h0 : 2 ≤ n) (h1 : d = 1) (e : nm.toList.isEmpty = true) :
    Calls Tryz.prog 73 #[.agg #[.int .i64 15, .slice A k c, .int .i64 n, .int .i64 d, .string nm]] w fun e w' => e = .returned (.int .i64 3) ∧ Below w.heap.size w w' := by
  have f1 : (n != 0) = true := by simp; omega
  have f2 : decide (0 ≤ n) = true := by simp; omega
  have f3 : decide (n < 0) = false := by simp; omega
  have f4 : decide (n < 2) = false := by simp; omega
  have f5 : decide (2 ≤ n) = true := by simp; omega
  clear h0
  subst h1
  go_enter Tryz.func73, Tryz.ntmps73
  go_wp2_with fail
  go_quiet (fail)
  go_wp2_with fail
  go_ret
  exact ⟨rfl, below_dn (new_below _ _) _⟩
set_option maxHeartbeats 1000000 in
theorem fl42_29 (n d : Int) (nm : ByteArray) (A : Option Addr) (k c : Nat) (w : World) (h0 : n < 0) (h1 : d = 2) (e : nm.toList.isEmpty = true) :
    Calls Tryz.prog 73 #[.agg #[.int .i64 15, .slice A k c, .int .i64 n, .int .i64 d, .string nm]] w fun e w' => e = .returned (.int .i64 3) ∧ Below w.heap.size w w' := by
  have f1 : (n != 0) = true := by simp; omega
  have f2 : decide (0 ≤ n) = false := by simp; omega
  have f3 : decide (n < 0) = true := by simp; omega
  have f4 : decide (n < 4) = true := by simp; omega
  have f5 : decide (4 ≤ n) = false := by simp; omega
  clear h0
  subst h1
  go_enter Tryz.func73, Tryz.ntmps73
  go_wp2_with fail
  go_quiet (fail)
  go_wp2_with fail
  go_ret
  exact ⟨rfl, below_dn (new_below _ _) _⟩
set_option maxHeartbeats 1000000 in
theorem fl42_30 (n d : Int) (nm : ByteArray) (A : Option Addr) (k c : Nat) (w : World) (h0 : n = 0) (h1 : d = 2) (e : nm.toList.isEmpty = true) :
    Calls Tryz.prog 73 #[.agg #[.int .i64 15, .slice A k c, .int .i64 n, .int .i64 d, .string nm]] w fun e w' => e = .returned (.int .i64 0) ∧ Below w.heap.size w w' := by
  subst h0
  subst h1
  go_enter Tryz.func73, Tryz.ntmps73
  go_wp2_with fail
  go_quiet (fail)
  go_wp2_with fail
  go_ret
  exact ⟨rfl, below_dn (new_below _ _) _⟩
set_option maxHeartbeats 1000000 in
theorem fl42_31 (n d : Int) (nm : ByteArray) (A : Option Addr) (k c : Nat) (w : World) (h0 : 0 < n ∧ n < 4) (h1 : d = 2) (e : nm.toList.isEmpty = true) :
    Calls Tryz.prog 73 #[.agg #[.int .i64 15, .slice A k c, .int .i64 n, .int .i64 d, .string nm]] w fun e w' => e = .returned (.int .i64 0) ∧ Below w.heap.size w w' := by
  have f1 : (n != 0) = true := by simp; omega
  have f2 : decide (0 ≤ n) = true := by simp; omega
  have f3 : decide (n < 0) = false := by simp; omega
  have f4 : decide (n < 4) = true := by simp; omega
  have f5 : decide (4 ≤ n) = false := by simp; omega
  clear h0
  subst h1
  go_enter Tryz.func73, Tryz.ntmps73
  go_wp2_with fail
  go_quiet (fail)
  go_wp2_with fail
  go_ret
  exact ⟨rfl, below_dn (new_below _ _) _⟩
set_option maxHeartbeats 1000000 in
theorem fl42_32 (n d : Int) (nm : ByteArray) (A : Option Addr) (k c : Nat) (w : World) (h0 : 4 ≤ n) (h1 : d = 2) (e : nm.toList.isEmpty = true) :
    Calls Tryz.prog 73 #[.agg #[.int .i64 15, .slice A k c, .int .i64 n, .int .i64 d, .string nm]] w fun e w' => e = .returned (.int .i64 3) ∧ Below w.heap.size w w' := by
  have f1 : (n != 0) = true := by simp; omega
  have f2 : decide (0 ≤ n) = true := by simp; omega
  have f3 : decide (n < 0) = false := by simp; omega
  have f4 : decide (n < 4) = false := by simp; omega
  have f5 : decide (4 ≤ n) = true := by simp; omega
  clear h0
  subst h1
  go_enter Tryz.func73, Tryz.ntmps73
  go_wp2_with fail
  go_quiet (fail)
  go_wp2_with fail
  go_ret
  exact ⟨rfl, below_dn (new_below _ _) _⟩
set_option maxHeartbeats 1000000 in
theorem fl42_33 (n d : Int) (nm : ByteArray) (A : Option Addr) (k c : Nat) (w : World) (h0 : n < 0) (h1 : d = 3) (e : nm.toList.isEmpty = true) :
    Calls Tryz.prog 73 #[.agg #[.int .i64 15, .slice A k c, .int .i64 n, .int .i64 d, .string nm]] w fun e w' => e = .returned (.int .i64 3) ∧ Below w.heap.size w w' := by
  have f1 : (n != 0) = true := by simp; omega
  have f2 : decide (0 ≤ n) = false := by simp; omega
  have f3 : decide (n < 0) = true := by simp; omega
  have f4 : decide (n < 8) = true := by simp; omega
  have f5 : decide (8 ≤ n) = false := by simp; omega
  clear h0
  subst h1
  go_enter Tryz.func73, Tryz.ntmps73
  go_wp2_with fail
  go_quiet (fail)
  go_wp2_with fail
  go_ret
  exact ⟨rfl, below_dn (new_below _ _) _⟩
set_option maxHeartbeats 1000000 in
theorem fl42_34 (n d : Int) (nm : ByteArray) (A : Option Addr) (k c : Nat) (w : World) (h0 : n = 0) (h1 : d = 3) (e : nm.toList.isEmpty = true) :
    Calls Tryz.prog 73 #[.agg #[.int .i64 15, .slice A k c, .int .i64 n, .int .i64 d, .string nm]] w fun e w' => e = .returned (.int .i64 0) ∧ Below w.heap.size w w' := by
  subst h0
  subst h1
  go_enter Tryz.func73, Tryz.ntmps73
  go_wp2_with fail
  go_quiet (fail)
  go_wp2_with fail
  go_ret
  exact ⟨rfl, below_dn (new_below _ _) _⟩
set_option maxHeartbeats 1000000 in
theorem fl42_35 (n d : Int) (nm : ByteArray) (A : Option Addr) (k c : Nat) (w : World) (h0 : 0 < n ∧ n < 8) (h1 : d = 3) (e : nm.toList.isEmpty = true) :
    Calls Tryz.prog 73 #[.agg #[.int .i64 15, .slice A k c, .int .i64 n, .int .i64 d, .string nm]] w fun e w' => e = .returned (.int .i64 0) ∧ Below w.heap.size w w' := by
  have f1 : (n != 0) = true := by simp; omega
  have f2 : decide (0 ≤ n) = true := by simp; omega
  have f3 : decide (n < 0) = false := by simp; omega
  have f4 : decide (n < 8) = true := by simp; omega
  have f5 : decide (8 ≤ n) = false := by simp; omega
  clear h0
  subst h1
  go_enter Tryz.func73, Tryz.ntmps73
  go_wp2_with fail
  go_quiet (fail)
  go_wp2_with fail
  go_ret
  exact ⟨rfl, below_dn (new_below _ _) _⟩
set_option maxHeartbeats 1000000 in
theorem fl42_36 (n d : Int) (nm : ByteArray) (A : Option Addr) (k c : Nat) (w : World) (h0 : 8 ≤ n) (h1 : d = 3) (e : nm.toList.isEmpty = true) :
    Calls Tryz.prog 73 #[.agg #[.int .i64 15, .slice A k c, .int .i64 n, .int .i64 d, .string nm]] w fun e w' => e = .returned (.int .i64 3) ∧ Below w.heap.size w w' := by
  have f1 : (n != 0) = true := by simp; omega
  have f2 : decide (0 ≤ n) = true := by simp; omega
  have f3 : decide (n < 0) = false := by simp; omega
  have f4 : decide (n < 8) = false := by simp; omega
  have f5 : decide (8 ≤ n) = true := by simp; omega
  clear h0
  subst h1
  go_enter Tryz.func73, Tryz.ntmps73
  go_wp2_with fail
  go_quiet (fail)
  go_wp2_with fail
  go_ret
  exact ⟨rfl, below_dn (new_below _ _) _⟩
set_option maxHeartbeats 1000000 in
theorem fl42_37 (n d : Int) (nm : ByteArray) (A : Option Addr) (k c : Nat) (w : World) (h0 : n < 0) (h1 : d = 4) (e : nm.toList.isEmpty = true) :
    Calls Tryz.prog 73 #[.agg #[.int .i64 15, .slice A k c, .int .i64 n, .int .i64 d, .string nm]] w fun e w' => e = .returned (.int .i64 3) ∧ Below w.heap.size w w' := by
  have f1 : (n != 0) = true := by simp; omega
  have f2 : decide (0 ≤ n) = false := by simp; omega
  have f3 : decide (n < 0) = true := by simp; omega
  have f4 : decide (n < 16) = true := by simp; omega
  have f5 : decide (16 ≤ n) = false := by simp; omega
  clear h0
  subst h1
  go_enter Tryz.func73, Tryz.ntmps73
  go_wp2_with fail
  go_quiet (fail)
  go_wp2_with fail
  go_ret
  exact ⟨rfl, below_dn (new_below _ _) _⟩
set_option maxHeartbeats 1000000 in
theorem fl42_38 (n d : Int) (nm : ByteArray) (A : Option Addr) (k c : Nat) (w : World) (h0 : n = 0) (h1 : d = 4) (e : nm.toList.isEmpty = true) :
    Calls Tryz.prog 73 #[.agg #[.int .i64 15, .slice A k c, .int .i64 n, .int .i64 d, .string nm]] w fun e w' => e = .returned (.int .i64 0) ∧ Below w.heap.size w w' := by
  subst h0
  subst h1
  go_enter Tryz.func73, Tryz.ntmps73
  go_wp2_with fail
  go_quiet (fail)
  go_wp2_with fail
  go_ret
  exact ⟨rfl, below_dn (new_below _ _) _⟩
set_option maxHeartbeats 1000000 in
theorem fl42_39 (n d : Int) (nm : ByteArray) (A : Option Addr) (k c : Nat) (w : World) (h0 : 0 < n ∧ n < 16) (h1 : d = 4) (e : nm.toList.isEmpty = true) :
    Calls Tryz.prog 73 #[.agg #[.int .i64 15, .slice A k c, .int .i64 n, .int .i64 d, .string nm]] w fun e w' => e = .returned (.int .i64 0) ∧ Below w.heap.size w w' := by
  have f1 : (n != 0) = true := by simp; omega
  have f2 : decide (0 ≤ n) = true := by simp; omega
  have f3 : decide (n < 0) = false := by simp; omega
  have f4 : decide (n < 16) = true := by simp; omega
  have f5 : decide (16 ≤ n) = false := by simp; omega
  clear h0
  subst h1
  go_enter Tryz.func73, Tryz.ntmps73
  go_wp2_with fail
  go_quiet (fail)
  go_wp2_with fail
  go_ret
  exact ⟨rfl, below_dn (new_below _ _) _⟩
set_option maxHeartbeats 1000000 in
theorem fl42_40 (n d : Int) (nm : ByteArray) (A : Option Addr) (k c : Nat) (w : World) (h0 : 16 ≤ n) (h1 : d = 4) (e : nm.toList.isEmpty = true) :
    Calls Tryz.prog 73 #[.agg #[.int .i64 15, .slice A k c, .int .i64 n, .int .i64 d, .string nm]] w fun e w' => e = .returned (.int .i64 3) ∧ Below w.heap.size w w' := by
  have f1 : (n != 0) = true := by simp; omega
  have f2 : decide (0 ≤ n) = true := by simp; omega
  have f3 : decide (n < 0) = false := by simp; omega
  have f4 : decide (n < 16) = false := by simp; omega
  have f5 : decide (16 ≤ n) = true := by simp; omega
  clear h0
  subst h1
  go_enter Tryz.func73, Tryz.ntmps73
  go_wp2_with fail
  go_quiet (fail)
  go_wp2_with fail
  go_ret
  exact ⟨rfl, below_dn (new_below _ _) _⟩
set_option maxHeartbeats 1000000 in
theorem fl42_41 (n d : Int) (nm : ByteArray) (A : Option Addr) (k c : Nat) (w : World) (h0 : n < 0) (h1 : d = 5) (e : nm.toList.isEmpty = true) :
    Calls Tryz.prog 73 #[.agg #[.int .i64 15, .slice A k c, .int .i64 n, .int .i64 d, .string nm]] w fun e w' => e = .returned (.int .i64 3) ∧ Below w.heap.size w w' := by
  have f1 : (n != 0) = true := by simp; omega
  have f2 : decide (0 ≤ n) = false := by simp; omega
  have f3 : decide (n < 0) = true := by simp; omega
  have f4 : decide (n < 32) = true := by simp; omega
  have f5 : decide (32 ≤ n) = false := by simp; omega
  clear h0
  subst h1
  go_enter Tryz.func73, Tryz.ntmps73
  go_wp2_with fail
  go_quiet (fail)
  go_wp2_with fail
  go_ret
  exact ⟨rfl, below_dn (new_below _ _) _⟩
set_option maxHeartbeats 1000000 in
theorem fl42_42 (n d : Int) (nm : ByteArray) (A : Option Addr) (k c : Nat) (w : World) (h0 : n = 0) (h1 : d = 5) (e : nm.toList.isEmpty = true) :
    Calls Tryz.prog 73 #[.agg #[.int .i64 15, .slice A k c, .int .i64 n, .int .i64 d, .string nm]] w fun e w' => e = .returned (.int .i64 0) ∧ Below w.heap.size w w' := by
  subst h0
  subst h1
  go_enter Tryz.func73, Tryz.ntmps73
  go_wp2_with fail
  go_quiet (fail)
  go_wp2_with fail
  go_ret
  exact ⟨rfl, below_dn (new_below _ _) _⟩
set_option maxHeartbeats 1000000 in
theorem fl42_43 (n d : Int) (nm : ByteArray) (A : Option Addr) (k c : Nat) (w : World) (h0 : 0 < n ∧ n < 32) (h1 : d = 5) (e : nm.toList.isEmpty = true) :
    Calls Tryz.prog 73 #[.agg #[.int .i64 15, .slice A k c, .int .i64 n, .int .i64 d, .string nm]] w fun e w' => e = .returned (.int .i64 0) ∧ Below w.heap.size w w' := by
  have f1 : (n != 0) = true := by simp; omega
  have f2 : decide (0 ≤ n) = true := by simp; omega
  have f3 : decide (n < 0) = false := by simp; omega
  have f4 : decide (n < 32) = true := by simp; omega
  have f5 : decide (32 ≤ n) = false := by simp; omega
  clear h0
  subst h1
  go_enter Tryz.func73, Tryz.ntmps73
  go_wp2_with fail
  go_quiet (fail)
  go_wp2_with fail
  go_ret
  exact ⟨rfl, below_dn (new_below _ _) _⟩
set_option maxHeartbeats 1000000 in
theorem fl42_44 (n d : Int) (nm : ByteArray) (A : Option Addr) (k c : Nat) (w : World) (h0 : 32 ≤ n) (h1 : d = 5) (e : nm.toList.isEmpty = true) :
    Calls Tryz.prog 73 #[.agg #[.int .i64 15, .slice A k c, .int .i64 n, .int .i64 d, .string nm]] w fun e w' => e = .returned (.int .i64 3) ∧ Below w.heap.size w w' := by
  have f1 : (n != 0) = true := by simp; omega
  have f2 : decide (0 ≤ n) = true := by simp; omega
  have f3 : decide (n < 0) = false := by simp; omega
  have f4 : decide (n < 32) = false := by simp; omega
  have f5 : decide (32 ≤ n) = true := by simp; omega
  clear h0
  subst h1
  go_enter Tryz.func73, Tryz.ntmps73
  go_wp2_with fail
  go_quiet (fail)
  go_wp2_with fail
  go_ret
  exact ⟨rfl, below_dn (new_below _ _) _⟩
set_option maxHeartbeats 1000000 in
theorem fl42_45 (n d : Int) (nm : ByteArray) (A : Option Addr) (k c : Nat) (w : World) (h0 : n < 0) (h1 : d = 6) (e : nm.toList.isEmpty = true) :
    Calls Tryz.prog 73 #[.agg #[.int .i64 15, .slice A k c, .int .i64 n, .int .i64 d, .string nm]] w fun e w' => e = .returned (.int .i64 3) ∧ Below w.heap.size w w' := by
  have f1 : (n != 0) = true := by simp; omega
  have f2 : decide (0 ≤ n) = false := by simp; omega
  have f3 : decide (n < 0) = true := by simp; omega
  have f4 : decide (n < 64) = true := by simp; omega
  have f5 : decide (64 ≤ n) = false := by simp; omega
  clear h0
  subst h1
  go_enter Tryz.func73, Tryz.ntmps73
  go_wp2_with fail
  go_quiet (fail)
  go_wp2_with fail
  go_ret
  exact ⟨rfl, below_dn (new_below _ _) _⟩
set_option maxHeartbeats 1000000 in
theorem fl42_46 (n d : Int) (nm : ByteArray) (A : Option Addr) (k c : Nat) (w : World) (h0 : n = 0) (h1 : d = 6) (e : nm.toList.isEmpty = true) :
    Calls Tryz.prog 73 #[.agg #[.int .i64 15, .slice A k c, .int .i64 n, .int .i64 d, .string nm]] w fun e w' => e = .returned (.int .i64 0) ∧ Below w.heap.size w w' := by
  subst h0
  subst h1
  go_enter Tryz.func73, Tryz.ntmps73
  go_wp2_with fail
  go_quiet (fail)
  go_wp2_with fail
  go_ret
  exact ⟨rfl, below_dn (new_below _ _) _⟩
set_option maxHeartbeats 1000000 in
theorem fl42_47 (n d : Int) (nm : ByteArray) (A : Option Addr) (k c : Nat) (w : World) (h0 : 0 < n ∧ n < 64) (h1 : d = 6) (e : nm.toList.isEmpty = true) :
    Calls Tryz.prog 73 #[.agg #[.int .i64 15, .slice A k c, .int .i64 n, .int .i64 d, .string nm]] w fun e w' => e = .returned (.int .i64 0) ∧ Below w.heap.size w w' := by
  have f1 : (n != 0) = true := by simp; omega
  have f2 : decide (0 ≤ n) = true := by simp; omega
  have f3 : decide (n < 0) = false := by simp; omega
  have f4 : decide (n < 64) = true := by simp; omega
  have f5 : decide (64 ≤ n) = false := by simp; omega
  clear h0
  subst h1
  go_enter Tryz.func73, Tryz.ntmps73
  go_wp2_with fail
  go_quiet (fail)
  go_wp2_with fail
  go_ret
  exact ⟨rfl, below_dn (new_below _ _) _⟩
set_option maxHeartbeats 1000000 in
theorem fl42_48 (n d : Int) (nm : ByteArray) (A : Option Addr) (k c : Nat) (w : World) (h0 : 64 ≤ n) (h1 : d = 6) (e : nm.toList.isEmpty = true) :
    Calls Tryz.prog 73 #[.agg #[.int .i64 15, .slice A k c, .int .i64 n, .int .i64 d, .string nm]] w fun e w' => e = .returned (.int .i64 3) ∧ Below w.heap.size w w' := by
  have f1 : (n != 0) = true := by simp; omega
  have f2 : decide (0 ≤ n) = true := by simp; omega
  have f3 : decide (n < 0) = false := by simp; omega
  have f4 : decide (n < 64) = false := by simp; omega
  have f5 : decide (64 ≤ n) = true := by simp; omega
  clear h0
  subst h1
  go_enter Tryz.func73, Tryz.ntmps73
  go_wp2_with fail
  go_quiet (fail)
  go_wp2_with fail
  go_ret
  exact ⟨rfl, below_dn (new_below _ _) _⟩
set_option maxHeartbeats 1000000 in
theorem fl42_49 (n d : Int) (nm : ByteArray) (A : Option Addr) (k c : Nat) (w : World) (h0 : n < 0) (h1 : d = 7) (e : nm.toList.isEmpty = true) :
    Calls Tryz.prog 73 #[.agg #[.int .i64 15, .slice A k c, .int .i64 n, .int .i64 d, .string nm]] w fun e w' => e = .returned (.int .i64 3) ∧ Below w.heap.size w w' := by
  have f1 : (n != 0) = true := by simp; omega
  have f2 : decide (0 ≤ n) = false := by simp; omega
  have f3 : decide (n < 0) = true := by simp; omega
  have f4 : decide (n < 128) = true := by simp; omega
  have f5 : decide (128 ≤ n) = false := by simp; omega
  clear h0
  subst h1
  go_enter Tryz.func73, Tryz.ntmps73
  go_wp2_with fail
  go_quiet (fail)
  go_wp2_with fail
  go_ret
  exact ⟨rfl, below_dn (new_below _ _) _⟩
set_option maxHeartbeats 1000000 in
theorem fl42_50 (n d : Int) (nm : ByteArray) (A : Option Addr) (k c : Nat) (w : World) (h0 : n = 0) (h1 : d = 7) (e : nm.toList.isEmpty = true) :
    Calls Tryz.prog 73 #[.agg #[.int .i64 15, .slice A k c, .int .i64 n, .int .i64 d, .string nm]] w fun e w' => e = .returned (.int .i64 0) ∧ Below w.heap.size w w' := by
  subst h0
  subst h1
  go_enter Tryz.func73, Tryz.ntmps73
  go_wp2_with fail
  go_quiet (fail)
  go_wp2_with fail
  go_ret
  exact ⟨rfl, below_dn (new_below _ _) _⟩
set_option maxHeartbeats 1000000 in
theorem fl42_51 (n d : Int) (nm : ByteArray) (A : Option Addr) (k c : Nat) (w : World) (h0 : 0 < n ∧ n < 128) (h1 : d = 7) (e : nm.toList.isEmpty = true) :
    Calls Tryz.prog 73 #[.agg #[.int .i64 15, .slice A k c, .int .i64 n, .int .i64 d, .string nm]] w fun e w' => e = .returned (.int .i64 0) ∧ Below w.heap.size w w' := by
  have f1 : (n != 0) = true := by simp; omega
  have f2 : decide (0 ≤ n) = true := by simp; omega
  have f3 : decide (n < 0) = false := by simp; omega
  have f4 : decide (n < 128) = true := by simp; omega
  have f5 : decide (128 ≤ n) = false := by simp; omega
  clear h0
  subst h1
  go_enter Tryz.func73, Tryz.ntmps73
  go_wp2_with fail
  go_quiet (fail)
  go_wp2_with fail
  go_ret
  exact ⟨rfl, below_dn (new_below _ _) _⟩
set_option maxHeartbeats 1000000 in
theorem fl42_52 (n d : Int) (nm : ByteArray) (A : Option Addr) (k c : Nat) (w : World) (h0 : 128 ≤ n) (h1 : d = 7) (e : nm.toList.isEmpty = true) :
    Calls Tryz.prog 73 #[.agg #[.int .i64 15, .slice A k c, .int .i64 n, .int .i64 d, .string nm]] w fun e w' => e = .returned (.int .i64 3) ∧ Below w.heap.size w w' := by
  have f1 : (n != 0) = true := by simp; omega
  have f2 : decide (0 ≤ n) = true := by simp; omega
  have f3 : decide (n < 0) = false := by simp; omega
  have f4 : decide (n < 128) = false := by simp; omega
  have f5 : decide (128 ≤ n) = true := by simp; omega
  clear h0
  subst h1
  go_enter Tryz.func73, Tryz.ntmps73
  go_wp2_with fail
  go_quiet (fail)
  go_wp2_with fail
  go_ret
  exact ⟨rfl, below_dn (new_below _ _) _⟩
set_option maxHeartbeats 1000000 in
theorem fl42_53 (n d : Int) (nm : ByteArray) (A : Option Addr) (k c : Nat) (w : World) (h0 : n < 0) (h1 : d = 8) (e : nm.toList.isEmpty = true) :
    Calls Tryz.prog 73 #[.agg #[.int .i64 15, .slice A k c, .int .i64 n, .int .i64 d, .string nm]] w fun e w' => e = .returned (.int .i64 3) ∧ Below w.heap.size w w' := by
  have f1 : (n != 0) = true := by simp; omega
  have f2 : decide (0 ≤ n) = false := by simp; omega
  have f3 : decide (n < 0) = true := by simp; omega
  have f4 : decide (n < 256) = true := by simp; omega
  have f5 : decide (256 ≤ n) = false := by simp; omega
  clear h0
  subst h1
  go_enter Tryz.func73, Tryz.ntmps73
  go_wp2_with fail
  go_quiet (fail)
  go_wp2_with fail
  go_ret
  exact ⟨rfl, below_dn (new_below _ _) _⟩
set_option maxHeartbeats 1000000 in
theorem fl42_54 (n d : Int) (nm : ByteArray) (A : Option Addr) (k c : Nat) (w : World) (h0 : n = 0) (h1 : d = 8) (e : nm.toList.isEmpty = true) :
    Calls Tryz.prog 73 #[.agg #[.int .i64 15, .slice A k c, .int .i64 n, .int .i64 d, .string nm]] w fun e w' => e = .returned (.int .i64 0) ∧ Below w.heap.size w w' := by
  subst h0
  subst h1
  go_enter Tryz.func73, Tryz.ntmps73
  go_wp2_with fail
  go_quiet (fail)
  go_wp2_with fail
  go_ret
  exact ⟨rfl, below_dn (new_below _ _) _⟩
set_option maxHeartbeats 1000000 in
theorem fl42_55 (n d : Int) (nm : ByteArray) (A : Option Addr) (k c : Nat) (w : World) (h0 : 0 < n ∧ n < 256) (h1 : d = 8) (e : nm.toList.isEmpty = true) :
    Calls Tryz.prog 73 #[.agg #[.int .i64 15, .slice A k c, .int .i64 n, .int .i64 d, .string nm]] w fun e w' => e = .returned (.int .i64 0) ∧ Below w.heap.size w w' := by
  have f1 : (n != 0) = true := by simp; omega
  have f2 : decide (0 ≤ n) = true := by simp; omega
  have f3 : decide (n < 0) = false := by simp; omega
  have f4 : decide (n < 256) = true := by simp; omega
  have f5 : decide (256 ≤ n) = false := by simp; omega
  clear h0
  subst h1
  go_enter Tryz.func73, Tryz.ntmps73
  go_wp2_with fail
  go_quiet (fail)
  go_wp2_with fail
  go_ret
  exact ⟨rfl, below_dn (new_below _ _) _⟩
set_option maxHeartbeats 1000000 in
theorem fl42_56 (n d : Int) (nm : ByteArray) (A : Option Addr) (k c : Nat) (w : World) (h0 : 256 ≤ n) (h1 : d = 8) (e : nm.toList.isEmpty = true) :
    Calls Tryz.prog 73 #[.agg #[.int .i64 15, .slice A k c, .int .i64 n, .int .i64 d, .string nm]] w fun e w' => e = .returned (.int .i64 3) ∧ Below w.heap.size w w' := by
  have f1 : (n != 0) = true := by simp; omega
  have f2 : decide (0 ≤ n) = true := by simp; omega
  have f3 : decide (n < 0) = false := by simp; omega
  have f4 : decide (n < 256) = false := by simp; omega
  have f5 : decide (256 ≤ n) = true := by simp; omega
  clear h0
  subst h1
  go_enter Tryz.func73, Tryz.ntmps73
  go_wp2_with fail
  go_quiet (fail)
  go_wp2_with fail
  go_ret
  exact ⟨rfl, below_dn (new_below _ _) _⟩
end Go.Proofs.YtaodebpogibimaaGreat
