/-
  Asks: the name and the numbers of a node, case by case.
-/
import Derived.Test.YtaodebpogibimaaGreatG04
namespace Go.Proofs.YtaodebpogibimaaGreat
open Go.RowKit

set_option maxHeartbeats 1000000 in
theorem fl42_57 (n d : Int) (nm : ByteArray) (A : Option Addr) (k c : Nat) (w : World) (e : nm.toList.isEmpty = false) :
    Calls Tryz.prog 73 #[.agg #[.int .i64 23, .slice A k c, .int .i64 n, .int .i64 d, .string nm]] w fun e w' => e = .returned (.int .i64 5) ∧ Below w.heap.size w w' := by
  go_enter Tryz.func73, Tryz.ntmps73
  go_wp2_with fail
  go_ret
  exact ⟨rfl, new_below _ _⟩
set_option maxHeartbeats 1000000 in
theorem fl42_58 (n d : Int) (nm : ByteArray) (A : Option Addr) (k c : Nat) (w : World) (h0 : n < 0) (h1 : d ≠ 0) (e : nm.toList.isEmpty = true) :
    Calls Tryz.prog 73 #[.agg #[.int .i64 23, .slice A k c, .int .i64 n, .int .i64 d, .string nm]] w fun e w' => e = .returned (.int .i64 5) ∧ Below w.heap.size w w' := by
  have f1 : (n != 0) = true := by simp; omega
  have f2 : (d != 0) = true := by simp; omega
  have f3 : decide (n < 0) = true := by simp; omega
  have f4 : decide (8 < n) = false := by simp; omega
  clear h0 h1
  go_enter Tryz.func73, Tryz.ntmps73
  go_wp2_with fail
  go_ret
  exact ⟨rfl, new_below _ _⟩
set_option maxHeartbeats 1000000 in
theorem fl42_59 (n d : Int) (nm : ByteArray) (A : Option Addr) (k c : Nat) (w : World) (h0 : n < 0) (h1 : d = 0) (e : nm.toList.isEmpty = true) :
    Calls Tryz.prog 73 #[.agg #[.int .i64 23, .slice A k c, .int .i64 n, .int .i64 d, .string nm]] w fun e w' => e = .returned (.int .i64 3) ∧ Below w.heap.size w w' := by
  have f1 : (n != 0) = true := by simp; omega
  have f2 : decide (n < 0) = true := by simp; omega
  have f3 : decide (8 < n) = false := by simp; omega
  clear h0
  subst h1
  go_enter Tryz.func73, Tryz.ntmps73
  go_wp2_with fail
  go_quiet (fail)
  go_wp2_with fail
  go_ret
  exact ⟨rfl, below_dn (new_below _ _) _⟩
set_option maxHeartbeats 1000000 in
theorem fl42_60 (n d : Int) (nm : ByteArray) (A : Option Addr) (k c : Nat) (w : World) (h0 : n = 0) (h1 : d ≠ 0) (e : nm.toList.isEmpty = true) :
    Calls Tryz.prog 73 #[.agg #[.int .i64 23, .slice A k c, .int .i64 n, .int .i64 d, .string nm]] w fun e w' => e = .returned (.int .i64 5) ∧ Below w.heap.size w w' := by
  have f1 : (d != 0) = true := by simp; omega
  clear h1
  subst h0
  go_enter Tryz.func73, Tryz.ntmps73
  go_wp2_with fail
  go_ret
  exact ⟨rfl, new_below _ _⟩
set_option maxHeartbeats 1000000 in
theorem fl42_61 (n d : Int) (nm : ByteArray) (A : Option Addr) (k c : Nat) (w : World) (h0 : n = 0) (h1 : d = 0) (e : nm.toList.isEmpty = true) :
    Calls Tryz.prog 73 #[.agg #[.int .i64 23, .slice A k c, .int .i64 n, .int .i64 d, .string nm]] w fun e w' => e = .returned (.int .i64 0) ∧ Below w.heap.size w w' := by
  subst h0
  subst h1
  go_enter Tryz.func73, Tryz.ntmps73
  go_wp2_with fail
  go_quiet (fail)
  go_wp2_with fail
  go_ret
  exact ⟨rfl, below_dn (new_below _ _) _⟩
set_option maxHeartbeats 1000000 in
theorem fl42_62 (n d : Int) (nm : ByteArray) (A : Option Addr) (k c : Nat) (w : World) (h0 : 0 < n ∧ n ≤ 8) (h1 : d ≠ 0) (e : nm.toList.isEmpty = true) :
    Calls Tryz.prog 73 #[.agg #[.int .i64 23, .slice A k c, .int .i64 n, .int .i64 d, .string nm]] w fun e w' => e = .returned (.int .i64 5) ∧ Below w.heap.size w w' := by
  have f1 : (n != 0) = true := by simp; omega
  have f2 : (d != 0) = true := by simp; omega
  have f3 : decide (n < 0) = false := by simp; omega
  have f4 : decide (8 < n) = false := by simp; omega
  clear h0 h1
  go_enter Tryz.func73, Tryz.ntmps73
  go_wp2_with fail
  go_ret
  exact ⟨rfl, new_below _ _⟩
set_option maxHeartbeats 1000000 in
theorem fl42_63 (n d : Int) (nm : ByteArray) (A : Option Addr) (k c : Nat) (w : World) (h0 : 0 < n ∧ n ≤ 8) (h1 : d = 0) (e : nm.toList.isEmpty = true) :
    Calls Tryz.prog 73 #[.agg #[.int .i64 23, .slice A k c, .int .i64 n, .int .i64 d, .string nm]] w fun e w' => e = .returned (.int .i64 0) ∧ Below w.heap.size w w' := by
  have f1 : (n != 0) = true := by simp; omega
  have f2 : decide (n < 0) = false := by simp; omega
  have f3 : decide (8 < n) = false := by simp; omega
  clear h0
  subst h1
  go_enter Tryz.func73, Tryz.ntmps73
  go_wp2_with fail
  go_quiet (fail)
  go_wp2_with fail
  go_ret
  exact ⟨rfl, below_dn (new_below _ _) _⟩
set_option maxHeartbeats 1000000 in
theorem fl42_64 (n d : Int) (nm : ByteArray) (A : Option Addr) (k c : Nat) (w : World) (h0 : 8 < n) (h1 : d ≠ 0) (e : nm.toList.isEmpty = true) :
    Calls Tryz.prog 73 #[.agg #[.int .i64 23, .slice A k c, .int .i64 n, .int .i64 d, .string nm]] w fun e w' => e = .returned (.int .i64 5) ∧ Below w.heap.size w w' := by
  have f1 : (n != 0) = true := by simp; omega
  have f2 : (d != 0) = true := by simp; omega
  have f3 : decide (n < 0) = false := by simp; omega
  have f4 : decide (8 < n) = true := by simp; omega
  clear h0 h1
  go_enter Tryz.func73, Tryz.ntmps73
  go_wp2_with fail
  go_ret
  exact ⟨rfl, new_below _ _⟩
set_option maxHeartbeats 1000000 in
theorem fl42_65 (n d : Int) (nm : ByteArray) (A : Option Addr) (k c : Nat) (w : World) (h0 : 8 < n) (h1 : d = 0) (e : nm.toList.isEmpty = true) :
    Calls Tryz.prog 73 #[.agg #[.int .i64 23, .slice A k c, .int .i64 n, .int .i64 d, .string nm]] w fun e w' => e = .returned (.int .i64 3) ∧ Below w.heap.size w w' := by
  have f1 : (n != 0) = true := by simp; omega
  have f2 : decide (n < 0) = false := by simp; omega
  have f3 : decide (8 < n) = true := by simp; omega
  clear h0
  subst h1
  go_enter Tryz.func73, Tryz.ntmps73
  go_wp2_with fail
  go_quiet (fail)
  go_wp2_with fail
  go_ret
  exact ⟨rfl, below_dn (new_below _ _) _⟩
set_option maxHeartbeats 1000000 in
theorem fl42_66 (n d : Int) (nm : ByteArray) (A : Option Addr) (k c : Nat) (w : World) (h0 : n ≠ 0) (e : nm.toList.isEmpty = true) :
    Calls Tryz.prog 73 #[.agg #[.int .i64 9, .slice A k c, .int .i64 n, .int .i64 d, .string nm]] w fun e w' => e = .returned (.int .i64 5) ∧ Below w.heap.size w w' := by
  have f1 : (n != 0) = true := by simp; omega
  clear h0
  go_enter Tryz.func73, Tryz.ntmps73
  go_wp2_with fail
  go_ret
  exact ⟨rfl, new_below _ _⟩
set_option maxHeartbeats 1000000 in
theorem fl42_67 (n d : Int) (nm : ByteArray) (A : Option Addr) (k c : Nat) (w : World) (h0 : n = 0) (h1 : d ≠ 0) (e : nm.toList.isEmpty = true) :
    Calls Tryz.prog 73 #[.agg #[.int .i64 9, .slice A k c, .int .i64 n, .int .i64 d, .string nm]] w fun e w' => e = .returned (.int .i64 5) ∧ Below w.heap.size w w' := by
  have f1 : (d != 0) = true := by simp; omega
  clear h1
  subst h0
  go_enter Tryz.func73, Tryz.ntmps73
  go_wp2_with fail
  go_ret
  exact ⟨rfl, new_below _ _⟩
set_option maxHeartbeats 1000000 in
theorem fl42_68 (n d : Int) (nm : ByteArray) (A : Option Addr) (k c : Nat) (w : World) (h0 : n = 0) (h1 : d = 0) (e : nm.toList.isEmpty = true) :
    Calls Tryz.prog 73 #[.agg #[.int .i64 9, .slice A k c, .int .i64 n, .int .i64 d, .string nm]] w fun e w' => e = .returned (.int .i64 0) ∧ Below w.heap.size w w' := by
  subst h0
  subst h1
  go_enter Tryz.func73, Tryz.ntmps73
  go_wp2_with fail
  go_quiet (fail)
  go_wp2_with fail
  go_ret
  exact ⟨rfl, below_dn (new_below _ _) _⟩
set_option maxHeartbeats 1000000 in
theorem fl42_69 (n d : Int) (nm : ByteArray) (A : Option Addr) (k c : Nat) (w : World) (h0 : n ≠ 0) (e : nm.toList.isEmpty = false) :
    Calls Tryz.prog 73 #[.agg #[.int .i64 9, .slice A k c, .int .i64 n, .int .i64 d, .string nm]] w fun e w' => e = .returned (.int .i64 5) ∧ Below w.heap.size w w' := by
  have f1 : (n != 0) = true := by simp; omega
  clear h0
  go_enter Tryz.func73, Tryz.ntmps73
  go_wp2_with fail
  go_ret
  exact ⟨rfl, new_below _ _⟩
set_option maxHeartbeats 1000000 in
theorem fl42_70 (n d : Int) (nm : ByteArray) (A : Option Addr) (k c : Nat) (w : World) (h0 : n = 0) (h1 : d ≠ 0) (e : nm.toList.isEmpty = false) :
    Calls Tryz.prog 73 #[.agg #[.int .i64 9, .slice A k c, .int .i64 n, .int .i64 d, .string nm]] w fun e w' => e = .returned (.int .i64 5) ∧ Below w.heap.size w w' := by
  have f1 : (d != 0) = true := by simp; omega
  clear h1
  subst h0
  go_enter Tryz.func73, Tryz.ntmps73
  go_wp2_with fail
  go_ret
  exact ⟨rfl, new_below _ _⟩
set_option maxHeartbeats 1000000 in
theorem fl42_71 (n d : Int) (nm : ByteArray) (A : Option Addr) (k c : Nat) (w : World) (h0 : n = 0) (h1 : d = 0) (e : nm.toList.isEmpty = false) :
    Calls Tryz.prog 73 #[.agg #[.int .i64 9, .slice A k c, .int .i64 n, .int .i64 d, .string nm]] w fun e w' => e = .returned (.int .i64 0) ∧ Below w.heap.size w w' := by
  subst h0
  subst h1
  go_enter Tryz.func73, Tryz.ntmps73
  go_wp2_with fail
  go_quiet (fail)
  go_wp2_with fail
  go_ret
  exact ⟨rfl, below_dn (new_below _ _) _⟩
set_option maxHeartbeats 1000000 in
theorem fl42_72 (op n d : Int) (nm : ByteArray) (A : Option Addr) (k c : Nat) (w : World) (o1 : (op == 10) = false) (o2 : (op == 12) = false) (o3 : (op == 15) = false) (o4 : (op == 23) = false) (_o5 : (op != 9) = true) (_o6 : (op != 15) = true) (_o7 : (op != 23) = true) (e : nm.toList.isEmpty = false) :
    Calls Tryz.prog 73 #[.agg #[.int .i64 op, .slice A k c, .int .i64 n, .int .i64 d, .string nm]] w fun e w' => e = .returned (.int .i64 5) ∧ Below w.heap.size w w' := by
  go_enter Tryz.func73, Tryz.ntmps73
  go_wp2_with fail
  go_ret
  exact ⟨rfl, new_below _ _⟩
set_option maxHeartbeats 1000000 in
theorem fl42_73 (op n d : Int) (nm : ByteArray) (A : Option Addr) (k c : Nat) (w : World) (o1 : (op == 10) = false) (o2 : (op == 12) = false) (o3 : (op == 15) = false) (o4 : (op == 23) = false) (_o5 : (op != 9) = true) (_o6 : (op != 15) = true) (_o7 : (op != 23) = true) (h0 : n ≠ 0) (e : nm.toList.isEmpty = true) :
    Calls Tryz.prog 73 #[.agg #[.int .i64 op, .slice A k c, .int .i64 n, .int .i64 d, .string nm]] w fun e w' => e = .returned (.int .i64 5) ∧ Below w.heap.size w w' := by
  have f1 : (n != 0) = true := by simp; omega
  clear h0
  go_enter Tryz.func73, Tryz.ntmps73
  go_wp2_with fail
  go_ret
  exact ⟨rfl, new_below _ _⟩
set_option maxHeartbeats 1000000 in
theorem fl42_74 (op n d : Int) (nm : ByteArray) (A : Option Addr) (k c : Nat) (w : World) (o1 : (op == 10) = false) (o2 : (op == 12) = false) (o3 : (op == 15) = false) (o4 : (op == 23) = false) (_o5 : (op != 9) = true) (_o6 : (op != 15) = true) (_o7 : (op != 23) = true) (h0 : n = 0) (h1 : d ≠ 0) (e : nm.toList.isEmpty = true) :
    Calls Tryz.prog 73 #[.agg #[.int .i64 op, .slice A k c, .int .i64 n, .int .i64 d, .string nm]] w fun e w' => e = .returned (.int .i64 5) ∧ Below w.heap.size w w' := by
  have f1 : (d != 0) = true := by simp; omega
  clear h1
  subst h0
  go_enter Tryz.func73, Tryz.ntmps73
  go_wp2_with fail
  go_ret
  exact ⟨rfl, new_below _ _⟩
set_option maxHeartbeats 1000000 in
theorem fl42_75 (op n d : Int) (nm : ByteArray) (A : Option Addr) (k c : Nat) (w : World) (o1 : (op == 10) = false) (o2 : (op == 12) = false) (o3 : (op == 15) = false) (o4 : (op == 23) = false) (_o5 : (op != 9) = true) (_o6 : (op != 15) = true) (_o7 : (op != 23) = true) (h0 : n = 0) (h1 : d = 0) (e : nm.toList.isEmpty = true) :
    Calls Tryz.prog 73 #[.agg #[.int .i64 op, .slice A k c, .int .i64 n, .int .i64 d, .string nm]] w fun e w' => e = .returned (.int .i64 0) ∧ Below w.heap.size w w' := by
  subst h0
  subst h1
  go_enter Tryz.func73, Tryz.ntmps73
  go_wp2_with fail
  go_quiet (fail)
  go_wp2_with fail
  go_ret
  exact ⟨rfl, below_dn (new_below _ _) _⟩
end Go.Proofs.YtaodebpogibimaaGreat
