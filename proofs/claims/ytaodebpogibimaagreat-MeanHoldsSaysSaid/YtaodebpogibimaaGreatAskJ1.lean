/-
  Asks: the name and the numbers of a node, case by case, by the reference.
-/
import Derived.Test.YtaodebpogibimaaGreatG04
namespace Go.Proofs.YtaodebpogibimaaGreat
open Go.RowKit

set_option maxHeartbeats 1000000 in
theorem fl30_0 (n d : Int) (nm : ByteArray) (A : Option Addr) (k c : Nat) (w : World) (e : nm.toList.isEmpty = false) :
    Calls Tryz.prog 46 #[.agg #[.int .i64 10, .slice A k c, .int .i64 n, .int .i64 d, .string nm]] w fun e w' => e = .returned (.int .i64 5) ∧ Below w.heap.size w w' := by
  go_enter Tryz.func46, Tryz.ntmps46
  go_wp2_with fail
  go_ret
  exact ⟨rfl, by first | exact below_dn (new_below _ _) _ | exact below_dn (below_dn (new_below _ _) _) _ | exact new_below _ _⟩
set_option maxHeartbeats 1000000 in
theorem fl30_1 (n d : Int) (nm : ByteArray) (A : Option Addr) (k c : Nat) (w : World) (e : nm.toList.isEmpty = false) :
    Calls Tryz.prog 46 #[.agg #[.int .i64 12, .slice A k c, .int .i64 n, .int .i64 d, .string nm]] w fun e w' => e = .returned (.int .i64 5) ∧ Below w.heap.size w w' := by
  go_enter Tryz.func46, Tryz.ntmps46
  go_wp2_with fail
  go_ret
  exact ⟨rfl, by first | exact below_dn (new_below _ _) _ | exact below_dn (below_dn (new_below _ _) _) _ | exact new_below _ _⟩
set_option maxHeartbeats 1000000 in
theorem fl30_60 (n d : Int) (nm : ByteArray) (A : Option Addr) (k c : Nat) (w : World) (h0 : n < -1000000) (h1 : d = 0) (e : nm.toList.isEmpty = true) :
    Calls Tryz.prog 46 #[.agg #[.int .i64 10, .slice A k c, .int .i64 n, .int .i64 d, .string nm]] w fun e w' => e = .returned (.int .i64 3) ∧ Below w.heap.size w w' := by
  have f1 : (n != 0) = true := by simp; omega
  have f21 : decide (n < -1000000) = true := by simp; omega
  have f22 : decide (1000000 < n) = false := by simp; omega
  clear h0
  subst h1
  go_enter Tryz.func46, Tryz.ntmps46
  go_wp2_with fail
  go_ret
  exact ⟨rfl, by first | exact below_dn (new_below _ _) _ | exact below_dn (below_dn (new_below _ _) _) _ | exact new_below _ _⟩
set_option maxHeartbeats 1000000 in
theorem fl30_61 (n d : Int) (nm : ByteArray) (A : Option Addr) (k c : Nat) (w : World) (h0 : n < -1000000) (h1 : d ≠ 0) (e : nm.toList.isEmpty = true) :
    Calls Tryz.prog 46 #[.agg #[.int .i64 10, .slice A k c, .int .i64 n, .int .i64 d, .string nm]] w fun e w' => e = .returned (.int .i64 3) ∧ Below w.heap.size w w' := by
  have f1 : (n != 0) = true := by simp; omega
  have f2 : (d != 0) = true := by simp; omega
  have f21 : decide (n < -1000000) = true := by simp; omega
  have f22 : decide (1000000 < n) = false := by simp; omega
  clear h0 h1
  go_enter Tryz.func46, Tryz.ntmps46
  go_wp2_with fail
  go_ret
  exact ⟨rfl, by first | exact below_dn (new_below _ _) _ | exact below_dn (below_dn (new_below _ _) _) _ | exact new_below _ _⟩
set_option maxHeartbeats 1000000 in
theorem fl30_62 (n d : Int) (nm : ByteArray) (A : Option Addr) (k c : Nat) (w : World) (h0 : 1000000 < n) (h1 : d = 0) (e : nm.toList.isEmpty = true) :
    Calls Tryz.prog 46 #[.agg #[.int .i64 10, .slice A k c, .int .i64 n, .int .i64 d, .string nm]] w fun e w' => e = .returned (.int .i64 3) ∧ Below w.heap.size w w' := by
  have f1 : (n != 0) = true := by simp; omega
  have f21 : decide (n < -1000000) = false := by simp; omega
  have f22 : decide (1000000 < n) = true := by simp; omega
  clear h0
  subst h1
  go_enter Tryz.func46, Tryz.ntmps46
  go_wp2_with fail
  go_ret
  exact ⟨rfl, by first | exact below_dn (new_below _ _) _ | exact below_dn (below_dn (new_below _ _) _) _ | exact new_below _ _⟩
set_option maxHeartbeats 1000000 in
theorem fl30_63 (n d : Int) (nm : ByteArray) (A : Option Addr) (k c : Nat) (w : World) (h0 : 1000000 < n) (h1 : d ≠ 0) (e : nm.toList.isEmpty = true) :
    Calls Tryz.prog 46 #[.agg #[.int .i64 10, .slice A k c, .int .i64 n, .int .i64 d, .string nm]] w fun e w' => e = .returned (.int .i64 3) ∧ Below w.heap.size w w' := by
  have f1 : (n != 0) = true := by simp; omega
  have f2 : (d != 0) = true := by simp; omega
  have f21 : decide (n < -1000000) = false := by simp; omega
  have f22 : decide (1000000 < n) = true := by simp; omega
  clear h0 h1
  go_enter Tryz.func46, Tryz.ntmps46
  go_wp2_with fail
  go_ret
  exact ⟨rfl, by first | exact below_dn (new_below _ _) _ | exact below_dn (below_dn (new_below _ _) _) _ | exact new_below _ _⟩
set_option maxHeartbeats 1000000 in
theorem fl30_64 (n d : Int) (nm : ByteArray) (A : Option Addr) (k c : Nat) (w : World) (h0 : n = 0) (h1 : d = 0) (e : nm.toList.isEmpty = true) :
    Calls Tryz.prog 46 #[.agg #[.int .i64 10, .slice A k c, .int .i64 n, .int .i64 d, .string nm]] w fun e w' => e = .returned (.int .i64 3) ∧ Below w.heap.size w w' := by
  subst h0
  subst h1
  go_enter Tryz.func46, Tryz.ntmps46
  go_wp2_with fail
  go_ret
  exact ⟨rfl, by first | exact below_dn (new_below _ _) _ | exact below_dn (below_dn (new_below _ _) _) _ | exact new_below _ _⟩
set_option maxHeartbeats 1000000 in
theorem fl30_65 (n d : Int) (nm : ByteArray) (A : Option Addr) (k c : Nat) (w : World) (h0 : n = 0) (h1 : d < 0) (e : nm.toList.isEmpty = true) :
    Calls Tryz.prog 46 #[.agg #[.int .i64 10, .slice A k c, .int .i64 n, .int .i64 d, .string nm]] w fun e w' => e = .returned (.int .i64 3) ∧ Below w.heap.size w w' := by
  have f1 : (d != 0) = true := by simp; omega
  have f21 : decide (d < 1) = true := by simp; omega
  clear h1
  subst h0
  go_enter Tryz.func46, Tryz.ntmps46
  go_wp2_with fail
  go_ret
  exact ⟨rfl, by first | exact below_dn (new_below _ _) _ | exact below_dn (below_dn (new_below _ _) _) _ | exact new_below _ _⟩
set_option maxHeartbeats 1000000 in
theorem fl30_66 (n d : Int) (nm : ByteArray) (A : Option Addr) (k c : Nat) (w : World) (h0 : n = 0) (h1 : 1000000 < d) (e : nm.toList.isEmpty = true) :
    Calls Tryz.prog 46 #[.agg #[.int .i64 10, .slice A k c, .int .i64 n, .int .i64 d, .string nm]] w fun e w' => e = .returned (.int .i64 3) ∧ Below w.heap.size w w' := by
  have f1 : (d != 0) = true := by simp; omega
  have f21 : decide (d < 1) = false := by simp; omega
  have f22 : decide (1000000 < d) = true := by simp; omega
  clear h1
  subst h0
  go_enter Tryz.func46, Tryz.ntmps46
  go_wp2_with fail
  go_ret
  exact ⟨rfl, by first | exact below_dn (new_below _ _) _ | exact below_dn (below_dn (new_below _ _) _) _ | exact new_below _ _⟩
set_option maxHeartbeats 1000000 in
theorem fl30_67 (n d : Int) (nm : ByteArray) (A : Option Addr) (k c : Nat) (w : World) (h0 : n = 0) (h1 : 1 ≤ d ∧ d ≤ 1000000) (e : nm.toList.isEmpty = true) (hf : ((Nat.gcd (mag n) (mag d) : Int) != 1) = false) :
    Calls Tryz.prog 46 #[.agg #[.int .i64 10, .slice A k c, .int .i64 n, .int .i64 d, .string nm]] w fun e w' => e = .returned (.int .i64 0) ∧ Below w.heap.size w w' := by
  have f1 : (d != 0) = true := by simp; omega
  have f21 : decide (d < 1) = false := by simp; omega
  have f22 : decide (1000000 < d) = false := by simp; omega
  have HG := Lib.hid (gcd_ref n d (by omega) (by omega) (by omega) (by omega))
  clear h1
  subst h0
  have HF := Lib.hid hf
  clear hf
  go_enter Tryz.func46, Tryz.ntmps46
  go_wp2_with fail
  refine (HG.out _).mono ?_
  rintro e w1 ⟨rfl, m, rfl⟩
  have HF1 := HF.out
  go_wp2_with fail
  go_quiet (fail)
  go_wp2_with fail
  go_ret
  exact ⟨rfl, by first | exact below_dn (new_below _ _) _ | exact below_dn (below_dn (new_below _ _) _) _ | exact new_below _ _⟩
set_option maxHeartbeats 1000000 in
theorem fl30_68 (n d : Int) (nm : ByteArray) (A : Option Addr) (k c : Nat) (w : World) (h0 : n = 0) (h1 : 1 ≤ d ∧ d ≤ 1000000) (e : nm.toList.isEmpty = true) (hf : ((Nat.gcd (mag n) (mag d) : Int) != 1) = true) :
    Calls Tryz.prog 46 #[.agg #[.int .i64 10, .slice A k c, .int .i64 n, .int .i64 d, .string nm]] w fun e w' => e = .returned (.int .i64 3) ∧ Below w.heap.size w w' := by
  have f1 : (d != 0) = true := by simp; omega
  have f21 : decide (d < 1) = false := by simp; omega
  have f22 : decide (1000000 < d) = false := by simp; omega
  have HG := Lib.hid (gcd_ref n d (by omega) (by omega) (by omega) (by omega))
  clear h1
  subst h0
  have HF := Lib.hid hf
  clear hf
  go_enter Tryz.func46, Tryz.ntmps46
  go_wp2_with fail
  refine (HG.out _).mono ?_
  rintro e w1 ⟨rfl, m, rfl⟩
  have HF1 := HF.out
  go_wp2_with fail
  go_ret
  exact ⟨rfl, by first | exact below_dn (new_below _ _) _ | exact below_dn (below_dn (new_below _ _) _) _ | exact new_below _ _⟩
set_option maxHeartbeats 1000000 in
theorem fl30_69 (n d : Int) (nm : ByteArray) (A : Option Addr) (k c : Nat) (w : World) (h0 : -1000000 ≤ n ∧ n ≤ 1000000 ∧ n ≠ 0) (h1 : d = 0) (e : nm.toList.isEmpty = true) :
    Calls Tryz.prog 46 #[.agg #[.int .i64 10, .slice A k c, .int .i64 n, .int .i64 d, .string nm]] w fun e w' => e = .returned (.int .i64 3) ∧ Below w.heap.size w w' := by
  have f1 : (n != 0) = true := by simp; omega
  have f21 : decide (n < -1000000) = false := by simp; omega
  have f22 : decide (1000000 < n) = false := by simp; omega
  clear h0
  subst h1
  go_enter Tryz.func46, Tryz.ntmps46
  go_wp2_with fail
  go_ret
  exact ⟨rfl, by first | exact below_dn (new_below _ _) _ | exact below_dn (below_dn (new_below _ _) _) _ | exact new_below _ _⟩
set_option maxHeartbeats 1000000 in
theorem fl30_70 (n d : Int) (nm : ByteArray) (A : Option Addr) (k c : Nat) (w : World) (h0 : -1000000 ≤ n ∧ n ≤ 1000000 ∧ n ≠ 0) (h1 : d < 0) (e : nm.toList.isEmpty = true) :
    Calls Tryz.prog 46 #[.agg #[.int .i64 10, .slice A k c, .int .i64 n, .int .i64 d, .string nm]] w fun e w' => e = .returned (.int .i64 3) ∧ Below w.heap.size w w' := by
  have f1 : (n != 0) = true := by simp; omega
  have f2 : (d != 0) = true := by simp; omega
  have f21 : decide (n < -1000000) = false := by simp; omega
  have f22 : decide (1000000 < n) = false := by simp; omega
  have f23 : decide (d < 1) = true := by simp; omega
  have f24 : decide (1000000 < d) = false := by simp; omega
  clear h0 h1
  go_enter Tryz.func46, Tryz.ntmps46
  go_wp2_with fail
  go_ret
  exact ⟨rfl, by first | exact below_dn (new_below _ _) _ | exact below_dn (below_dn (new_below _ _) _) _ | exact new_below _ _⟩
set_option maxHeartbeats 1000000 in
theorem fl30_71 (n d : Int) (nm : ByteArray) (A : Option Addr) (k c : Nat) (w : World) (h0 : -1000000 ≤ n ∧ n ≤ 1000000 ∧ n ≠ 0) (h1 : 1000000 < d) (e : nm.toList.isEmpty = true) :
    Calls Tryz.prog 46 #[.agg #[.int .i64 10, .slice A k c, .int .i64 n, .int .i64 d, .string nm]] w fun e w' => e = .returned (.int .i64 3) ∧ Below w.heap.size w w' := by
  have f1 : (n != 0) = true := by simp; omega
  have f2 : (d != 0) = true := by simp; omega
  have f21 : decide (n < -1000000) = false := by simp; omega
  have f22 : decide (1000000 < n) = false := by simp; omega
  have f23 : decide (d < 1) = false := by simp; omega
  have f24 : decide (1000000 < d) = true := by simp; omega
  clear h0 h1
  go_enter Tryz.func46, Tryz.ntmps46
  go_wp2_with fail
  go_ret
  exact ⟨rfl, by first | exact below_dn (new_below _ _) _ | exact below_dn (below_dn (new_below _ _) _) _ | exact new_below _ _⟩
set_option maxHeartbeats 1000000 in
theorem fl30_72 (n d : Int) (nm : ByteArray) (A : Option Addr) (k c : Nat) (w : World) (h0 : -1000000 ≤ n ∧ n ≤ 1000000 ∧ n ≠ 0) (h1 : 1 ≤ d ∧ d ≤ 1000000) (e : nm.toList.isEmpty = true) (hf : ((Nat.gcd (mag n) (mag d) : Int) != 1) = false) :
    Calls Tryz.prog 46 #[.agg #[.int .i64 10, .slice A k c, .int .i64 n, .int .i64 d, .string nm]] w fun e w' => e = .returned (.int .i64 0) ∧ Below w.heap.size w w' := by
  have f1 : (n != 0) = true := by simp; omega
  have f2 : (d != 0) = true := by simp; omega
  have f21 : decide (n < -1000000) = false := by simp; omega
  have f22 : decide (1000000 < n) = false := by simp; omega
  have f23 : decide (d < 1) = false := by simp; omega
  have f24 : decide (1000000 < d) = false := by simp; omega
  have HG := Lib.hid (gcd_ref n d (by omega) (by omega) (by omega) (by omega))
  clear h0 h1
  have HF := Lib.hid hf
  clear hf
  go_enter Tryz.func46, Tryz.ntmps46
  go_wp2_with fail
  refine (HG.out _).mono ?_
  rintro e w1 ⟨rfl, m, rfl⟩
  have HF1 := HF.out
  go_wp2_with fail
  go_quiet (fail)
  go_wp2_with fail
  go_ret
  exact ⟨rfl, by first | exact below_dn (new_below _ _) _ | exact below_dn (below_dn (new_below _ _) _) _ | exact new_below _ _⟩
set_option maxHeartbeats 1000000 in
theorem fl30_73 (n d : Int) (nm : ByteArray) (A : Option Addr) (k c : Nat) (w : World) (h0 : -1000000 ≤ n ∧ n ≤ 1000000 ∧ n ≠ 0) (h1 : 1 ≤ d ∧ d ≤ 1000000) (e : nm.toList.isEmpty = true) (hf : ((Nat.gcd (mag n) (mag d) : Int) != 1) = true) :
    Calls Tryz.prog 46 #[.agg #[.int .i64 10, .slice A k c, .int .i64 n, .int .i64 d, .string nm]] w fun e w' => e = .returned (.int .i64 3) ∧ Below w.heap.size w w' := by
  have f1 : (n != 0) = true := by simp; omega
  have f2 : (d != 0) = true := by simp; omega
  have f21 : decide (n < -1000000) = false := by simp; omega
  have f22 : decide (1000000 < n) = false := by simp; omega
  have f23 : decide (d < 1) = false := by simp; omega
  have f24 : decide (1000000 < d) = false := by simp; omega
  have HG := Lib.hid (gcd_ref n d (by omega) (by omega) (by omega) (by omega))
  clear h0 h1
  have HF := Lib.hid hf
  clear hf
  go_enter Tryz.func46, Tryz.ntmps46
  go_wp2_with fail
  refine (HG.out _).mono ?_
  rintro e w1 ⟨rfl, m, rfl⟩
  have HF1 := HF.out
  go_wp2_with fail
  go_ret
  exact ⟨rfl, by first | exact below_dn (new_below _ _) _ | exact below_dn (below_dn (new_below _ _) _) _ | exact new_below _ _⟩
set_option maxHeartbeats 1000000 in
theorem fl30_74 (n d : Int) (nm : ByteArray) (A : Option Addr) (k c : Nat) (w : World) (h0 : n < -1000000) (h1 : d = 0) (e : nm.toList.isEmpty = true) :
    Calls Tryz.prog 46 #[.agg #[.int .i64 12, .slice A k c, .int .i64 n, .int .i64 d, .string nm]] w fun e w' => e = .returned (.int .i64 3) ∧ Below w.heap.size w w' := by
  have f1 : (n != 0) = true := by simp; omega
  have f21 : decide (n < -1000000) = true := by simp; omega
  have f22 : decide (1000000 < n) = false := by simp; omega
  clear h0
  subst h1
  go_enter Tryz.func46, Tryz.ntmps46
  go_wp2_with fail
  go_ret
  exact ⟨rfl, by first | exact below_dn (new_below _ _) _ | exact below_dn (below_dn (new_below _ _) _) _ | exact new_below _ _⟩
set_option maxHeartbeats 1000000 in
theorem fl30_75 (n d : Int) (nm : ByteArray) (A : Option Addr) (k c : Nat) (w : World) (h0 : n < -1000000) (h1 : d ≠ 0) (e : nm.toList.isEmpty = true) :
    Calls Tryz.prog 46 #[.agg #[.int .i64 12, .slice A k c, .int .i64 n, .int .i64 d, .string nm]] w fun e w' => e = .returned (.int .i64 3) ∧ Below w.heap.size w w' := by
  have f1 : (n != 0) = true := by simp; omega
  have f2 : (d != 0) = true := by simp; omega
  have f21 : decide (n < -1000000) = true := by simp; omega
  have f22 : decide (1000000 < n) = false := by simp; omega
  clear h0 h1
  go_enter Tryz.func46, Tryz.ntmps46
  go_wp2_with fail
  go_ret
  exact ⟨rfl, by first | exact below_dn (new_below _ _) _ | exact below_dn (below_dn (new_below _ _) _) _ | exact new_below _ _⟩
set_option maxHeartbeats 1000000 in
theorem fl30_76 (n d : Int) (nm : ByteArray) (A : Option Addr) (k c : Nat) (w : World) (h0 : 1000000 < n) (h1 : d = 0) (e : nm.toList.isEmpty = true) :
    Calls Tryz.prog 46 #[.agg #[.int .i64 12, .slice A k c, .int .i64 n, .int .i64 d, .string nm]] w fun e w' => e = .returned (.int .i64 3) ∧ Below w.heap.size w w' := by
  have f1 : (n != 0) = true := by simp; omega
  have f21 : decide (n < -1000000) = false := by simp; omega
  have f22 : decide (1000000 < n) = true := by simp; omega
  clear h0
  subst h1
  go_enter Tryz.func46, Tryz.ntmps46
  go_wp2_with fail
  go_ret
  exact ⟨rfl, by first | exact below_dn (new_below _ _) _ | exact below_dn (below_dn (new_below _ _) _) _ | exact new_below _ _⟩
set_option maxHeartbeats 1000000 in
theorem fl30_77 (n d : Int) (nm : ByteArray) (A : Option Addr) (k c : Nat) (w : World) (h0 : 1000000 < n) (h1 : d ≠ 0) (e : nm.toList.isEmpty = true) :
    Calls Tryz.prog 46 #[.agg #[.int .i64 12, .slice A k c, .int .i64 n, .int .i64 d, .string nm]] w fun e w' => e = .returned (.int .i64 3) ∧ Below w.heap.size w w' := by
  have f1 : (n != 0) = true := by simp; omega
  have f2 : (d != 0) = true := by simp; omega
  have f21 : decide (n < -1000000) = false := by simp; omega
  have f22 : decide (1000000 < n) = true := by simp; omega
  clear h0 h1
  go_enter Tryz.func46, Tryz.ntmps46
  go_wp2_with fail
  go_ret
  exact ⟨rfl, by first | exact below_dn (new_below _ _) _ | exact below_dn (below_dn (new_below _ _) _) _ | exact new_below _ _⟩
set_option maxHeartbeats 1000000 in
theorem fl30_78 (n d : Int) (nm : ByteArray) (A : Option Addr) (k c : Nat) (w : World) (h0 : n = 0) (h1 : d = 0) (e : nm.toList.isEmpty = true) :
    Calls Tryz.prog 46 #[.agg #[.int .i64 12, .slice A k c, .int .i64 n, .int .i64 d, .string nm]] w fun e w' => e = .returned (.int .i64 3) ∧ Below w.heap.size w w' := by
  subst h0
  subst h1
  go_enter Tryz.func46, Tryz.ntmps46
  go_wp2_with fail
  go_ret
  exact ⟨rfl, by first | exact below_dn (new_below _ _) _ | exact below_dn (below_dn (new_below _ _) _) _ | exact new_below _ _⟩
set_option maxHeartbeats 1000000 in
theorem fl30_79 (n d : Int) (nm : ByteArray) (A : Option Addr) (k c : Nat) (w : World) (h0 : n = 0) (h1 : d < 0) (e : nm.toList.isEmpty = true) :
    Calls Tryz.prog 46 #[.agg #[.int .i64 12, .slice A k c, .int .i64 n, .int .i64 d, .string nm]] w fun e w' => e = .returned (.int .i64 3) ∧ Below w.heap.size w w' := by
  have f1 : (d != 0) = true := by simp; omega
  have f21 : decide (d < 1) = true := by simp; omega
  clear h1
  subst h0
  go_enter Tryz.func46, Tryz.ntmps46
  go_wp2_with fail
  go_ret
  exact ⟨rfl, by first | exact below_dn (new_below _ _) _ | exact below_dn (below_dn (new_below _ _) _) _ | exact new_below _ _⟩
set_option maxHeartbeats 1000000 in
theorem fl30_80 (n d : Int) (nm : ByteArray) (A : Option Addr) (k c : Nat) (w : World) (h0 : n = 0) (h1 : 1000000 < d) (e : nm.toList.isEmpty = true) :
    Calls Tryz.prog 46 #[.agg #[.int .i64 12, .slice A k c, .int .i64 n, .int .i64 d, .string nm]] w fun e w' => e = .returned (.int .i64 3) ∧ Below w.heap.size w w' := by
  have f1 : (d != 0) = true := by simp; omega
  have f21 : decide (d < 1) = false := by simp; omega
  have f22 : decide (1000000 < d) = true := by simp; omega
  clear h1
  subst h0
  go_enter Tryz.func46, Tryz.ntmps46
  go_wp2_with fail
  go_ret
  exact ⟨rfl, by first | exact below_dn (new_below _ _) _ | exact below_dn (below_dn (new_below _ _) _) _ | exact new_below _ _⟩
set_option maxHeartbeats 1000000 in
theorem fl30_81 (n d : Int) (nm : ByteArray) (A : Option Addr) (k c : Nat) (w : World) (h0 : n = 0) (h1 : 1 ≤ d ∧ d ≤ 1000000) (e : nm.toList.isEmpty = true) (hf : ((Nat.gcd (mag n) (mag d) : Int) != 1) = false) :
    Calls Tryz.prog 46 #[.agg #[.int .i64 12, .slice A k c, .int .i64 n, .int .i64 d, .string nm]] w fun e w' => e = .returned (.int .i64 0) ∧ Below w.heap.size w w' := by
  have f1 : (d != 0) = true := by simp; omega
  have f21 : decide (d < 1) = false := by simp; omega
  have f22 : decide (1000000 < d) = false := by simp; omega
  have HG := Lib.hid (gcd_ref n d (by omega) (by omega) (by omega) (by omega))
  clear h1
  subst h0
  have HF := Lib.hid hf
  clear hf
  go_enter Tryz.func46, Tryz.ntmps46
  go_wp2_with fail
  refine (HG.out _).mono ?_
  rintro e w1 ⟨rfl, m, rfl⟩
  have HF1 := HF.out
  go_wp2_with fail
  go_quiet (fail)
  go_wp2_with fail
  go_ret
  exact ⟨rfl, by first | exact below_dn (new_below _ _) _ | exact below_dn (below_dn (new_below _ _) _) _ | exact new_below _ _⟩
set_option maxHeartbeats 1000000 in
theorem fl30_82 (n d : Int) (nm : ByteArray) (A : Option Addr) (k c : Nat) (w : World) (h0 : n = 0) (h1 : 1 ≤ d ∧ d ≤ 1000000) (e : nm.toList.isEmpty = true) (hf : ((Nat.gcd (mag n) (mag d) : Int) != 1) = true) :
    Calls Tryz.prog 46 #[.agg #[.int .i64 12, .slice A k c, .int .i64 n, .int .i64 d, .string nm]] w fun e w' => e = .returned (.int .i64 3) ∧ Below w.heap.size w w' := by
  have f1 : (d != 0) = true := by simp; omega
  have f21 : decide (d < 1) = false := by simp; omega
  have f22 : decide (1000000 < d) = false := by simp; omega
  have HG := Lib.hid (gcd_ref n d (by omega) (by omega) (by omega) (by omega))
  clear h1
  subst h0
  have HF := Lib.hid hf
  clear hf
  go_enter Tryz.func46, Tryz.ntmps46
  go_wp2_with fail
  refine (HG.out _).mono ?_
  rintro e w1 ⟨rfl, m, rfl⟩
  have HF1 := HF.out
  go_wp2_with fail
  go_ret
  exact ⟨rfl, by first | exact below_dn (new_below _ _) _ | exact below_dn (below_dn (new_below _ _) _) _ | exact new_below _ _⟩
set_option maxHeartbeats 1000000 in
theorem fl30_83 (n d : Int) (nm : ByteArray) (A : Option Addr) (k c : Nat) (w : World) (h0 : -1000000 ≤ n ∧ n ≤ 1000000 ∧ n ≠ 0) (h1 : d = 0) (e : nm.toList.isEmpty = true) :
    Calls Tryz.prog 46 #[.agg #[.int .i64 12, .slice A k c, .int .i64 n, .int .i64 d, .string nm]] w fun e w' => e = .returned (.int .i64 3) ∧ Below w.heap.size w w' := by
  have f1 : (n != 0) = true := by simp; omega
  have f21 : decide (n < -1000000) = false := by simp; omega
  have f22 : decide (1000000 < n) = false := by simp; omega
  clear h0
  subst h1
  go_enter Tryz.func46, Tryz.ntmps46
  go_wp2_with fail
  go_ret
  exact ⟨rfl, by first | exact below_dn (new_below _ _) _ | exact below_dn (below_dn (new_below _ _) _) _ | exact new_below _ _⟩
set_option maxHeartbeats 1000000 in
theorem fl30_84 (n d : Int) (nm : ByteArray) (A : Option Addr) (k c : Nat) (w : World) (h0 : -1000000 ≤ n ∧ n ≤ 1000000 ∧ n ≠ 0) (h1 : d < 0) (e : nm.toList.isEmpty = true) :
    Calls Tryz.prog 46 #[.agg #[.int .i64 12, .slice A k c, .int .i64 n, .int .i64 d, .string nm]] w fun e w' => e = .returned (.int .i64 3) ∧ Below w.heap.size w w' := by
  have f1 : (n != 0) = true := by simp; omega
  have f2 : (d != 0) = true := by simp; omega
  have f21 : decide (n < -1000000) = false := by simp; omega
  have f22 : decide (1000000 < n) = false := by simp; omega
  have f23 : decide (d < 1) = true := by simp; omega
  have f24 : decide (1000000 < d) = false := by simp; omega
  clear h0 h1
  go_enter Tryz.func46, Tryz.ntmps46
  go_wp2_with fail
  go_ret
  exact ⟨rfl, by first | exact below_dn (new_below _ _) _ | exact below_dn (below_dn (new_below _ _) _) _ | exact new_below _ _⟩
set_option maxHeartbeats 1000000 in
theorem fl30_85 (n d : Int) (nm : ByteArray) (A : Option Addr) (k c : Nat) (w : World) (h0 : -1000000 ≤ n ∧ n ≤ 1000000 ∧ n ≠ 0) (h1 : 1000000 < d) (e : nm.toList.isEmpty = true) :
    Calls Tryz.prog 46 #[.agg #[.int .i64 12, .slice A k c, .int .i64 n, .int .i64 d, .string nm]] w fun e w' => e = .returned (.int .i64 3) ∧ Below w.heap.size w w' := by
  have f1 : (n != 0) = true := by simp; omega
  have f2 : (d != 0) = true := by simp; omega
  have f21 : decide (n < -1000000) = false := by simp; omega
  have f22 : decide (1000000 < n) = false := by simp; omega
  have f23 : decide (d < 1) = false := by simp; omega
  have f24 : decide (1000000 < d) = true := by simp; omega
  clear h0 h1
  go_enter Tryz.func46, Tryz.ntmps46
  go_wp2_with fail
  go_ret
  exact ⟨rfl, by first | exact below_dn (new_below _ _) _ | exact below_dn (below_dn (new_below _ _) _) _ | exact new_below _ _⟩
set_option maxHeartbeats 1000000 in
theorem fl30_86 (n d : Int) (nm : ByteArray) (A : Option Addr) (k c : Nat) (w : World) (h0 : -1000000 ≤ n ∧ n ≤ 1000000 ∧ n ≠ 0) (h1 : 1 ≤ d ∧ d ≤ 1000000) (e : nm.toList.isEmpty = true) (hf : ((Nat.gcd (mag n) (mag d) : Int) != 1) = false) :
    Calls Tryz.prog 46 #[.agg #[.int .i64 12, .slice A k c, .int .i64 n, .int .i64 d, .string nm]] w fun e w' => e = .returned (.int .i64 0) ∧ Below w.heap.size w w' := by
  have f1 : (n != 0) = true := by simp; omega
  have f2 : (d != 0) = true := by simp; omega
  have f21 : decide (n < -1000000) = false := by simp; omega
  have f22 : decide (1000000 < n) = false := by simp; omega
  have f23 : decide (d < 1) = false := by simp; omega
  have f24 : decide (1000000 < d) = false := by simp; omega
  have HG := Lib.hid (gcd_ref n d (by omega) (by omega) (by omega) (by omega))
  clear h0 h1
  have HF := Lib.hid hf
  clear hf
  go_enter Tryz.func46, Tryz.ntmps46
  go_wp2_with fail
  refine (HG.out _).mono ?_
  rintro e w1 ⟨rfl, m, rfl⟩
  have HF1 := HF.out
  go_wp2_with fail
  go_quiet (fail)
  go_wp2_with fail
  go_ret
  exact ⟨rfl, by first | exact below_dn (new_below _ _) _ | exact below_dn (below_dn (new_below _ _) _) _ | exact new_below _ _⟩
set_option maxHeartbeats 1000000 in
theorem fl30_87 (n d : Int) (nm : ByteArray) (A : Option Addr) (k c : Nat) (w : World) (h0 : -1000000 ≤ n ∧ n ≤ 1000000 ∧ n ≠ 0) (h1 : 1 ≤ d ∧ d ≤ 1000000) (e : nm.toList.isEmpty = true) (hf : ((Nat.gcd (mag n) (mag d) : Int) != 1) = true) :
    Calls Tryz.prog 46 #[.agg #[.int .i64 12, .slice A k c, .int .i64 n, .int .i64 d, .string nm]] w fun e w' => e = .returned (.int .i64 3) ∧ Below w.heap.size w w' := by
  have f1 : (n != 0) = true := by simp; omega
  have f2 : (d != 0) = true := by simp; omega
  have f21 : decide (n < -1000000) = false := by simp; omega
  have f22 : decide (1000000 < n) = false := by simp; omega
  have f23 : decide (d < 1) = false := by simp; omega
  have f24 : decide (1000000 < d) = false := by simp; omega
  have HG := Lib.hid (gcd_ref n d (by omega) (by omega) (by omega) (by omega))
  clear h0 h1
  have HF := Lib.hid hf
  clear hf
  go_enter Tryz.func46, Tryz.ntmps46
  go_wp2_with fail
  refine (HG.out _).mono ?_
  rintro e w1 ⟨rfl, m, rfl⟩
  have HF1 := HF.out
  go_wp2_with fail
  go_ret
  exact ⟨rfl, by first | exact below_dn (new_below _ _) _ | exact below_dn (below_dn (new_below _ _) _) _ | exact new_below _ _⟩
end Go.Proofs.YtaodebpogibimaaGreat
