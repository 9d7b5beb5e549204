/-
  Asks: the name and the numbers of a node, case by case.
-/
import Derived.Test.YtaodebpogibimaaGreatG04
namespace Go.Proofs.YtaodebpogibimaaGreat
open Go.RowKit

set_option maxHeartbeats 1000000 in
theorem fl42_0 (n d : Int) (nm : ByteArray) (A : Option Addr) (k c : Nat) (w : World) (e : nm.toList.isEmpty = false) :
    Calls Tryz.prog 73 #[.agg #[.int .i64 10, .slice A k c, .int .i64 n, .int .i64 d, .string nm]] w fun e w' => e = .returned (.int .i64 5) ∧ Below w.heap.size w w' := by
  go_enter Tryz.func73, Tryz.ntmps73
  go_wp2_with fail
  go_ret
  exact ⟨rfl, new_below _ _⟩
set_option maxHeartbeats 1000000 in
theorem fl42_1 (n d : Int) (nm : ByteArray) (A : Option Addr) (k c : Nat) (w : World) (h0 : n = 0) (h1 : d = 0) (e : nm.toList.isEmpty = true) (hf : isFr n d = true) :
    Calls Tryz.prog 73 #[.agg #[.int .i64 10, .slice A k c, .int .i64 n, .int .i64 d, .string nm]] w fun e w' => e = .returned (.int .i64 0) ∧ Below w.heap.size w w' := by
  subst h0
  subst h1
  have HF := Lib.hid hf
  clear hf
  go_enter Tryz.func73, Tryz.ntmps73
  go_wp2_with fail
  refine (isfr_any 0 0 _).mono ?_
  rintro e w1 ⟨rfl, hb1⟩
  have HB1 := Lib.hid (bw_below (Nat.le_refl _) (new_below w _) hb1)
  clear hb1
  rw [HF.out]
  go_wp2_with fail
  go_quiet (fail)
  go_wp2_with fail
  go_ret
  exact ⟨rfl, below_dn (HB1.out) _⟩
set_option maxHeartbeats 1000000 in
theorem fl42_2 (n d : Int) (nm : ByteArray) (A : Option Addr) (k c : Nat) (w : World) (h0 : n = 0) (h1 : d = 0) (e : nm.toList.isEmpty = true) (hf : isFr n d = false) :
    Calls Tryz.prog 73 #[.agg #[.int .i64 10, .slice A k c, .int .i64 n, .int .i64 d, .string nm]] w fun e w' => e = .returned (.int .i64 3) ∧ Below w.heap.size w w' := by
  subst h0
  subst h1
  have HF := Lib.hid hf
  clear hf
  go_enter Tryz.func73, Tryz.ntmps73
  go_wp2_with fail
  refine (isfr_any 0 0 _).mono ?_
  rintro e w1 ⟨rfl, hb1⟩
  have HB1 := Lib.hid (bw_below (Nat.le_refl _) (new_below w _) hb1)
  clear hb1
  rw [HF.out]
  go_wp2_with fail
  go_ret
  exact ⟨rfl, HB1.out⟩
set_option maxHeartbeats 1000000 in
theorem fl42_3 (n d : Int) (nm : ByteArray) (A : Option Addr) (k c : Nat) (w : World) (h0 : n = 0) (h1 : d ≠ 0) (e : nm.toList.isEmpty = true) (hf : isFr n d = true) :
    Calls Tryz.prog 73 #[.agg #[.int .i64 10, .slice A k c, .int .i64 n, .int .i64 d, .string nm]] w fun e w' => e = .returned (.int .i64 0) ∧ Below w.heap.size w w' := by
  have f1 : (d != 0) = true := by simp; omega
  clear h1
  subst h0
  have HF := Lib.hid hf
  clear hf
  go_enter Tryz.func73, Tryz.ntmps73
  go_wp2_with fail
  refine (isfr_any 0 d _).mono ?_
  rintro e w1 ⟨rfl, hb1⟩
  have HB1 := Lib.hid (bw_below (Nat.le_refl _) (new_below w _) hb1)
  clear hb1
  rw [HF.out]
  go_wp2_with fail
  go_quiet (fail)
  go_wp2_with fail
  go_ret
  exact ⟨rfl, below_dn (HB1.out) _⟩
set_option maxHeartbeats 1000000 in
theorem fl42_4 (n d : Int) (nm : ByteArray) (A : Option Addr) (k c : Nat) (w : World) (h0 : n = 0) (h1 : d ≠ 0) (e : nm.toList.isEmpty = true) (hf : isFr n d = false) :
    Calls Tryz.prog 73 #[.agg #[.int .i64 10, .slice A k c, .int .i64 n, .int .i64 d, .string nm]] w fun e w' => e = .returned (.int .i64 3) ∧ Below w.heap.size w w' := by
  have f1 : (d != 0) = true := by simp; omega
  clear h1
  subst h0
  have HF := Lib.hid hf
  clear hf
  go_enter Tryz.func73, Tryz.ntmps73
  go_wp2_with fail
  refine (isfr_any 0 d _).mono ?_
  rintro e w1 ⟨rfl, hb1⟩
  have HB1 := Lib.hid (bw_below (Nat.le_refl _) (new_below w _) hb1)
  clear hb1
  rw [HF.out]
  go_wp2_with fail
  go_ret
  exact ⟨rfl, HB1.out⟩
set_option maxHeartbeats 1000000 in
theorem fl42_5 (n d : Int) (nm : ByteArray) (A : Option Addr) (k c : Nat) (w : World) (h0 : n ≠ 0) (h1 : d = 0) (e : nm.toList.isEmpty = true) (hf : isFr n d = true) :
    Calls Tryz.prog 73 #[.agg #[.int .i64 10, .slice A k c, .int .i64 n, .int .i64 d, .string nm]] w fun e w' => e = .returned (.int .i64 0) ∧ Below w.heap.size w w' := by
  have f1 : (n != 0) = true := by simp; omega
  clear h0
  subst h1
  have HF := Lib.hid hf
  clear hf
  go_enter Tryz.func73, Tryz.ntmps73
  go_wp2_with fail
  refine (isfr_any n 0 _).mono ?_
  rintro e w1 ⟨rfl, hb1⟩
  have HB1 := Lib.hid (bw_below (Nat.le_refl _) (new_below w _) hb1)
  clear hb1
  rw [HF.out]
  go_wp2_with fail
  go_quiet (fail)
  go_wp2_with fail
  go_ret
  exact ⟨rfl, below_dn (HB1.out) _⟩
set_option maxHeartbeats 1000000 in
theorem fl42_6 (n d : Int) (nm : ByteArray) (A : Option Addr) (k c : Nat) (w : World) (h0 : n ≠ 0) (h1 : d = 0) (e : nm.toList.isEmpty = true) (hf : isFr n d = false) :
    Calls Tryz.prog 73 #[.agg #[.int .i64 10, .slice A k c, .int .i64 n, .int .i64 d, .string nm]] w fun e w' => e = .returned (.int .i64 3) ∧ Below w.heap.size w w' := by
  have f1 : (n != 0) = true := by simp; omega
  clear h0
  subst h1
  have HF := Lib.hid hf
  clear hf
  go_enter Tryz.func73, Tryz.ntmps73
  go_wp2_with fail
  refine (isfr_any n 0 _).mono ?_
  rintro e w1 ⟨rfl, hb1⟩
  have HB1 := Lib.hid (bw_below (Nat.le_refl _) (new_below w _) hb1)
  clear hb1
  rw [HF.out]
  go_wp2_with fail
  go_ret
  exact ⟨rfl, HB1.out⟩
set_option maxHeartbeats 1000000 in
theorem fl42_7 (n d : Int) (nm : ByteArray) (A : Option Addr) (k c : Nat) (w : World) (h0 : n ≠ 0) (h1 : d ≠ 0) (e : nm.toList.isEmpty = true) (hf : isFr n d = true) :
    Calls Tryz.prog 73 #[.agg #[.int .i64 10, .slice A k c, .int .i64 n, .int .i64 d, .string nm]] w fun e w' => e = .returned (.int .i64 0) ∧ Below w.heap.size w w' := by
  have f1 : (n != 0) = true := by simp; omega
  have f2 : (d != 0) = true := by simp; omega
  clear h0 h1
  have HF := Lib.hid hf
  clear hf
  go_enter Tryz.func73, Tryz.ntmps73
  go_wp2_with fail
  refine (isfr_any n d _).mono ?_
  rintro e w1 ⟨rfl, hb1⟩
  have HB1 := Lib.hid (bw_below (Nat.le_refl _) (new_below w _) hb1)
  clear hb1
  rw [HF.out]
  go_wp2_with fail
  go_quiet (fail)
  go_wp2_with fail
  go_ret
  exact ⟨rfl, below_dn (HB1.out) _⟩
set_option maxHeartbeats 1000000 in
theorem fl42_8 (n d : Int) (nm : ByteArray) (A : Option Addr) (k c : Nat) (w : World) (h0 : n ≠ 0) (h1 : d ≠ 0) (e : nm.toList.isEmpty = true) (hf : isFr n d = false) :
    Calls Tryz.prog 73 #[.agg #[.int .i64 10, .slice A k c, .int .i64 n, .int .i64 d, .string nm]] w fun e w' => e = .returned (.int .i64 3) ∧ Below w.heap.size w w' := by
  have f1 : (n != 0) = true := by simp; omega
  have f2 : (d != 0) = true := by simp; omega
  clear h0 h1
  have HF := Lib.hid hf
  clear hf
  go_enter Tryz.func73, Tryz.ntmps73
  go_wp2_with fail
  refine (isfr_any n d _).mono ?_
  rintro e w1 ⟨rfl, hb1⟩
  have HB1 := Lib.hid (bw_below (Nat.le_refl _) (new_below w _) hb1)
  clear hb1
  rw [HF.out]
  go_wp2_with fail
  go_ret
  exact ⟨rfl, HB1.out⟩
set_option maxHeartbeats 1000000 in
theorem fl42_9 (n d : Int) (nm : ByteArray) (A : Option Addr) (k c : Nat) (w : World) (e : nm.toList.isEmpty = false) :
    Calls Tryz.prog 73 #[.agg #[.int .i64 12, .slice A k c, .int .i64 n, .int .i64 d, .string nm]] w fun e w' => e = .returned (.int .i64 5) ∧ Below w.heap.size w w' := by
  go_enter Tryz.func73, Tryz.ntmps73
  go_wp2_with fail
  go_ret
  exact ⟨rfl, new_below _ _⟩
set_option maxHeartbeats 1000000 in
theorem fl42_10 (n d : Int) (nm : ByteArray) (A : Option Addr) (k c : Nat) (w : World) (h0 : n = 0) (h1 : d = 0) (e : nm.toList.isEmpty = true) (hf : isFr n d = true) :
    Calls Tryz.prog 73 #[.agg #[.int .i64 12, .slice A k c, .int .i64 n, .int .i64 d, .string nm]] w fun e w' => e = .returned (.int .i64 0) ∧ Below w.heap.size w w' := by
  subst h0
  subst h1
  have HF := Lib.hid hf
  clear hf
  go_enter Tryz.func73, Tryz.ntmps73
  go_wp2_with fail
  refine (isfr_any 0 0 _).mono ?_
  rintro e w1 ⟨rfl, hb1⟩
  have HB1 := Lib.hid (bw_below (Nat.le_refl _) (new_below w _) hb1)
  clear hb1
  rw [HF.out]
  go_wp2_with fail
  go_quiet (fail)
  go_wp2_with fail
  go_ret
  exact ⟨rfl, below_dn (HB1.out) _⟩
set_option maxHeartbeats 1000000 in
theorem fl42_11 (n d : Int) (nm : ByteArray) (A : Option Addr) (k c : Nat) (w : World) (h0 : n = 0) (h1 : d = 0) (e : nm.toList.isEmpty = true) (hf : isFr n d = false) :
    Calls Tryz.prog 73 #[.agg #[.int .i64 12, .slice A k c, .int .i64 n, .int .i64 d, .string nm]] w fun e w' => e = .returned (.int .i64 3) ∧ Below w.heap.size w w' := by
  subst h0
  subst h1
  have HF := Lib.hid hf
  clear hf
  go_enter Tryz.func73, Tryz.ntmps73
  go_wp2_with fail
  refine (isfr_any 0 0 _).mono ?_
  rintro e w1 ⟨rfl, hb1⟩
  have HB1 := Lib.hid (bw_below (Nat.le_refl _) (new_below w _) hb1)
  clear hb1
  rw [HF.out]
  go_wp2_with fail
  go_ret
  exact ⟨rfl, HB1.out⟩
set_option maxHeartbeats 1000000 in
theorem fl42_12 (n d : Int) (nm : ByteArray) (A : Option Addr) (k c : Nat) (w : World) (h0 : n = 0) (h1 : d ≠ 0) (e : nm.toList.isEmpty = true) (hf : isFr n d = true) :
    Calls Tryz.prog 73 #[.agg #[.int .i64 12, .slice A k c, .int .i64 n, .int .i64 d, .string nm]] w fun e w' => e = .returned (.int .i64 0) ∧ Below w.heap.size w w' := by
  have f1 : (d != 0) = true := by simp; omega
  clear h1
  subst h0
  have HF := Lib.hid hf
  clear hf
  go_enter Tryz.func73, Tryz.ntmps73
  go_wp2_with fail
  refine (isfr_any 0 d _).mono ?_
  rintro e w1 ⟨rfl, hb1⟩
  have HB1 := Lib.hid (bw_below (Nat.le_refl _) (new_below w _) hb1)
  clear hb1
  rw [HF.out]
  go_wp2_with fail
  go_quiet (fail)
  go_wp2_with fail
  go_ret
  exact ⟨rfl, below_dn (HB1.out) _⟩
set_option maxHeartbeats 1000000 in
theorem fl42_13 (n d : Int) (nm : ByteArray) (A : Option Addr) (k c : Nat) (w : World) (h0 : n = 0) (h1 : d ≠ 0) (e : nm.toList.isEmpty = true) (hf : isFr n d = false) :
    Calls Tryz.prog 73 #[.agg #[.int .i64 12, .slice A k c, .int .i64 n, .int .i64 d, .string nm]] w fun e w' => e = .returned (.int .i64 3) ∧ Below w.heap.size w w' := by
  have f1 : (d != 0) = true := by simp; omega
  clear h1
  subst h0
  have HF := Lib.hid hf
  clear hf
  go_enter Tryz.func73, Tryz.ntmps73
  go_wp2_with fail
  refine (isfr_any 0 d _).mono ?_
  rintro e w1 ⟨rfl, hb1⟩
  have HB1 := Lib.hid (bw_below (Nat.le_refl _) (new_below w _) hb1)
  clear hb1
  rw [HF.out]
  go_wp2_with fail
  go_ret
  exact ⟨rfl, HB1.out⟩
set_option maxHeartbeats 1000000 in
theorem fl42_14 (n d : Int) (nm : ByteArray) (A : Option Addr) (k c : Nat) (w : World) (h0 : n ≠ 0) (h1 : d = 0) (e : nm.toList.isEmpty = true) (hf : isFr n d = true) :
    Calls Tryz.prog 73 #[.agg #[.int .i64 12, .slice A k c, .int .i64 n, .int .i64 d, .string nm]] w fun e w' => e = .returned (.int .i64 0) ∧ Below w.heap.size w w' := by
  have f1 : (n != 0) = true := by simp; omega
  clear h0
  subst h1
  have HF := Lib.hid hf
  clear hf
  go_enter Tryz.func73, Tryz.ntmps73
  go_wp2_with fail
  refine (isfr_any n 0 _).mono ?_
  rintro e w1 ⟨rfl, hb1⟩
  have HB1 := Lib.hid (bw_below (Nat.le_refl _) (new_below w _) hb1)
  clear hb1
  rw [HF.out]
  go_wp2_with fail
  go_quiet (fail)
  go_wp2_with fail
  go_ret
  exact ⟨rfl, below_dn (HB1.out) _⟩
set_option maxHeartbeats 1000000 in
theorem fl42_15 (n d : Int) (nm : ByteArray) (A : Option Addr) (k c : Nat) (w : World) (h0 : n ≠ 0) (h1 : d = 0) (e : nm.toList.isEmpty = true) (hf : isFr n d = false) :
    Calls Tryz.prog 73 #[.agg #[.int .i64 12, .slice A k c, .int .i64 n, .int .i64 d, .string nm]] w fun e w' => e = .returned (.int .i64 3) ∧ Below w.heap.size w w' := by
  have f1 : (n != 0) = true := by simp; omega
  clear h0
  subst h1
  have HF := Lib.hid hf
  clear hf
  go_enter Tryz.func73, Tryz.ntmps73
  go_wp2_with fail
  refine (isfr_any n 0 _).mono ?_
  rintro e w1 ⟨rfl, hb1⟩
  have HB1 := Lib.hid (bw_below (Nat.le_refl _) (new_below w _) hb1)
  clear hb1
  rw [HF.out]
  go_wp2_with fail
  go_ret
  exact ⟨rfl, HB1.out⟩
set_option maxHeartbeats 1000000 in
theorem fl42_16 (n d : Int) (nm : ByteArray) (A : Option Addr) (k c : Nat) (w : World) (h0 : n ≠ 0) (h1 : d ≠ 0) (e : nm.toList.isEmpty = true) (hf : isFr n d = true) :
    Calls Tryz.prog 73 #[.agg #[.int .i64 12, .slice A k c, .int .i64 n, .int .i64 d, .string nm]] w fun e w' => e = .returned (.int .i64 0) ∧ Below w.heap.size w w' := by
  have f1 : (n != 0) = true := by simp; omega
  have f2 : (d != 0) = true := by simp; omega
  clear h0 h1
  have HF := Lib.hid hf
  clear hf
  go_enter Tryz.func73, Tryz.ntmps73
  go_wp2_with fail
  refine (isfr_any n d _).mono ?_
  rintro e w1 ⟨rfl, hb1⟩
  have HB1 := Lib.hid (bw_below (Nat.le_refl _) (new_below w _) hb1)
  clear hb1
  rw [HF.out]
  go_wp2_with fail
  go_quiet (fail)
  go_wp2_with fail
  go_ret
  exact ⟨rfl, below_dn (HB1.out) _⟩
set_option maxHeartbeats 1000000 in
theorem fl42_17 (n d : Int) (nm : ByteArray) (A : Option Addr) (k c : Nat) (w : World) (h0 : n ≠ 0) (h1 : d ≠ 0) (e : nm.toList.isEmpty = true) (hf : isFr n d = false) :
    Calls Tryz.prog 73 #[.agg #[.int .i64 12, .slice A k c, .int .i64 n, .int .i64 d, .string nm]] w fun e w' => e = .returned (.int .i64 3) ∧ Below w.heap.size w w' := by
  have f1 : (n != 0) = true := by simp; omega
  have f2 : (d != 0) = true := by simp; omega
  clear h0 h1
  have HF := Lib.hid hf
  clear hf
  go_enter Tryz.func73, Tryz.ntmps73
  go_wp2_with fail
  refine (isfr_any n d _).mono ?_
  rintro e w1 ⟨rfl, hb1⟩
  have HB1 := Lib.hid (bw_below (Nat.le_refl _) (new_below w _) hb1)
  clear hb1
  rw [HF.out]
  go_wp2_with fail
  go_ret
  exact ⟨rfl, HB1.out⟩
end Go.Proofs.YtaodebpogibimaaGreat
