/-
  The contracts of DivMod and Div by a divisor above 0: the quotient is rounded down.
-/
import Derived.Test.YtkjollifghmkbaaWideM
namespace Go.Proofs.Ytkjollifghmkbaa
open Go.RowKit

theorem div_plain {s : Bool} {X Y : Nat} (h0 : Y ≠ 0) (h : rsign s (X % Y) = false) : num (qsign s false (X / Y)) (X / Y) = num s X / (Y : Int) ∧ num (rsign s (X % Y)) (X % Y) = num s X % (Y : Int) := by
  have d := Nat.div_add_mod X Y
  cases s
  · have e1 : qsign false false (X / Y) = false := by simp [qsign]
    have e2 : rsign false (X % Y) = false := by simp [rsign]
    rw [e1, e2]; simp [num]
  · have hr : X % Y = 0 := by simpa [rsign] using h
    have e1 : num (qsign true false (X / Y)) (X / Y) = -((X / Y : Nat) : Int) := by
      unfold qsign num; by_cases z : X / Y = 0 <;> simp [z]
    have e2 : num (rsign true (X % Y)) (X % Y) = 0 := by rw [hr]; simp [num, rsign]
    rw [e1, e2]
    have hX : (X : Int) = (Y : Int) * ((X / Y : Nat) : Int) := by rw [← Int.natCast_mul, Int.natCast_inj]; omega
    have e3 : num true X = -((X / Y : Nat) : Int) * (Y : Int) := by
      show -(X : Int) = _
      rw [hX, Int.neg_mul, Int.mul_comm]
    have hy : (Y : Int) ≠ 0 := by omega
    constructor
    · rw [e3, Int.mul_ediv_cancel _ hy]
    · rw [e3, Int.mul_emod_left]
theorem div_under {s : Bool} {X Y : Nat} (h0 : Y ≠ 0) (h : rsign s (X % Y) = true) : num (qsign s false (X / Y)) (X / Y) - 1 = num s X / (Y : Int) ∧ num (rsign s (X % Y)) (X % Y) + (Y : Int) = num s X % (Y : Int) := by
  have d := Nat.div_add_mod X Y
  have l := Nat.mod_lt X (Nat.pos_of_ne_zero h0)
  cases s
  · simp [rsign] at h
  · have hr : X % Y ≠ 0 := by simpa [rsign] using h
    have e1 : num (qsign true false (X / Y)) (X / Y) = -((X / Y : Nat) : Int) := by
      unfold qsign num; by_cases z : X / Y = 0 <;> simp [z]
    have e2 : num (rsign true (X % Y)) (X % Y) = -((X % Y : Nat) : Int) := by rw [h]; simp [num]
    rw [e1, e2]
    have hX : (X : Int) = (Y : Int) * ((X / Y : Nat) : Int) + ((X % Y : Nat) : Int) := by rw [← Int.natCast_mul, ← Int.natCast_add, Int.natCast_inj]; omega
    have e3 : num true X = ((Y : Int) - ((X % Y : Nat) : Int)) + (Y : Int) * (-((X / Y : Nat) : Int) - 1) := by
      show -(X : Int) = _
      rw [hX, Int.mul_sub, Int.mul_neg]; omega
    have hy : (Y : Int) ≠ 0 := by omega
    constructor
    · rw [e3, Int.add_mul_ediv_left _ _ hy, Int.ediv_eq_zero_of_lt (by omega) (by omega)]; omega
    · rw [e3, Int.add_mul_emod_self_left, Int.emod_eq_of_lt (by omega) (by omega)]; omega
def GivesDM (z r : Nat) (p q : Int) (w : World) (e : Ending) (w' : World) : Prop :=
  e = .returned (.tuple #[.pointer (some ⟨z, 0, none⟩), .pointer (some ⟨r, 0, none⟩)]) ∧ ZAt w' z 0 p ∧ ZAt w' r 0 q ∧ Ch (fun g => g = z ∨ g = r) w w'
theorem num_le (s : Bool) (n : Nat) (h : n ≤ 18446744073709551615) : mag (num s n) < 4294967296 ^ 2 := by rw [(num_mag s n).1]; exact below_two h
theorem one_at {w : World} {b : Nat} (h : IntAt w b 0 (decide ((1 : Int) < 0)) (mag 1)) : ZAt w b 0 1 := h
set_option maxHeartbeats 2000000 in
theorem divmod_any (z r x ox y oy X Y : Nat) (s : Bool) (hX : X ≤ 18446744073709551615) (hY : Y ≤ 18446744073709551615) (h0 : Y ≠ 0) (w : World) (hz : Hdr w z 0) (hr : Hdr w r 0) (hx : IntAt w x ox s X) (hy : IntAt w y oy false Y)
    (zr : z ≠ r) (zx : z ≠ x) (zy : z ≠ y) (rx : r ≠ x) (ry : r ≠ y) :
    Calls Try.prog 94 #[.pointer (some ⟨z, 0, none⟩), .pointer (some ⟨x, ox, none⟩), .pointer (some ⟨y, oy, none⟩), .pointer (some ⟨r, 0, none⟩)] w (GivesDM z r (num s X / (Y : Int)) (num s X % (Y : Int)) w) := by
  have HZ := Lib.hid hz
  have HR := Lib.hid hr
  have HX := Lib.hid hx
  have HY := Lib.hid hy
  have lz := hz.1
  have lr := hr.1
  have lx := hx.1
  have ly := hy.1
  clear hz hr hx hy
  go_enter Try.func94, Try.ntmps94
  go_wp2_with fail
  have b1 := new_below w (.cells #[.bool false, .slice none 0 0] 55)
  refine (set_any w.heap.size 0 Y y oy false 2 (by omega) (below_two hY) _ (hdr_new w) (HY.out.below b1)).mono ?_
  rintro e w1 ⟨rfl, hi1, hg1⟩
  have c1 : Ch (fun _ => False) w w1 := (ch_of_below b1).join hg1.ch (fun _ _ x => x.elim) (fun g hg x => by omega) (fun _ _ x => x.elim)
  have HD1 := Lib.hid hi1
  have l1 := hi1.1
  clear hi1
  have HZ1 : Hid (Hdr w1 z 0) := HZ.out.ch c1 (fun x => x)
  have HR1 : Hid (Hdr w1 r 0) := HR.out.ch c1 (fun x => x)
  go_wp2_with fail
  refine (quorem_any z r x ox y oy X Y s false hX hY h0 _ HZ1.out HR1.out (HX.out.ch c1 (fun x => x)) (HY.out.ch c1 (fun x => x)) zr zx zy rx ry).mono ?_
  rintro e w2 ⟨rfl, hq2, hr2, hg2⟩
  have s2 := hg2.size
  have HQ2 := Lib.hid hq2
  have HR2 := Lib.hid hr2
  have HD2 := Lib.hid (HD1.out.ch hg2 (by omega))
  have C2 : Ch (fun g => g = z ∨ g = r) w w2 := c1.join hg2 (fun _ _ x => x.elim) (fun _ _ x => x) (fun g _ x => two_ty HZ.out HR.out g x)
  obtain ⟨m1, _, m3, _, m5, _⟩ := id hr2
  obtain ⟨n1, _, n3, _, n5, _⟩ := id HD2.out
  clear hq2 hr2
  by_cases hs : rsign s (X % Y) = true
  · obtain ⟨u1, u2⟩ := div_under h0 hs
    have U1 := Lib.hid u1
    have U2 := Lib.hid u2
    clear u1 u2
    go_wp2_with fail
    refine (new_at 1 (by omega) (by omega) _).mono ?_
    rintro e w3 ⟨rfl, hi3, hb3⟩
    have HO3 := Lib.hid (one_at hi3)
    have l3 := hi3.1
    clear hi3
    have HQ3 : Hid (ZAt w3 z 0 (num (qsign s false (X / Y)) (X / Y))) := z_of (HQ2.out.below hb3)
    have HR3 := Lib.hid (HR2.out.below hb3)
    have HD3 := Lib.hid (HD2.out.below hb3)
    have C3 := C2.join (ch_of_below hb3) (U := fun g => g = z ∨ g = r) (fun _ _ x => x) (fun _ _ x => x.elim) (fun g _ x => two_ty HZ.out HR.out g x)
    go_wp2_with fail
    refine (sub_z z 0 z 0 w2.heap.size 0 _ 1 2 (by omega) (num_le _ _ (Nat.le_trans (Nat.div_le_self _ _) hX)) (by decide) _ HQ3.out.hdr HQ3.out HO3.out).mono ?_
    rintro e w4 ⟨rfl, hi4, hg4⟩
    rw [U1.out] at hi4
    have HQ4 : Hid (ZAt w4 z 0 (num s X / (Y : Int))) := hi4
    have HR4 := Lib.hid (HR3.out.ch hg4.ch (by omega))
    have HD4 := Lib.hid (HD3.out.ch hg4.ch (by omega))
    have C4 := C3.join hg4.ch (U := fun g => g = z ∨ g = r) (fun _ _ x => x) (fun _ _ x => .inl x) (fun g _ x => two_ty HZ.out HR.out g x)
    clear hi4
    have HDZ : Hid (ZAt w4 w.heap.size 0 (Y : Int)) := z_to HD4.out (by simp [num])
    have HRZ : Hid (ZAt w4 r 0 (num (rsign s (X % Y)) (X % Y))) := z_of HR4.out
    have BY : Hid (mag (Y : Int) < 4294967296 ^ 2) := by show _ < _; have := below_two hY; simpa [mag] using this
    go_wp2_with fail
    refine (add_z r 0 r 0 w.heap.size 0 _ (Y : Int) 2 (by omega) (num_le _ _ (Nat.le_trans (Nat.mod_le _ _) hX)) BY.out _ HRZ.out.hdr HRZ.out HDZ.out).mono ?_
    rintro e w5 ⟨rfl, hi5, hg5⟩
    rw [U2.out] at hi5
    have HR5 : Hid (ZAt w5 r 0 (num s X % (Y : Int))) := hi5
    clear hi5
    have C5 := C4.join hg5.ch (U := fun g => g = z ∨ g = r) (fun _ _ x => x) (fun _ _ x => .inr x) (fun g _ x => two_ty HZ.out HR.out g x)
    go_wp2
    go_ret2
    exact ⟨rfl, HQ4.out.ch hg5.ch (by omega), HR5.out, C5⟩
  · have hs' : rsign s (X % Y) = false := by simpa using hs
    obtain ⟨u1, u2⟩ := div_plain h0 hs'
    have U1 := Lib.hid u1
    have U2 := Lib.hid u2
    clear u1 u2 hs
    go_wp2
    go_ret2
    exact ⟨rfl, z_to HQ2.out U1.out, z_to HR2.out U2.out, C2⟩
set_option maxHeartbeats 1000000 in
theorem div_any (z x ox y oy X Y : Nat) (s : Bool) (hX : X ≤ 18446744073709551615) (hY : Y ≤ 18446744073709551615) (h0 : Y ≠ 0) (w : World) (hz : Hdr w z 0) (hx : IntAt w x ox s X) (hy : IntAt w y oy false Y) (zx : z ≠ x) (zy : z ≠ y) :
    Calls Try.prog 75 #[.pointer (some ⟨z, 0, none⟩), .pointer (some ⟨x, ox, none⟩), .pointer (some ⟨y, oy, none⟩)] w (GivesZ z (decide (num s X / (Y : Int) < 0)) (mag (num s X / (Y : Int))) w) := by
  have HZ := Lib.hid hz
  have HX := Lib.hid hx
  have HY := Lib.hid hy
  have lz := hz.1
  have lx := hx.1
  have ly := hy.1
  clear hz hx hy
  go_enter Try.func75, Try.ntmps75
  go_wp2_with fail
  have b1 := new_below w (.cells #[.bool false, .slice none 0 0] 55)
  refine (divmod_any z w.heap.size x ox y oy X Y s hX hY h0 _ (HZ.out.below b1) (hdr_new w) (HX.out.below b1) (HY.out.below b1) (by omega) zx zy (by omega) (by omega)).mono ?_
  rintro e w1 ⟨rfl, hi, _, hg⟩
  have HI := Lib.hid hi
  clear hi
  go_wp2
  go_ret
  exact ⟨rfl, HI.out, (ch_of_below b1).join hg (fun _ _ x => x.elim) (fun g hg x => by omega) (one_ty HZ.out)⟩
end Go.Proofs.Ytkjollifghmkbaa
