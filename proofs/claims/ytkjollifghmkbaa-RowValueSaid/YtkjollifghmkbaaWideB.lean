/-
  The contracts that make a whole number of one that a machine word holds: SetUint64, SetInt64, NewInt.
-/
import Derived.Test.YtkjollifghmkbaaWideA
namespace Go.Proofs.Ytkjollifghmkbaa
open Go.RowKit
theorem plain (n : Nat) : n = 0 ∧ false = false ∨ n ≠ 0 ∧ false = false := by by_cases h : n = 0 <;> simp [h]
theorem size_setCell (w : World) (p : Addr) (u : Value) : (w.setCell p u).heap.size = w.heap.size := by simp [World.setCell]
/-- A new row of digits laid into a number. -/
theorem raw_new {w : World} {b o : Nat} (s : Bool) (L c n : Nat) (cs : Array Value) (h : Hdr w b o) (hc : L ≤ c) (hn : n < 4294967296 ^ L) (hd : ∀ k, k < L → cs[k]? = some (.int .u32 (dig n k))) :
    Raw (((w.setCell ⟨b, o, none⟩ (.bool s)).setCell ⟨b, o + 1, none⟩ (.slice (some ⟨w.heap.size, 0, none⟩) L c)).alloc (.cells cs 87)) b o s L n := by
  have h1 := (h.set_ o (.inl rfl) (.bool s)).set_ (o + 1) (.inr rfl) (.slice (some ⟨w.heap.size, 0, none⟩) L c)
  have h2 := h1.below (w' := ((w.setCell ⟨b, o, none⟩ (.bool s)).setCell ⟨b, o + 1, none⟩ (.slice (some ⟨w.heap.size, 0, none⟩) L c)).alloc (.cells cs 87)) ((Below.refl _ _).alloc (Nat.le_refl _) _)
  obtain ⟨u, hu⟩ := h.2.2.2.2.1
  obtain ⟨v, hv⟩ := (h.set_ o (.inl rfl) (.bool s)).2.2.2.2.2
  refine ⟨h2.1, h2.2.1, h2.2.2.1, h2.2.2.2.1, ?_, hn, w.heap.size, c, ?_, hc, cs, ?_, hd⟩
  · rw [World.cell?_alloc_lt _ _ _ h1.1, World.cell?_setCell_other _ _ _ _ (by intro e; injection e with _ e _; omega)]
    exact World.cell?_setCell_same _ _ _ hu
  · rw [World.cell?_alloc_lt _ _ _ h1.1]
    exact World.cell?_setCell_same _ _ _ hv
  · have e := heap_alloc_new ((w.setCell ⟨b, o, none⟩ (.bool s)).setCell ⟨b, o + 1, none⟩ (.slice (some ⟨w.heap.size, 0, none⟩) L c)) (.cells cs 87)
    rw [size_setCell, size_setCell] at e
    exact e
set_option maxHeartbeats 1000000 in
theorem setu_any (b o n : Nat) (hn : n ≤ 18446744073709551615) (w : World) (h : Hdr w b o) :
    Calls Try.prog 92 #[.pointer (some ⟨b, o, none⟩), .int .u64 n] w (GivesInt b o false n w) := by
  obtain ⟨h1, h2, h3, h4, ⟨u, h5⟩, ⟨v, h6⟩⟩ := id h
  have H2 := Lib.hid h2
  have H := Lib.hid h
  clear h2 h
  go_enter Try.func92, Try.ntmps92
  go_wp2_with fail
  refine (trim_any b o false false 2 n _ ?_ (by omega) (plain n)).mono ?_
  · refine raw_new false 2 2 n _ H.out (by omega) (by simp; omega) (fun k hk => ?_)
    obtain rfl | rfl : k = 0 ∨ k = 1 := by omega
    · simp [dig_zero]
    · simp [dig_one]; omega
  · rintro e w1 ⟨rfl, hi, hg⟩
    go_wp2
    go_ret
    exact ⟨rfl, hi, ((((Chg.refl H.out).set0 _).set1 _).alloc _).trans hg⟩

theorem IntAt.lt {w : World} {b o n : Nat} {s : Bool} (h : IntAt w b o s n) : b < w.heap.size := h.1
/-- The sign of a number that is not 0 laid anew. -/
theorem int_sign {w : World} {b o n : Nat} {s : Bool} (h : IntAt w b o s n) (t : Bool) (z : n = 0 → t = false) : IntAt (w.setCell ⟨b, o, none⟩ (.bool t)) b o t n := by
  obtain ⟨v, h6, h7⟩ := h.2.2.2.2.2.1
  exact int_set0 t h.hdr h6 h7 z
theorem wrap_neg {n : Int} (h1 : -9223372036854775808 ≤ n) (h : n < 0) : IntKind.u64.wrap (-IntKind.u64.wrap n) = (mag n : Int) := by
  rw [IntKind.wrap_u64, IntKind.wrap_u64]; unfold mag; omega
theorem wrap_pos {n : Int} (h2 : n ≤ 9223372036854775807) (h : ¬ n < 0) : IntKind.u64.wrap n = (mag n : Int) := by
  rw [IntKind.wrap_u64]; unfold mag; omega
set_option maxHeartbeats 1000000 in
theorem seti_any (b o : Nat) (n : Int) (h1 : -9223372036854775808 ≤ n) (h2 : n ≤ 9223372036854775807) (w : World) (h : Hdr w b o) :
    Calls Try.prog 78 #[.pointer (some ⟨b, o, none⟩), .int .i64 n] w (GivesInt b o (decide (n < 0)) (mag n) w) := by
  have hm : mag n ≤ 18446744073709551615 := mag_le n h1 h2
  have H := Lib.hid h
  by_cases hn : n < 0
  · have hd : decide (n < 0) = true := by simpa using hn
    have hz : mag n = 0 → true = false := by intro z; unfold mag at z; omega
    have HZ := Lib.hid hz
    rw [hd]
    clear h hz
    go_enter Try.func78, Try.ntmps78
    go_wp2_with fail
    rw [wrap_neg h1 hn]
    refine (setu_any b o _ hm _ H.out).mono ?_
    rintro e w1 ⟨rfl, hi, hg⟩
    have HI := Lib.hid hi
    obtain ⟨k1, _, k3, _, ⟨_, k5⟩, _⟩ := hi.hdr
    clear hi
    go_wp2
    go_ret
    exact ⟨rfl, int_sign HI.out true HZ.out, hg.set0 _⟩
  · have hd : decide (n < 0) = false := by simpa using hn
    rw [hd]
    clear h
    go_enter Try.func78, Try.ntmps78
    go_wp2_with fail
    first | rw [wrap_pos h2 hn] | (rw [show n = (mag n : Int) by unfold mag; omega])
    refine (setu_any b o _ hm _ H.out).mono ?_
    rintro e w1 ⟨rfl, hi, hg⟩
    go_wp2
    go_ret
    exact ⟨rfl, hi, hg⟩
/-- The way in which a call that makes a new number ends. -/
def NewInt (s : Bool) (n : Nat) (w : World) (e : Ending) (w' : World) : Prop := ∃ b, e = .returned (.pointer (some ⟨b, 0, none⟩)) ∧ w.heap.size ≤ b ∧ IntAt w' b 0 s n ∧ Below w.heap.size w w'
theorem newint_any (n : Int) (h1 : -9223372036854775808 ≤ n) (h2 : n ≤ 9223372036854775807) (w : World) :
    Calls Try.prog 56 #[.int .i64 n] w (NewInt (decide (n < 0)) (mag n) w) := by
  go_enter Try.func56, Try.ntmps56
  go_wp2_with fail
  refine (seti_any _ 0 n h1 h2 _ (hdr_new w)).mono ?_
  rintro e w1 ⟨rfl, hi, hg⟩
  go_wp2
  go_ret
  exact ⟨_, rfl, Nat.le_refl _, hi, ((Below.refl _ _).alloc (Nat.le_refl _) _).trans (hg.to_below (Nat.le_refl _))⟩
end Go.Proofs.Ytkjollifghmkbaa
