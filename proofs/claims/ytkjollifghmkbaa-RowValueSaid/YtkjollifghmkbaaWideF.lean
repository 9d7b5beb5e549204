/-
  The contracts of QuoRem, Quo and GCD for numbers that a machine word holds.
-/
import Derived.Test.YtkjollifghmkbaaWideE
namespace Go.Proofs.Ytkjollifghmkbaa
open Go.RowKit

def qsign (s t : Bool) (q : Nat) : Bool := (s != t) && !decide (q = 0)
def rsign (s : Bool) (r : Nat) : Bool := s && !decide (r = 0)
theorem qsign_or (s t : Bool) (q : Nat) : q = 0 ∧ qsign s t q = false ∨ q ≠ 0 ∧ qsign s t q = (s != t) := by
  unfold qsign; by_cases h : q = 0 <;> simp [h]
theorem rsign_or (s : Bool) (q : Nat) : q = 0 ∧ rsign s q = false ∨ q ≠ 0 ∧ rsign s q = s := by
  unfold rsign; by_cases h : q = 0 <;> simp [h]
def GivesQR (z r : Nat) (s t : Bool) (X Y : Nat) (w : World) (e : Ending) (w' : World) : Prop :=
  e = .returned (.tuple #[.pointer (some ⟨z, 0, none⟩), .pointer (some ⟨r, 0, none⟩)]) ∧ IntAt w' z 0 (qsign s t (X / Y)) (X / Y) ∧ IntAt w' r 0 (rsign s (X % Y)) (X % Y) ∧ Ch (fun g => g = z ∨ g = r) w w'
theorem below_two {n : Nat} (h : n ≤ 18446744073709551615) : n < 4294967296 ^ 2 := by omega
theorem Ch.up {S T : Nat → Prop} {w w' : World} (h : Ch S w w') (k : ∀ g, S g → T g) (hT : ∀ g, T g → ty w g ≠ some 87) : Ch T w w' :=
  h.mono (fun g _ hs => ⟨k g hs, hT g (k g hs)⟩) (fun g _ ht => hT g ht)
theorem two_ty {w : World} {z r : Nat} (hz : Hdr w z 0) (hr : Hdr w r 0) : ∀ g, g = z ∨ g = r → ty w g ≠ some 87 := by
  rintro g (rfl | rfl)
  · exact hz.2.1
  · exact hr.2.1
theorem rsign_id {s : Bool} {n : Nat} (h : n = 0 → s = false) : rsign s n = s := by
  unfold rsign; by_cases z : n = 0
  · simp [h z]
  · simp [z]
theorem two_signs {w : World} {z r n m : Nat} {a b : Bool} (hz : IntAt w z 0 a n) (hr : IntAt w r 0 b m) (zr : z ≠ r) (p q : Bool) :
    Semi ((w.setCell ⟨z, 0, none⟩ (.bool p)).setCell ⟨r, 0, none⟩ (.bool q)) z 0 p n ∧ Semi ((w.setCell ⟨z, 0, none⟩ (.bool p)).setCell ⟨r, 0, none⟩ (.bool q)) r 0 q m ∧
      Ch (fun g => g = z ∨ g = r) w ((w.setCell ⟨z, 0, none⟩ (.bool p)).setCell ⟨r, 0, none⟩ (.bool q)) := by
  have c1 := hz.hdr.ch_set 0 (.inl rfl) (.bool p)
  have s1 := hz.semi.sign p
  have r1 := hr.semi.ch c1 (by omega)
  have c2 := r1.1.ch_set 0 (.inl rfl) (.bool q)
  exact ⟨s1.ch c2 (by omega), r1.sign q, (c1.up (fun _ x => .inl x) (two_ty hz.hdr hr.hdr)).then_ (c2.up (fun _ x => .inr x) (two_ty s1.1 r1.1))⟩
theorem rem_cast (a g : Nat) : (a : Int) % (g : Int) = ((a % g : Nat) : Int) := by simp
theorem small_len {L : Nat} (h : L ≤ 2) : decide ((L : Int) < 3) = true := by simp; omega
set_option maxRecDepth 100000 in
set_option maxHeartbeats 2000000 in
theorem quorem_any (z r x ox y oy X Y : Nat) (s t : Bool) (hX : X ≤ 18446744073709551615) (hY : Y ≤ 18446744073709551615) (h0 : Y ≠ 0) (w : World) (hz : Hdr w z 0) (hr : Hdr w r 0) (hx : IntAt w x ox s X) (hy : IntAt w y oy t Y)
    (zr : z ≠ r) (zx : z ≠ x) (zy : z ≠ y) (rx : r ≠ x) (ry : r ≠ y) :
    Calls Try.prog 95 #[.pointer (some ⟨z, 0, none⟩), .pointer (some ⟨x, ox, none⟩), .pointer (some ⟨y, oy, none⟩), .pointer (some ⟨r, 0, none⟩)] w (GivesQR z r s t X Y w) := by
  have HZ := Lib.hid hz
  have HR := Lib.hid hr
  have HX := Lib.hid hx
  have HY := Lib.hid hy
  by_cases hlt : X < Y
  · have hc : cmpN X Y = -1 := by unfold cmpN; rw [if_pos hlt]
    have e1 : X / Y = 0 := Nat.div_eq_of_lt hlt
    have e2 : X % Y = X := Nat.mod_eq_of_lt hlt
    have E1 := Lib.hid e1
    have E2 := Lib.hid e2
    clear hz hr hx hy e1 e2
    go_enter Try.func95, Try.ntmps95
    go_wp2_with fail
    refine (cmpabs_any x ox X y oy Y s t 2 (by omega) (below_two hX) (below_two hY) _ HX.out HY.out).mono ?_
    rintro e w1 ⟨rfl, k, rfl⟩
    rw [hc]
    have b1 : Below w.heap.size w (w.drewN k) := below_drewN (Below.refl _ _) _
    go_wp2_with fail
    refine (set_any r 0 X x ox s 2 (by omega) (below_two hX) _ (HR.out.below b1) (HX.out.below b1)).mono ?_
    rintro e w2 ⟨rfl, hi, hg⟩
    have HI := Lib.hid hi
    clear hi
    go_wp2_with fail
    refine (seti_any z 0 0 (by omega) (by omega) _ ((HZ.out.below b1).ch hg.ch (by omega))).mono ?_
    rintro e w3 ⟨rfl, hi2, hg2⟩
    have HI2 := Lib.hid hi2
    clear hi2
    go_wp2
    go_ret2
    have f1 : IntAt w3 z 0 false 0 := by simpa [mag] using HI2.out
    have f2 := HI.out.ch hg2.ch (by omega)
    refine ⟨rfl, by rw [E1.out]; simpa [qsign] using f1, by rw [E2.out, rsign_id HX.out.zero]; exact f2, ?_⟩
    have T := two_ty HZ.out HR.out
    have T' : ∀ g, g = z ∨ g = r → ty (w.drewN k) g ≠ some 87 := T
    refine ((ch_of_below b1).up (fun _ x => x.elim) T).then_ ((hg.ch.up (fun _ x => .inr x) T').then_ (hg2.ch.up (fun _ x => .inl x) ?_))
    exact two_ty ((HZ.out.below b1).ch hg.ch (by omega)) HI.out.hdr
  · have hc : 0 ≤ cmpN X Y := by unfold cmpN; rw [if_neg hlt]; split <;> omega
    have hd : decide (cmpN X Y < 0) = false := by simp; omega
    obtain ⟨A, L, c, q1, q2, q3, _⟩ := hx.semi.len
    have hL := small_len (len_two q3 hX)
    obtain ⟨k1, _, _, _, k5, _⟩ := id hx
    obtain ⟨j1, _, _, _, j5, _⟩ := id hy
    have hy0 : ((Y : Int) == 0) = false := by simpa using h0
    clear hz hr hx hy hlt q2 q3
    go_enter Try.func95, Try.ntmps95
    go_wp2_with fail
    refine (cmpabs_any x ox X y oy Y s t 2 (by omega) (below_two hX) (below_two hY) _ HX.out HY.out).mono ?_
    rintro e w1 ⟨rfl, k, rfl⟩
    have b1 : Below w.heap.size w (w.drewN k) := below_drewN (Below.refl _ _) _
    go_wp2_with fail
    go_quiet (fail)
    have b2 : Below w.heap.size w (w.drewN (k + nq)) := below_drewN (Below.refl _ _) _
    have X2 := Lib.hid (HX.out.below b2)
    have Y2 := Lib.hid (HY.out.below b2)
    have Z2 := Lib.hid (HZ.out.below b2)
    have R2 := Lib.hid (HR.out.below b2)
    go_wp2_with fail
    refine (uint_any x ox X s hX _ X2.out).mono ?_
    rintro e w2 ⟨rfl, rfl⟩
    go_wp2_with fail
    refine (uint_any y oy Y t hY _ Y2.out).mono ?_
    rintro e w2 ⟨rfl, rfl⟩
    go_wp2_with fail
    rw [div_wrap X Y _ hX rfl]
    refine (setu_any z 0 (X / Y) (Nat.le_trans (Nat.div_le_self _ _) hX) _ Z2.out).mono ?_
    rintro e w3 ⟨rfl, hi3, hg3⟩
    have HI3 := Lib.hid hi3
    clear hi3
    go_wp2_with fail
    rw [rem_cast X Y]
    refine (setu_any r 0 (X % Y) (Nat.le_trans (Nat.mod_le _ _) hX) _ (R2.out.ch hg3.ch (by omega))).mono ?_
    rintro e w4 ⟨rfl, hi4, hg4⟩
    have z4 := HI3.out.ch hg4.ch (by omega)
    obtain ⟨l1, _, l3, _, l5, _⟩ := id z4
    obtain ⟨m1, _, m3, _, m5, _⟩ := id hi4
    have HZ4 := Lib.hid z4
    have HR4 := Lib.hid hi4
    clear z4 hi4
    go_wp2_with fail
    obtain ⟨t1, t2, t3⟩ := two_signs HZ4.out HR4.out zr (!(s == t)) s
    have T1 := Lib.hid t1
    have T2 := Lib.hid t2
    have T3 := Lib.hid t3
    clear t1 t2 t3
    refine (trim_int z 0 _ (qsign s t (X / Y)) (X / Y) 2 (by omega) (below_two (Nat.le_trans (Nat.div_le_self _ _) hX)) _ T1.out (qsign_or s t _)).mono ?_
    rintro e w6 ⟨rfl, hi6, hg6⟩
    have HI6 := Lib.hid hi6
    clear hi6
    go_wp2_with fail
    refine (trim_int r 0 _ (rsign s (X % Y)) (X % Y) 2 (by omega) (below_two (Nat.le_trans (Nat.mod_le _ _) hX)) _ (T2.out.ch hg6.ch (by omega)) (rsign_or s _)).mono ?_
    rintro e w7 ⟨rfl, hi7, hg7⟩
    have HI7 := Lib.hid hi7
    clear hi7
    go_wp2
    go_ret2
    refine ⟨rfl, HI6.out.ch hg7.ch (by omega), HI7.out, ?_⟩
    have u1 := (ch_of_below b2).up (fun _ x => x.elim) (two_ty HZ.out HR.out)
    have u2 := hg3.ch.up (T := fun g => g = z ∨ g = r) (fun _ x => .inl x) (two_ty Z2.out R2.out)
    have r3 := R2.out.ch hg3.ch (by omega)
    have u3 := hg4.ch.up (T := fun g => g = z ∨ g = r) (fun _ x => .inr x) (two_ty HI3.out.hdr r3)
    have u6 := hg6.ch.up (T := fun g => g = z ∨ g = r) (fun _ x => .inl x) (two_ty T1.out.1 T2.out.1)
    have u7 := hg7.ch.up (T := fun g => g = z ∨ g = r) (fun _ x => .inr x) (two_ty HI6.out.hdr (T2.out.ch hg6.ch (by omega)).1)
    exact u1.then_ (u2.then_ (u3.then_ (T3.out.then_ (u6.then_ u7))))
end Go.Proofs.Ytkjollifghmkbaa
