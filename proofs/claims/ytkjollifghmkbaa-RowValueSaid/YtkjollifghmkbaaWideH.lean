/-
  The contracts of fractions of whole numbers: SetFrac reduces, NewRat, Num, Denom.
-/
import Derived.Test.YtkjollifghmkbaaWideG
namespace Go.Proofs.Ytkjollifghmkbaa
open Go.RowKit

/-- A fraction's two numbers, whatever they hold. -/
def RHdr (w : World) (r : Nat) : Prop := Hdr w r 0 ∧ Hdr w r 2
theorem rhdr_new (w : World) : RHdr (w.alloc (.cells #[.bool false, .slice none 0 0, .bool false, .slice none 0 0] 57)) w.heap.size := by
  have t : ty (w.alloc (.cells #[.bool false, .slice none 0 0, .bool false, .slice none 0 0] 57)) w.heap.size ≠ some 87 := by unfold ty; rw [heap_alloc_new]; simp [tyO]
  exact ⟨⟨by simp, t, by simp, by simp, ⟨.bool false, by simp⟩, ⟨.slice none 0 0, by simp⟩⟩, ⟨by simp, t, by simp, by simp, ⟨.bool false, by simp⟩, ⟨.slice none 0 0, by simp⟩⟩⟩
theorem RHdr.ch {S : Nat → Prop} {w w' : World} {r : Nat} (h : RHdr w r) (c : Ch S w w') (hn : ¬ S r) : RHdr w' r := ⟨h.1.ch c hn, h.2.ch c hn⟩
theorem RHdr.below {w w' : World} {r : Nat} (h : RHdr w r) (c : Below w.heap.size w w') : RHdr w' r := ⟨h.1.below c, h.2.below c⟩
/-- A fraction in memory. -/
def RatAt (w : World) (r : Nat) (s : Bool) (N D : Nat) : Prop := IntAt w r 0 s N ∧ IntAt w r 2 false D
theorem RatAt.ch {S : Nat → Prop} {w w' : World} {r N D : Nat} {s : Bool} (h : RatAt w r s N D) (c : Ch S w w') (hn : ¬ S r) : RatAt w' r s N D := ⟨h.1.ch c hn, h.2.ch c hn⟩
theorem RatAt.below {w w' : World} {r N D : Nat} {s : Bool} (h : RatAt w r s N D) (c : Below w.heap.size w w') : RatAt w' r s N D := ⟨h.1.below c, h.2.below c⟩
def GivesRat (r : Nat) (s : Bool) (N D : Nat) (w : World) (e : Ending) (w' : World) : Prop := e = .returned (.pointer (some ⟨r, 0, none⟩)) ∧ RatAt w' r s N D ∧ Ch (fun g => g = r) w w'
theorem qsign_zero {s t : Bool} {n : Nat} (h : n = 0) : qsign s t n = false := by simp [qsign, h]
theorem qsign_some {s t : Bool} {n : Nat} (h : n ≠ 0) : qsign s t n = (s != t) := by simp [qsign, h]
theorem qsign_turn (s : Bool) (n : Nat) : (!(qsign s false n) && !decide (n = 0)) = qsign s true n := by
  by_cases h : n = 0 <;> cases s <;> simp [qsign, h]
set_option maxHeartbeats 2000000 in
theorem setfrac_any (r a oa b ob A B G N D : Nat) (s t : Bool) (hA : A ≤ 18446744073709551615) (hB : B ≤ 18446744073709551615) (h0 : B ≠ 0) (hG : Nat.gcd A B = G) (hN : A / G = N) (hD : B / G = D) (w : World) (hr : RHdr w r) (ha : IntAt w a oa s A) (hb : IntAt w b ob t B) :
    Calls Try.prog 60 #[.pointer (some ⟨r, 0, none⟩), .pointer (some ⟨a, oa, none⟩), .pointer (some ⟨b, ob, none⟩)] w (GivesRat r (qsign s t N) N D w) := by
  have gpos : 0 < G := by rw [← hG]; exact Nat.gcd_pos_of_pos_right _ (by omega)
  have gle : G ≤ B := by rw [← hG]; exact Nat.gcd_le_right _ (by omega)
  have nle : N ≤ A := by rw [← hN]; exact Nat.div_le_self _ _
  have dle : D ≤ B := by rw [← hD]; exact Nat.div_le_self _ _
  have dpos : D ≠ 0 := by have := Nat.div_pos gle gpos; omega
  have HR := Lib.hid hr
  have HA := Lib.hid ha
  have HB := Lib.hid hb
  have lr := hr.1.1
  have la := ha.1
  have lb := hb.1
  have EG := Lib.hid hG
  have EN := Lib.hid hN
  have ED := Lib.hid hD
  clear hr ha hb hG hN hD
  go_enter Try.func60, Try.ntmps60
  go_wp2_with fail
  have b1 := new_below w (.cells #[.bool false, .slice none 0 0] 55)
  refine (gcd_any w.heap.size a oa b ob A B s t hA hB _ (hdr_new w) (HA.out.below b1) (HB.out.below b1)).mono ?_
  rintro e w1 ⟨rfl, hi1, hg1⟩
  rw [EG.out] at hi1
  have c1 : Ch (fun _ => False) w w1 := (ch_of_below b1).join hg1 (fun _ _ x => x.elim) (fun g hg x => by omega) (fun _ _ x => x.elim)
  have HI1 := Lib.hid hi1
  have s1 := c1.size
  have l1 := hi1.1
  clear hi1
  go_wp2_with fail
  have b2 := new_below w1 (.cells #[.bool false, .slice none 0 0] 55)
  refine (quo_any w1.heap.size a oa w.heap.size 0 A G s false hA (by omega) (by omega) _ (hdr_new w1) ((HA.out.ch c1 (fun x => x)).below b2) (HI1.out.below b2) (by omega) (by omega)).mono ?_
  rintro e w2 ⟨rfl, hi2, hg2⟩
  rw [EN.out] at hi2
  have c2' : Ch (fun _ => False) w1 w2 := (ch_of_below b2).join hg2 (fun _ _ x => x.elim) (fun g hg x => by omega) (fun _ _ x => x.elim)
  have c2 : Ch (fun _ => False) w w2 := c1.then_ c2'
  have HI2 := Lib.hid hi2
  have s2 := c2'.size
  have l2 := hi2.1
  clear hi2
  go_wp2_with fail
  have b3 := new_below w2 (.cells #[.bool false, .slice none 0 0] 55)
  refine (quo_any w2.heap.size b ob w.heap.size 0 B G t false hB (by omega) (by omega) _ (hdr_new w2) ((HB.out.ch c2 (fun x => x)).below b3) ((HI1.out.ch c2' (fun x => x)).below b3) (by omega) (by omega)).mono ?_
  rintro e w3 ⟨rfl, hi3, hg3⟩
  rw [ED.out] at hi3
  have c3' : Ch (fun _ => False) w2 w3 := (ch_of_below b3).join hg3 (fun _ _ x => x.elim) (fun g hg x => by omega) (fun _ _ x => x.elim)
  have c3 : Ch (fun _ => False) w w3 := c2.then_ c3'
  have HX := Lib.hid (HI2.out.ch c3' (fun x => x))
  have et : qsign t false D = t := by rw [qsign_some dpos]; simp
  rw [et] at hi3
  have HY := Lib.hid hi3
  have s3 := c3'.size
  have l3 := hi3.1
  obtain ⟨_, _, k3, _, k5, _⟩ := id hi3
  clear hi3 et
  have lr3 : r < w3.heap.size := by omega
  have lx3 : w1.heap.size < w3.heap.size := by omega
  have ly3 : w2.heap.size < w3.heap.size := by omega
  cases t
  · go_wp2_with fail
    refine (set_any r 0 N w1.heap.size 0 (qsign s false N) 2 (by omega) (below_two (by omega)) _ (HR.out.ch c3 (fun x => x)).1 HX.out).mono ?_
    rintro e w6 ⟨rfl, hi6, hg6⟩
    have HI6 := Lib.hid hi6
    clear hi6
    go_wp2_with fail
    refine (set_any r 2 D w2.heap.size 0 false 2 (by omega) (below_two (by omega)) _ ((HR.out.ch c3 (fun x => x)).2.chg hg6 (by omega)) (HY.out.ch hg6.ch (by omega))).mono ?_
    rintro e w7 ⟨rfl, hi7, hg7⟩
    have HI7 := Lib.hid hi7
    clear hi7
    go_wp2
    go_ret
    refine ⟨rfl, ⟨HI6.out.chg hg7 (by omega), HI7.out⟩, ?_⟩
    have u := hg6.ch.then_ hg7.ch
    exact c3.join u (fun _ _ x => x.elim) (fun _ _ x => x) (one_ty HR.out.1)
  · go_wp2_with fail
    refine (neg_any w1.heap.size 0 N w1.heap.size 0 (qsign s false N) 2 (by omega) (below_two (by omega)) _ HX.out.hdr HX.out).mono ?_
    rintro e w4 ⟨rfl, hi4, hg4⟩
    rw [qsign_turn] at hi4
    have HI4 := Lib.hid hi4
    have HY4 := Lib.hid (HY.out.ch hg4.ch (by omega))
    have s4 := hg4.size
    clear hi4
    go_wp2_with fail
    refine (neg_any w2.heap.size 0 D w2.heap.size 0 true 2 (by omega) (below_two (by omega)) _ HY4.out.hdr HY4.out).mono ?_
    rintro e w5 ⟨rfl, hi5, hg5⟩
    have hi5' : IntAt w5 w2.heap.size 0 false D := by simpa using hi5
    have HI5 := Lib.hid hi5'
    have HX5 := Lib.hid (HI4.out.ch hg5.ch (by omega))
    have s5 := hg5.size
    clear hi5 hi5'
    have c4 : Ch (fun _ => False) w w4 := c3.join hg4.ch (fun _ _ x => x.elim) (fun g hg x => by omega) (fun _ _ x => x.elim)
    have c5 : Ch (fun _ => False) w w5 := c4.join hg5.ch (fun _ _ x => x.elim) (fun g hg x => by omega) (fun _ _ x => x.elim)
    go_wp2_with fail
    refine (set_any r 0 N w1.heap.size 0 (qsign s true N) 2 (by omega) (below_two (by omega)) _ (HR.out.ch c5 (fun x => x)).1 HX5.out).mono ?_
    rintro e w6 ⟨rfl, hi6, hg6⟩
    have HI6 := Lib.hid hi6
    clear hi6
    go_wp2_with fail
    refine (set_any r 2 D w2.heap.size 0 false 2 (by omega) (below_two (by omega)) _ ((HR.out.ch c5 (fun x => x)).2.chg hg6 (by omega)) (HI5.out.ch hg6.ch (by omega))).mono ?_
    rintro e w7 ⟨rfl, hi7, hg7⟩
    have HI7 := Lib.hid hi7
    clear hi7
    go_wp2
    go_ret
    refine ⟨rfl, ⟨HI6.out.chg hg7 (by omega), HI7.out⟩, ?_⟩
    have u := hg6.ch.then_ hg7.ch
    exact c5.join u (fun _ _ x => x.elim) (fun _ _ x => x) (one_ty HR.out.1)
/-- The way in which a call that makes a new number ends. -/
def NewAt (s : Bool) (n : Nat) (w : World) (e : Ending) (w' : World) : Prop := e = .returned (.pointer (some ⟨w.heap.size, 0, none⟩)) ∧ IntAt w' w.heap.size 0 s n ∧ Below w.heap.size w w'
theorem new_at (n : Int) (h1 : -9223372036854775808 ≤ n) (h2 : n ≤ 9223372036854775807) (w : World) :
    Calls Try.prog 56 #[.int .i64 n] w (NewAt (decide (n < 0)) (mag n) w) := by
  go_enter Try.func56, Try.ntmps56
  go_wp2_with fail
  refine (seti_any _ 0 n h1 h2 _ (hdr_new w)).mono ?_
  rintro e w1 ⟨rfl, hi, hg⟩
  go_wp2
  go_ret
  exact ⟨rfl, hi, (new_below w _).trans (hg.to_below (Nat.le_refl _))⟩
theorem num_any (r N D : Nat) (s : Bool) (M : Nat) (hM : M ≤ 1073741824) (hn : N < 4294967296 ^ M) (w : World) (h : RatAt w r s N D) :
    Calls Try.prog 54 #[.pointer (some ⟨r, 0, none⟩)] w (NewAt s N w) := by
  have H := Lib.hid h
  have HN := Lib.hid hn
  have l := h.1.1
  clear h hn
  go_enter Try.func54, Try.ntmps54
  go_wp2_with fail
  refine (set_any _ 0 N r 0 s M hM HN.out _ (hdr_new w) (H.out.1.below (new_below w _))).mono ?_
  rintro e w1 ⟨rfl, hi, hg⟩
  go_wp2
  go_ret
  exact ⟨rfl, hi, (new_below w _).trans (hg.to_below (Nat.le_refl _))⟩
theorem denom_any (r N D : Nat) (s : Bool) (h0 : D ≠ 0) (M : Nat) (hM : M ≤ 1073741824) (hn : D < 4294967296 ^ M) (w : World) (h : RatAt w r s N D) :
    Calls Try.prog 55 #[.pointer (some ⟨r, 0, none⟩)] w (NewAt false D w) := by
  have H := Lib.hid h
  have HN := Lib.hid hn
  have l := h.1.1
  have e1 : signOf false D = 1 := by simp [signOf, h0]
  clear h hn
  go_enter Try.func55, Try.ntmps55
  go_wp2_with fail
  refine (sign_any r 2 D false w H.out.2).mono ?_
  rintro e w0 ⟨rfl, rfl⟩
  rw [e1]
  go_wp2_with fail
  refine (set_any _ 0 D r 2 false M hM HN.out _ (hdr_new w) (H.out.2.below (new_below w _))).mono ?_
  rintro e w1 ⟨rfl, hi, hg⟩
  go_wp2
  go_ret
  exact ⟨rfl, hi, (new_below w _).trans (hg.to_below (Nat.le_refl _))⟩
end Go.Proofs.Ytkjollifghmkbaa
