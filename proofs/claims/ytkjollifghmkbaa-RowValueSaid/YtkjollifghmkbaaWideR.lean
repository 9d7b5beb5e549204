/-
  Fractions of whole numbers, by values: Neg, Sub, Inv, Quo, Sign, Cmp, NewRat.
-/
import Derived.Test.YtkjollifghmkbaaWideQ
namespace Go.Proofs.Ytkjollifghmkbaa
open Go.RowKit

theorem red_id {P Q : Int} (h : Nat.gcd (mag P) (mag Q) = 1) (hQ : 0 < Q) : redN P Q = P ∧ redD P Q = mag Q := by
  unfold redN redD
  rw [h, Nat.div_one, Nat.div_one]
  refine ⟨?_, rfl⟩
  have e : decide (Q < 0) = false := by simp; omega
  rw [e]
  by_cases z : mag P = 0
  · have : P = 0 := by unfold mag at z; omega
    subst this; simp [qsign, num, mag]
  · rw [qsign_some z]; simp only [Bool.bne_false]; exact num_of P
theorem red_inv {P Q : Int} (h : Nat.gcd (mag P) (mag Q) = 1) (hP : 0 < P) : redN P Q = num (decide (Q < 0)) (mag P) ∧ redD P Q = mag Q := by
  unfold redN redD
  rw [h, Nat.div_one, Nat.div_one]
  refine ⟨?_, rfl⟩
  have e : decide (P < 0) = false := by simp; omega
  have z : mag P ≠ 0 := by unfold mag; omega
  rw [e, qsign_some z]
  simp
theorem new_below' (w : World) (o : Obj) : Ch (fun _ => False) w (w.alloc o) := ch_of_below (new_below w o)
set_option maxHeartbeats 1000000 in
theorem rneg_z (z y e : Nat) (v : Int) (bv : mag v ≤ 1073741824) (be : e ≤ 1073741824) (ne : e ≠ 0) (w : World) (hz : RHdr w z) (hy : RV w y v e) :
    Calls Try.prog 85 #[.pointer (some ⟨z, 0, none⟩), .pointer (some ⟨y, 0, none⟩)] w (GivesRV z (-v) (e : Int) w) := by
  have HY := Lib.hid hy
  have HZ := Lib.hid hz
  have ly := hy.lt
  have lz := hz.1.1
  have m1 : mag (-v) ≤ 18446744073709551615 := by unfold mag at bv ⊢; omega
  have m2 : mag (e : Int) ≤ 18446744073709551615 := by rw [mag_cast]; omega
  have m3 : (e : Int) ≠ 0 := by omega
  have M3 := Lib.hid m3
  have BV := Lib.hid (below_two (n := mag v) (by omega))
  clear hy hz m3
  go_enter Try.func85, Try.ntmps85
  go_wp2_with fail
  refine (neg_any w.heap.size 0 (mag v) y 0 (decide (v < 0)) 2 (by omega) BV.out _ (hdr_new w) (HY.out.1.below (new_below w _))).mono ?_
  rintro en w1 ⟨rfl, hi, hg⟩
  have c1 : Ch (fun _ => False) w w1 := (new_below' w _).join hg.ch (fun _ _ x => x.elim) (fun g hg x => by omega) (fun _ _ x => x.elim)
  have HV : Hid (ZAt w1 w.heap.size 0 (-v)) := z_to hi (by rw [neg_num _ _ HY.out.1.zero, num_of])
  have l1 := hi.1
  clear hi hg
  go_wp2_with fail
  refine (denom_z y e v (by omega) ne _ (HY.out.ch c1 (fun q => q))).mono ?_
  rintro en w2 ⟨rfl, hj, hb⟩
  have HJ := Lib.hid hj
  have HV2 := Lib.hid (HV.out.below hb)
  have c2 : Ch (fun _ => False) w w2 := c1.then_ (ch_of_below hb)
  clear hj
  go_wp2_with fail
  refine (setfrac_z z _ 0 _ 0 (-v) (e : Int) m1 m2 M3.out _ (HZ.out.ch c2 (fun q => q)) HV2.out HJ.out).mono ?_
  rintro en w3 ⟨rfl, hi, hc⟩
  have HI := Lib.hid hi
  clear hi
  go_wp2
  go_ret
  exact ⟨rfl, HI.out, c2.join hc (fun _ _ x => x.elim) (fun _ _ x => x) (rat_ty HZ.out)⟩
set_option maxHeartbeats 1000000 in
theorem rsub_z (z x y d e : Nat) (u v : Int) (bu : mag u ≤ 1073741824) (bv : mag v ≤ 1073741824) (bd : d ≤ 1073741824) (be : e ≤ 1073741824) (nd : d ≠ 0) (ne : e ≠ 0) (gy : Nat.gcd (mag v) e = 1) (w : World) (hz : RHdr w z) (hx : RV w x u d) (hy : RV w y v e) :
    Calls Try.prog 62 #[.pointer (some ⟨z, 0, none⟩), .pointer (some ⟨x, 0, none⟩), .pointer (some ⟨y, 0, none⟩)] w (GivesRV z (u * (e : Int) + -v * (d : Int)) ((d : Int) * (e : Int)) w) := by
  have HX := Lib.hid hx
  have HY := Lib.hid hy
  have HZ := Lib.hid hz
  have lx := hx.lt
  have ly := hy.lt
  have lz := hz.1.1
  have m1 : mag (-v) ≤ 1073741824 := by unfold mag at bv ⊢; omega
  obtain ⟨r1, r2⟩ := red_id (P := -v) (Q := (e : Int)) (by rw [mag_cast]; unfold mag at gy ⊢; rwa [Int.natAbs_neg]) (by omega)
  rw [mag_cast] at r2
  have R1 := Lib.hid r1
  have R2 := Lib.hid r2
  clear hx hy hz r1 r2 gy
  go_enter Try.func62, Try.ntmps62
  go_wp2_with fail
  have b1 := new_below w (.cells #[.bool false, .slice none 0 0, .bool false, .slice none 0 0] 57)
  refine (rneg_z w.heap.size y e v bv be ne _ (rhdr_new w) (HY.out.below b1)).mono ?_
  rintro en w1 ⟨rfl, hi, hc⟩
  rw [R1.out, R2.out] at hi
  have HI := Lib.hid hi
  have l1 := hi.lt
  have c1 : Ch (fun _ => False) w w1 := (ch_of_below b1).join hc (fun _ _ x => x.elim) (fun g hg x => by omega) (fun _ _ x => x.elim)
  clear hi hc
  go_wp2_with fail
  refine (radd_z z x w.heap.size d e u (-v) bu m1 bd be nd ne _ (HZ.out.ch c1 (fun q => q)) (HX.out.ch c1 (fun q => q)) HI.out).mono ?_
  rintro en w2 ⟨rfl, hi, hc⟩
  have HK := Lib.hid hi
  clear hi
  go_wp2
  go_ret
  exact ⟨rfl, HK.out, c1.join hc (fun _ _ x => x.elim) (fun _ _ x => x) (rat_ty HZ.out)⟩
def signI (v : Int) : Int := signOf (decide (v < 0)) (mag v)
theorem rsign_z (x d : Nat) (u : Int) (w : World) (h : RV w x u d) : Calls Try.prog 63 #[.pointer (some ⟨x, 0, none⟩)] w fun e w' => e = .returned (.int .i64 (signI u)) ∧ w = w' := by
  have l := h.lt
  have H := Lib.hid h
  clear h
  go_enter Try.func63, Try.ntmps63
  go_wp2_with fail
  refine (sign_any x 0 (mag u) (decide (u < 0)) w H.out.1).mono ?_
  rintro en w0 ⟨rfl, rfl⟩
  go_wp2
  go_ret
  exact ⟨rfl, rfl⟩
def GivesNw (k : Int) (w : World) (e : Ending) (w' : World) : Prop := e = .returned (.int .i64 k) ∧ Below w.heap.size w w'
set_option maxHeartbeats 1000000 in
theorem rcmp_z (x y d e : Nat) (u v : Int) (bu : mag u ≤ 1073741824) (bv : mag v ≤ 1073741824) (bd : d ≤ 1073741824) (be : e ≤ 1073741824) (nd : d ≠ 0) (ne : e ≠ 0) (gy : Nat.gcd (mag v) e = 1) (w : World) (hx : RV w x u d) (hy : RV w y v e) :
    Calls Try.prog 31 #[.pointer (some ⟨x, 0, none⟩), .pointer (some ⟨y, 0, none⟩)] w (GivesNw (signI (redN (u * (e : Int) + -v * (d : Int)) ((d : Int) * (e : Int)))) w) := by
  have HX := Lib.hid hx
  have HY := Lib.hid hy
  have lx := hx.lt
  have ly := hy.lt
  have GY := Lib.hid gy
  clear hx hy gy
  go_enter Try.func31, Try.ntmps31
  go_wp2_with fail
  have b1 := new_below w (.cells #[.bool false, .slice none 0 0, .bool false, .slice none 0 0] 57)
  refine (rsub_z w.heap.size x y d e u v bu bv bd be nd ne GY.out _ (rhdr_new w) (HX.out.below b1) (HY.out.below b1)).mono ?_
  rintro en w1 ⟨rfl, hi, hc⟩
  have HI := Lib.hid hi
  have c1 : Ch (fun _ => False) w w1 := (ch_of_below b1).join hc (fun _ _ x => x.elim) (fun g hg x => by omega) (fun _ _ x => x.elim)
  have l1 := hi.lt
  clear hi hc
  go_wp2_with fail
  refine (rsign_z w.heap.size _ _ _ HI.out).mono ?_
  rintro en w2 ⟨rfl, rfl⟩
  go_wp2
  go_ret
  exact ⟨rfl, c1.below (Nat.le_refl _) (fun _ _ x => x)⟩
def NewR (u : Int) (d : Nat) (w : World) (e : Ending) (w' : World) : Prop := e = .returned (.pointer (some ⟨w.heap.size, 0, none⟩)) ∧ RV w' w.heap.size u d ∧ Below w.heap.size w w'
set_option maxHeartbeats 1000000 in
theorem newrat_z (n d : Int) (bn : mag n ≤ 1073741824) (h1 : 0 < d) (h2 : d ≤ 1073741824) (hg : Nat.gcd (mag n) (mag d) = 1) (w : World) :
    Calls Try.prog 39 #[.int .i64 n, .int .i64 d] w (NewR n (mag d) w) := by
  have n1 : -9223372036854775808 ≤ n := by unfold mag at bn; omega
  have n2 : n ≤ 9223372036854775807 := by unfold mag at bn; omega
  have d1 : mag d ≤ 18446744073709551615 := by unfold mag; omega
  obtain ⟨r1, r2⟩ := red_id hg h1
  have R1 := Lib.hid r1
  have R2 := Lib.hid r2
  have d0 : d ≠ 0 := by omega
  have D0 := Lib.hid d0
  clear r1 r2 hg d0
  go_enter Try.func39, Try.ntmps39
  go_wp2_with fail
  have b1 := new_below w (.cells #[.bool false, .slice none 0 0, .bool false, .slice none 0 0] 57)
  refine (new_at n n1 n2 _).mono ?_
  rintro en w1 ⟨rfl, hi, hb⟩
  have hi1 : IntAt w1 (w.heap.size + 1) 0 (decide (n < 0)) (mag n) := by simpa using hi
  have HR1 := Lib.hid ((rhdr_new w).below hb)
  have HN1 : Hid (ZAt w1 (w.heap.size + 1) 0 n) := hi1
  have q1 : Below w.heap.size w w1 := below_after b1 hb
  have l1 := hi1.1
  clear hi hi1 hb
  go_wp2_with fail
  refine (new_at d (by omega) (by omega) _).mono ?_
  rintro en w2 ⟨rfl, hi, hb⟩
  have HR2 := Lib.hid (HR1.out.below hb)
  have HN2 := Lib.hid (HN1.out.below hb)
  have HD2 : Hid (ZAt w2 w1.heap.size 0 d) := hi
  have q2 : Below w.heap.size w w2 := below_after q1 hb
  clear hi hb
  go_wp2_with fail
  refine (setfrac_z w.heap.size _ 0 _ 0 n d (by omega) d1 D0.out _ HR2.out HN2.out HD2.out).mono ?_
  rintro en w3 ⟨rfl, hi, hc⟩
  rw [R1.out, R2.out] at hi
  have HI := Lib.hid hi
  have c1 : Ch (fun _ => False) w w3 := (ch_of_below q2).join hc (fun _ _ x => x.elim) (fun g hg x => by omega) (fun _ _ x => x.elim)
  clear hi hc
  go_wp2
  go_ret
  exact ⟨rfl, HI.out, c1.below (Nat.le_refl _) (fun _ _ x => x)⟩
end Go.Proofs.Ytkjollifghmkbaa
