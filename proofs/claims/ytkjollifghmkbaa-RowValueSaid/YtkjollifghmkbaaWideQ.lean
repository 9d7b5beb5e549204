/-
  Fractions of whole numbers, by values: Num, Denom, SetFrac, Add, Neg, Sub, Mul, Inv, Quo, Sign, Cmp.
-/
import Derived.Test.YtkjollifghmkbaaWideP
namespace Go.Proofs.Ytkjollifghmkbaa
open Go.RowKit

/-- A fraction in memory, by its two numbers. -/
def RV (w : World) (r : Nat) (u : Int) (d : Nat) : Prop := ZAt w r 0 u ∧ IntAt w r 2 false d
theorem RV.ch {S : Nat → Prop} {w w' : World} {r d : Nat} {u : Int} (h : RV w r u d) (c : Ch S w w') (hn : ¬ S r) : RV w' r u d := ⟨h.1.ch c hn, h.2.ch c hn⟩
theorem RV.below {w w' : World} {r d : Nat} {u : Int} (h : RV w r u d) (c : Below w.heap.size w w') : RV w' r u d := ⟨h.1.below c, h.2.below c⟩
theorem RV.lt {w : World} {r d : Nat} {u : Int} (h : RV w r u d) : r < w.heap.size := h.1.1
theorem RV.hdr {w : World} {r d : Nat} {u : Int} (h : RV w r u d) : RHdr w r := ⟨h.1.hdr, h.2.hdr⟩
def NewZ (v : Int) (w : World) (e : Ending) (w' : World) : Prop := e = .returned (.pointer (some ⟨w.heap.size, 0, none⟩)) ∧ ZAt w' w.heap.size 0 v ∧ Below w.heap.size w w'
theorem num_z (r d : Nat) (u : Int) (hu : mag u ≤ 18446744073709551615) (w : World) (h : RV w r u d) : Calls Try.prog 54 #[.pointer (some ⟨r, 0, none⟩)] w (NewZ u w) :=
  (num_any r (mag u) d (decide (u < 0)) 2 (by omega) (below_two hu) w h).mono fun _ _ ⟨h1, h2, h3⟩ => ⟨h1, z_to h2 (num_of u), h3⟩
theorem denom_z (r d : Nat) (u : Int) (hd : d ≤ 18446744073709551615) (h0 : d ≠ 0) (w : World) (h : RV w r u d) : Calls Try.prog 55 #[.pointer (some ⟨r, 0, none⟩)] w (NewZ (d : Int) w) :=
  (denom_any r (mag u) d (decide (u < 0)) h0 2 (by omega) (below_two hd) w h).mono fun _ _ ⟨h1, h2, h3⟩ => ⟨h1, z_to h2 (by simp [num]), h3⟩
theorem mul_z (b o x ox y oy : Nat) (u v : Int) (M : Nat) (hM : M ≤ 536870911) (hX : mag u < 4294967296 ^ M) (hY : mag v < 4294967296 ^ M) (w : World) (hz : Hdr w b o) (hx : ZAt w x ox u) (hy : ZAt w y oy v) :
    Calls Try.prog 59 #[.pointer (some ⟨b, o, none⟩), .pointer (some ⟨x, ox, none⟩), .pointer (some ⟨y, oy, none⟩)] w (GivesV b o (u * v) w) :=
  (mul_any b o x ox y oy (mag u) (mag v) _ _ M hM hX hY w hz hx hy).mono fun _ _ ⟨h1, h2, h3⟩ => ⟨h1, z_to h2 (by rw [num_mul, num_of, num_of]), h3⟩
/-- A fraction's numbers in lowest terms. -/
def redN (P Q : Int) : Int := num (qsign (decide (P < 0)) (decide (Q < 0)) (mag P / Nat.gcd (mag P) (mag Q))) (mag P / Nat.gcd (mag P) (mag Q))
def redD (P Q : Int) : Nat := mag Q / Nat.gcd (mag P) (mag Q)
def GivesRV (r : Nat) (P Q : Int) (w : World) (e : Ending) (w' : World) : Prop := e = .returned (.pointer (some ⟨r, 0, none⟩)) ∧ RV w' r (redN P Q) (redD P Q) ∧ Ch (fun g => g = r) w w'
theorem setfrac_z (r a oa b ob : Nat) (P Q : Int) (hP : mag P ≤ 18446744073709551615) (hQ : mag Q ≤ 18446744073709551615) (h0 : Q ≠ 0) (w : World) (hr : RHdr w r) (ha : ZAt w a oa P) (hb : ZAt w b ob Q) :
    Calls Try.prog 60 #[.pointer (some ⟨r, 0, none⟩), .pointer (some ⟨a, oa, none⟩), .pointer (some ⟨b, ob, none⟩)] w (GivesRV r P Q w) :=
  (setfrac_any r a oa b ob (mag P) (mag Q) _ _ _ _ _ hP hQ (by unfold mag; omega) rfl rfl rfl w hr ha hb).mono fun _ _ ⟨h1, ⟨h2, h2'⟩, h3⟩ => ⟨h1, ⟨z_to h2 rfl, h2'⟩, h3⟩
theorem rat_ty {w : World} {z : Nat} (hz : RHdr w z) : ∀ g, g < w.heap.size → g = z → ty w g ≠ some 87 := by rintro g _ rfl; exact hz.1.2.1
theorem wmag_mul (u v : Int) : mag (u * v) = mag u * mag v := by unfold mag; exact Int.natAbs_mul u v
theorem mag_cast (d : Nat) : mag (d : Int) = d := by simp [mag]
theorem mag_add (u v : Int) : mag (u + v) ≤ mag u + mag v := by unfold mag; exact Int.natAbs_add_le u v
theorem mul_small {a b : Nat} (ha : a ≤ 1073741824) (hb : b ≤ 1073741824) : a * b ≤ 1152921504606846976 := Nat.mul_le_mul ha hb
theorem small_one {a : Nat} (h : a ≤ 1073741824) : a < 4294967296 ^ 1 := by omega
set_option maxHeartbeats 4000000 in
theorem rmul_z (z x y d e : Nat) (u v : Int) (bu : mag u ≤ 1073741824) (bv : mag v ≤ 1073741824) (bd : d ≤ 1073741824) (be : e ≤ 1073741824) (nd : d ≠ 0) (ne : e ≠ 0) (w : World) (hz : RHdr w z) (hx : RV w x u d) (hy : RV w y v e) :
    Calls Try.prog 40 #[.pointer (some ⟨z, 0, none⟩), .pointer (some ⟨x, 0, none⟩), .pointer (some ⟨y, 0, none⟩)] w (GivesRV z (u * v) ((d : Int) * (e : Int)) w) := by
  have HX := Lib.hid hx
  have HY := Lib.hid hy
  have HZ := Lib.hid hz
  have lx := hx.lt
  have ly := hy.lt
  have lz := hz.1.1
  clear hx hy hz
  have m1 := mul_small bu bv
  have m2 := mul_small bd be
  rw [← wmag_mul] at m1
  have m3 : mag ((d : Int) * (e : Int)) ≤ 1152921504606846976 := by rw [wmag_mul, mag_cast, mag_cast]; exact m2
  have m4 : (d : Int) * (e : Int) ≠ 0 := Int.mul_ne_zero (by omega) (by omega)
  have M4 := Lib.hid m4
  clear m4
  go_enter Try.func40, Try.ntmps40
  go_wp2_with fail
  refine (num_z x d u (by omega) _ ((HX.out).below (new_below w _))).mono ?_
  rintro en a1 ⟨rfl, hi, hb⟩
  have hi1 : ZAt a1 (w.heap.size + 1) 0 u := by simpa using hi
  have qa1 : Below w.heap.size w a1 := below_after (new_below w _) hb
  have HGa1 := Lib.hid ((hdr_new w).below hb)
  have HAa1 := Lib.hid hi1
  have la1 := hi1.1
  clear hi hi1 hb
  go_wp2_with fail
  refine (num_z y e v (by omega) _ ((HY.out).below qa1)).mono ?_
  rintro en a2 ⟨rfl, hi, hb⟩
  have qa2 : Below w.heap.size w a2 := below_after qa1 hb
  have HGa2 := Lib.hid (HGa1.out.below hb)
  have HAa2 := Lib.hid (HAa1.out.below hb)
  have HBa2 := Lib.hid hi
  clear hi hb
  go_wp2_with fail
  refine (mul_z w.heap.size 0 _ 0 _ 0 u v 1 (by omega) (small_one (by first | exact bu | (rw [mag_cast]; exact bu))) (small_one (by first | exact bv | (rw [mag_cast]; exact bv))) _ HGa2.out HAa2.out HBa2.out).mono ?_
  rintro en a3 ⟨rfl, hi, hg⟩
  have ca3 : Ch (fun _ => False) w a3 := (ch_of_below qa2).join hg.ch (fun _ _ x => x.elim) (fun g hg x => by omega) (fun _ _ x => x.elim)
  have ka3 : Ch (fun _ => False) w a3 := ca3
  have HP : Hid (ZAt a3 w.heap.size 0 (u * v)) := hi
  have la3 := hi.1
  clear hi hg
  go_wp2_with fail
  refine (denom_z x d u (by omega) nd _ ((HX.out.ch ka3 (fun q => q)).below (new_below a3 _))).mono ?_
  rintro en a4 ⟨rfl, hi, hb⟩
  have hi1 : ZAt a4 (a3.heap.size + 1) 0 (d : Int) := by simpa using hi
  have qa4 : Below a3.heap.size a3 a4 := below_after (new_below a3 _) hb
  have HGa4 := Lib.hid ((hdr_new a3).below hb)
  have HAa4 := Lib.hid hi1
  have la4 := hi1.1
  clear hi hi1 hb
  go_wp2_with fail
  refine (denom_z y e v (by omega) ne _ ((HY.out.ch ka3 (fun q => q)).below qa4)).mono ?_
  rintro en a5 ⟨rfl, hi, hb⟩
  have qa5 : Below a3.heap.size a3 a5 := below_after qa4 hb
  have HGa5 := Lib.hid (HGa4.out.below hb)
  have HAa5 := Lib.hid (HAa4.out.below hb)
  have HBa5 := Lib.hid hi
  clear hi hb
  go_wp2_with fail
  refine (mul_z a3.heap.size 0 _ 0 _ 0 (d : Int) (e : Int) 1 (by omega) (small_one (by first | exact bd | (rw [mag_cast]; exact bd))) (small_one (by first | exact be | (rw [mag_cast]; exact be))) _ HGa5.out HAa5.out HBa5.out).mono ?_
  rintro en a6 ⟨rfl, hi, hg⟩
  have ca6 : Ch (fun _ => False) a3 a6 := (ch_of_below qa5).join hg.ch (fun _ _ x => x.elim) (fun g hg x => by omega) (fun _ _ x => x.elim)
  have ka6 : Ch (fun _ => False) w a6 := ka3.then_ ca6
  have HQ : Hid (ZAt a6 a3.heap.size 0 ((d : Int) * (e : Int))) := hi
  have la6 := hi.1
  clear hi hg
  have HP : Hid (ZAt a6 w.heap.size 0 (u * v)) := HP.out.ch ca6 (fun q => q)
  go_wp2_with fail
  refine (setfrac_z z _ 0 _ 0 (u * v) ((d : Int) * (e : Int)) (by omega) (by omega) M4.out _ (HZ.out.ch ka6 (fun q => q)) HP.out HQ.out).mono ?_
  rintro en ww ⟨rfl, hi, hc⟩
  have HI := Lib.hid hi
  clear hi
  go_wp2
  go_ret
  exact ⟨rfl, HI.out, ka6.join hc (fun _ _ x => x.elim) (fun _ _ x => x) (rat_ty HZ.out)⟩
set_option maxHeartbeats 4000000 in
theorem radd_z (z x y d e : Nat) (u v : Int) (bu : mag u ≤ 1073741824) (bv : mag v ≤ 1073741824) (bd : d ≤ 1073741824) (be : e ≤ 1073741824) (nd : d ≠ 0) (ne : e ≠ 0) (w : World) (hz : RHdr w z) (hx : RV w x u d) (hy : RV w y v e) :
    Calls Try.prog 29 #[.pointer (some ⟨z, 0, none⟩), .pointer (some ⟨x, 0, none⟩), .pointer (some ⟨y, 0, none⟩)] w (GivesRV z (u * (e : Int) + v * (d : Int)) ((d : Int) * (e : Int)) w) := by
  have HX := Lib.hid hx
  have HY := Lib.hid hy
  have HZ := Lib.hid hz
  have lx := hx.lt
  have ly := hy.lt
  have lz := hz.1.1
  clear hx hy hz
  have m1 : mag (u * (e : Int)) ≤ 1152921504606846976 := by rw [wmag_mul, mag_cast]; exact mul_small bu be
  have m2 : mag (v * (d : Int)) ≤ 1152921504606846976 := by rw [wmag_mul, mag_cast]; exact mul_small bv bd
  have m3 : mag ((d : Int) * (e : Int)) ≤ 1152921504606846976 := by rw [wmag_mul, mag_cast, mag_cast]; exact mul_small bd be
  have m5 := mag_add (u * (e : Int)) (v * (d : Int))
  have m4 : (d : Int) * (e : Int) ≠ 0 := Int.mul_ne_zero (by omega) (by omega)
  have M4 := Lib.hid m4
  clear m4
  go_enter Try.func29, Try.ntmps29
  go_wp2_with fail
  refine (num_z x d u (by omega) _ ((HX.out).below (new_below w _))).mono ?_
  rintro en a1 ⟨rfl, hi, hb⟩
  have hi1 : ZAt a1 (w.heap.size + 1) 0 u := by simpa using hi
  have qa1 : Below w.heap.size w a1 := below_after (new_below w _) hb
  have HGa1 := Lib.hid ((hdr_new w).below hb)
  have HAa1 := Lib.hid hi1
  have la1 := hi1.1
  clear hi hi1 hb
  go_wp2_with fail
  refine (denom_z y e v (by omega) ne _ ((HY.out).below qa1)).mono ?_
  rintro en a2 ⟨rfl, hi, hb⟩
  have qa2 : Below w.heap.size w a2 := below_after qa1 hb
  have HGa2 := Lib.hid (HGa1.out.below hb)
  have HAa2 := Lib.hid (HAa1.out.below hb)
  have HBa2 := Lib.hid hi
  clear hi hb
  go_wp2_with fail
  refine (mul_z w.heap.size 0 _ 0 _ 0 u (e : Int) 1 (by omega) (small_one (by first | exact bu | (rw [mag_cast]; exact bu))) (small_one (by first | exact be | (rw [mag_cast]; exact be))) _ HGa2.out HAa2.out HBa2.out).mono ?_
  rintro en a3 ⟨rfl, hi, hg⟩
  have ca3 : Ch (fun _ => False) w a3 := (ch_of_below qa2).join hg.ch (fun _ _ x => x.elim) (fun g hg x => by omega) (fun _ _ x => x.elim)
  have ka3 : Ch (fun _ => False) w a3 := ca3
  have HP : Hid (ZAt a3 w.heap.size 0 (u * (e : Int))) := hi
  have la3 := hi.1
  clear hi hg
  go_wp2_with fail
  refine (num_z y e v (by omega) _ ((HY.out.ch ka3 (fun q => q)).below (new_below a3 _))).mono ?_
  rintro en a4 ⟨rfl, hi, hb⟩
  have hi1 : ZAt a4 (a3.heap.size + 1) 0 v := by simpa using hi
  have qa4 : Below a3.heap.size a3 a4 := below_after (new_below a3 _) hb
  have HGa4 := Lib.hid ((hdr_new a3).below hb)
  have HAa4 := Lib.hid hi1
  have la4 := hi1.1
  clear hi hi1 hb
  go_wp2_with fail
  refine (denom_z x d u (by omega) nd _ ((HX.out.ch ka3 (fun q => q)).below qa4)).mono ?_
  rintro en a5 ⟨rfl, hi, hb⟩
  have qa5 : Below a3.heap.size a3 a5 := below_after qa4 hb
  have HGa5 := Lib.hid (HGa4.out.below hb)
  have HAa5 := Lib.hid (HAa4.out.below hb)
  have HBa5 := Lib.hid hi
  clear hi hb
  go_wp2_with fail
  refine (mul_z a3.heap.size 0 _ 0 _ 0 v (d : Int) 1 (by omega) (small_one (by first | exact bv | (rw [mag_cast]; exact bv))) (small_one (by first | exact bd | (rw [mag_cast]; exact bd))) _ HGa5.out HAa5.out HBa5.out).mono ?_
  rintro en a6 ⟨rfl, hi, hg⟩
  have ca6 : Ch (fun _ => False) a3 a6 := (ch_of_below qa5).join hg.ch (fun _ _ x => x.elim) (fun g hg x => by omega) (fun _ _ x => x.elim)
  have ka6 : Ch (fun _ => False) w a6 := ka3.then_ ca6
  have HQ : Hid (ZAt a6 a3.heap.size 0 (v * (d : Int))) := hi
  have la6 := hi.1
  clear hi hg
  have HP : Hid (ZAt a6 w.heap.size 0 (u * (e : Int))) := HP.out.ch ca6 (fun q => q)
  go_wp2_with fail
  refine (add_z w.heap.size 0 w.heap.size 0 a3.heap.size 0 (u * (e : Int)) (v * (d : Int)) 2 (by omega) (below_two (by omega)) (below_two (by omega)) _ HP.out.hdr HP.out HQ.out).mono ?_
  rintro en s1 ⟨rfl, hi, hg⟩
  have HS : Hid (ZAt s1 w.heap.size 0 (u * (e : Int) + v * (d : Int))) := hi
  have ks : Ch (fun _ => False) w s1 := ka6.join hg.ch (fun _ _ x => x.elim) (fun g hg x => by omega) (fun _ _ x => x.elim)
  have ls := hi.1
  clear hi hg
  go_wp2_with fail
  refine (denom_z x d u (by omega) nd _ ((HX.out.ch ks (fun q => q)).below (new_below s1 _))).mono ?_
  rintro en a7 ⟨rfl, hi, hb⟩
  have hi1 : ZAt a7 (s1.heap.size + 1) 0 (d : Int) := by simpa using hi
  have qa7 : Below s1.heap.size s1 a7 := below_after (new_below s1 _) hb
  have HGa7 := Lib.hid ((hdr_new s1).below hb)
  have HAa7 := Lib.hid hi1
  have la7 := hi1.1
  clear hi hi1 hb
  go_wp2_with fail
  refine (denom_z y e v (by omega) ne _ ((HY.out.ch ks (fun q => q)).below qa7)).mono ?_
  rintro en a8 ⟨rfl, hi, hb⟩
  have qa8 : Below s1.heap.size s1 a8 := below_after qa7 hb
  have HGa8 := Lib.hid (HGa7.out.below hb)
  have HAa8 := Lib.hid (HAa7.out.below hb)
  have HBa8 := Lib.hid hi
  clear hi hb
  go_wp2_with fail
  refine (mul_z s1.heap.size 0 _ 0 _ 0 (d : Int) (e : Int) 1 (by omega) (small_one (by first | exact bd | (rw [mag_cast]; exact bd))) (small_one (by first | exact be | (rw [mag_cast]; exact be))) _ HGa8.out HAa8.out HBa8.out).mono ?_
  rintro en a9 ⟨rfl, hi, hg⟩
  have ca9 : Ch (fun _ => False) s1 a9 := (ch_of_below qa8).join hg.ch (fun _ _ x => x.elim) (fun g hg x => by omega) (fun _ _ x => x.elim)
  have ka9 : Ch (fun _ => False) w a9 := ks.then_ ca9
  have HR : Hid (ZAt a9 s1.heap.size 0 ((d : Int) * (e : Int))) := hi
  have la9 := hi.1
  clear hi hg
  have HS : Hid (ZAt a9 w.heap.size 0 (u * (e : Int) + v * (d : Int))) := HS.out.ch ca9 (fun q => q)
  go_wp2_with fail
  refine (setfrac_z z _ 0 _ 0 (u * (e : Int) + v * (d : Int)) ((d : Int) * (e : Int)) (by omega) (by omega) M4.out _ (HZ.out.ch ka9 (fun q => q)) HS.out HR.out).mono ?_
  rintro en ww ⟨rfl, hi, hc⟩
  have HI := Lib.hid hi
  clear hi
  go_wp2
  go_ret
  exact ⟨rfl, HI.out, ka9.join hc (fun _ _ x => x.elim) (fun _ _ x => x) (rat_ty HZ.out)⟩
end Go.Proofs.Ytkjollifghmkbaa
