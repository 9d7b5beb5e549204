/-
  The contracts of the reference's FracOf and FracMade: a fraction of a wide one, and its fault where it does not fit.
-/
import Derived.Test.YtkjollifghmkbaaWideH
import Derived.Test.YtkjollifghmkbaaFracO
namespace Go.Proofs.Ytkjollifghmkbaa
open Go.RowKit

/-- The way in which a call that yields a fraction and a truth ends. -/
def GivesO (n d : Int) (k : Bool) (w : World) (e : Ending) (w' : World) : Prop := e = .returned (.tuple #[.agg #[.int .i64 n, .int .i64 d], .bool k]) ∧ Below w.heap.size w w'
def ofK (N D : Nat) : Bool := decide (N ≤ 1073741824) && decide (D ≤ 1073741824)
def ofN (s : Bool) (N D : Nat) : Int := if ofK N D = true then num s N else 0
def ofD (N D : Nat) : Int := if ofK N D = true then (D : Int) else 0
theorem of_no {s : Bool} {N D : Nat} (h : ofK N D = false) : ofN s N D = 0 ∧ ofD N D = 0 := by simp [ofN, ofD, h]
theorem of_yes {s : Bool} {N D : Nat} (h : ofK N D = true) : ofN s N D = num s N ∧ ofD N D = D := by simp [ofN, ofD, h]
theorem cmp_big {n Q : Nat} (q : Q = 1073741824) (h : 1073741824 < n) : cmpN n Q = 1 := by subst q; unfold cmpN; rw [if_neg (by omega), if_pos h]
theorem cmp_fit {n Q : Nat} (q : Q = 1073741824) (h : ¬ 1073741824 < n) : decide (0 < cmpN n Q) = false := by subst q; unfold cmpN; simp; split <;> omega
theorem most_at {w : World} {b : Nat} (h : IntAt w b 0 (decide ((1073741824 : Int) < 0)) (mag 1073741824)) : ∃ Q, Q = 1073741824 ∧ IntAt w b 0 false Q := ⟨_, rfl, by simpa [mag] using h⟩
theorem drew_below (w : World) (k : Nat) : Below w.heap.size w (w.drewN k) := below_drewN (Below.refl _ _) _
set_option maxHeartbeats 2000000 in
theorem fracof_any (r N D : Nat) (s : Bool) (hN : N ≤ 18446744073709551615) (hD : D ≤ 18446744073709551615) (h0 : D ≠ 0) (w : World) (h : RatAt w r s N D) :
    Calls Try.prog 28 #[.pointer (some ⟨r, 0, none⟩)] w (GivesO (ofN s N D) (ofD N D) (ofK N D) w) := by
  have LT2 : ∀ n : Nat, n < n + 1 + 1 := lt_two
  have LT3 : ∀ n : Nat, n < n + 1 + 1 + 1 := fun n => by omega
  have H := Lib.hid h
  have l := h.1.1
  clear h
  go_enter Try.func28, Try.ntmps28
  go_wp2_with fail
  refine (num_any r N D s 2 (by omega) (below_two hN) _ (H.out.below (new_below w _))).mono ?_
  rintro e w1 ⟨rfl, hi1, hb1⟩
  have hi1' : IntAt w1 (w.heap.size + 1) 0 s N := by simpa using hi1
  have HI1 := Lib.hid hi1'
  have g1 : Below w.heap.size w w1 := below_after (by go_grown) hb1
  have l1 := hi1'.1
  clear hi1 hi1'
  obtain ⟨hc1, hf1, hl1, hm1, hn1, ho1⟩ := bsix hb1
  go_wp2_with fail
  refine (denom_any r N D s h0 2 (by omega) (below_two hD) _ (H.out.below g1)).mono ?_
  rintro e w2 ⟨rfl, hi2, hb2⟩
  have HI2 := Lib.hid hi2
  have HA2 := Lib.hid (HI1.out.below hb2)
  have g2 : Below w.heap.size w w2 := below_more g1 hb2 (by go_grown)
  have hb2_1 := below_more hb1 hb2 (by go_grown)
  have l2 := hi2.1
  clear hi2 hc1 hf1 hl1 hm1 hn1 ho1 g1 hb1
  obtain ⟨hc2, hf2, hl2, hm2, hn2, ho2⟩ := bsix hb2_1
  go_wp2_with fail
  refine (new_at 1073741824 (by omega) (by omega) _).mono ?_
  rintro e w3 ⟨rfl, hi3, hb3⟩
  obtain ⟨Q, hq, hi3'⟩ := most_at hi3
  have HQ := Lib.hid hq
  have q2 : Q < 4294967296 ^ 2 := by omega
  have HQ2 := Lib.hid q2
  have HM3 := Lib.hid hi3'
  clear hq hi3' q2
  have HA3 := Lib.hid (HA2.out.below hb3)
  have HB3 := Lib.hid (HI2.out.below hb3)
  have g3 : Below w.heap.size w w3 := below_more g2 hb3 (by go_grown)
  have hb3_1 := below_more hb2_1 hb3 (by go_grown)
  have l3 := hi3.1
  clear hi3 hc2 hf2 hl2 hm2 hn2 ho2 g2 hb2_1
  obtain ⟨hc3, hf3, hl3, hm3, hn3, ho3⟩ := bsix hb3_1
  go_wp2_with fail
  refine (cmpabs_any _ 0 N _ 0 Q s false 2 (by omega) (below_two hN) HQ2.out _ HA3.out HM3.out).mono ?_
  rintro e w4 ⟨rfl, k, rfl⟩
  have HN := Lib.hid hN
  have HD := Lib.hid hD
  by_cases hn : 1073741824 < N
  · rw [cmp_big HQ.out hn]
    have hk : ofK N D = false := by unfold ofK; simp; omega
    obtain ⟨e1, e2⟩ := of_no (s := s) hk
    have HK := Lib.hid hk
    have E1 := Lib.hid e1
    have E2 := Lib.hid e2
    clear hn hk e1 e2
    go_wp2_with fail
    refine bodyPost_ret (v := .tuple #[.agg #[.int .i64 0, .int .i64 0], .bool false]) (by simp [results, Try.results28, go_sem, hc3]) rfl ⟨by rw [HK.out, E1.out, E2.out], ?_⟩
    exact ((below_drewN g3 _).setCell (Nat.le_refl _) _).setCell (Nat.le_refl _) _
  · have d1 := cmp_fit HQ.out hn
    go_wp2_with fail
    refine (cmpabs_any _ 0 D _ 0 Q false false 2 (by omega) (below_two hD) HQ2.out _ (HB3.out.below (drew_below _ _)) (HM3.out.below (drew_below _ _))).mono ?_
    rintro e w4 ⟨rfl, k', rfl⟩
    have dd : (w3.drewN k).drewN k' = w3.drewN (k + k') := World.drewN_drewN _ _ _
    rw [dd]
    have gd : Below w.heap.size w (w3.drewN (k + k')) := below_drewN g3 _
    have HA4 := Lib.hid (HA3.out.below (drew_below w3 (k + k')))
    have HB4 := Lib.hid (HB3.out.below (drew_below w3 (k + k')))
    clear dd
    by_cases hm : 1073741824 < D
    · rw [cmp_big HQ.out hm]
      have hk : ofK N D = false := by unfold ofK; simp; omega
      obtain ⟨e1, e2⟩ := of_no (s := s) hk
      have HK := Lib.hid hk
      have E1 := Lib.hid e1
      have E2 := Lib.hid e2
      clear hn hm hk e1 e2
      go_wp2_with fail
      refine bodyPost_ret (v := .tuple #[.agg #[.int .i64 0, .int .i64 0], .bool false]) (by simp [results, Try.results28, go_sem, hc3]) rfl ⟨by rw [HK.out, E1.out, E2.out], ?_⟩
      exact (gd.setCell (Nat.le_refl _) _).setCell (Nat.le_refl _) _
    · have d2 := cmp_fit HQ.out hm
      have hk : ofK N D = true := by unfold ofK; simp; omega
      obtain ⟨e1, e2⟩ := of_yes (s := s) hk
      have HK := Lib.hid hk
      have E1 := Lib.hid e1
      have E2 := Lib.hid e2
      have HL := Lib.hid (show N ≤ 9223372036854775807 by omega)
      have HL2 := Lib.hid (show D ≤ 9223372036854775807 by omega)
      clear hn hm hk e1 e2
      go_wp2_with fail
      refine (int64_any _ 0 N s HL.out _ HA4.out).mono ?_
      rintro e w5 ⟨rfl, rfl⟩
      go_wp2_with fail
      refine (int64_any _ 0 D false HL2.out _ HB4.out).mono ?_
      rintro e w5 ⟨rfl, rfl⟩
      have en : num false D = (D : Int) := by simp [num]
      rw [en]
      clear en
      go_wp2_with fail
      refine bodyPost_ret (v := .tuple #[.agg #[.int .i64 (num s N), .int .i64 D], .bool true]) (by simp [results, Try.results28, go_sem, hc3]) rfl ⟨by rw [HK.out, E1.out, E2.out], ?_⟩
      have z := g3.size
      have z2 := gd.size
      go_grown
/-- What FracMade returns. -/
def wideC (N D : Nat) : Int := if ofK N D = true then 0 else 10
set_option maxHeartbeats 2000000 in
theorem fracmade_any (r N D : Nat) (s : Bool) (hN : N ≤ 18446744073709551615) (hD : D ≤ 18446744073709551615) (h0 : D ≠ 0) (w : World) (h : RatAt w r s N D) :
    Calls Try.prog 16 #[.pointer (some ⟨r, 0, none⟩)] w (Gives (ofN s N D) (ofD N D) (wideC N D) 0 w) := by
  have LT2 : ∀ n : Nat, n < n + 1 + 1 := lt_two
  have LT3 : ∀ n : Nat, n < n + 1 + 1 + 1 := fun n => by omega
  have H := Lib.hid h
  have l := h.1.1
  clear h
  have b1 : Below w.heap.size w ((w.alloc (.cells #[.int .i64 0, .int .i64 0] 27)).alloc (.cells #[.int .i64 0, .int .i64 0] 29)) := by go_grown
  by_cases hk : ofK N D = true
  · obtain ⟨e1, e2⟩ := of_yes (s := s) hk
    have e3 : wideC N D = 0 := by simp [wideC, hk]
    have HK := Lib.hid hk
    have E3 := Lib.hid e3
    have HL := Lib.hid e1
    have HL2 := Lib.hid e2
    clear hk e1 e2 e3
    go_enter Try.func16, Try.ntmps16
    go_wp2_with fail
    refine (fracof_any r N D s hN hD h0 _ (H.out.below b1)).mono ?_
    rintro e w1 ⟨rfl, hb1⟩
    rw [HK.out]
    have g1 : Below w.heap.size w w1 := below_after (by go_grown) hb1
    obtain ⟨hc1, hf1, hl1, hm1, hn1, ho1⟩ := bsix hb1
    go_wp2_with fail
    refine bodyPost_ret (v := .tuple #[.agg #[.int .i64 (ofN s N D), .int .i64 (ofD N D)], .agg #[.int .i64 0, .int .i64 0]]) (by simp [results, Try.results16, go_sem, hc1, hl1, lt_two]) rfl ⟨by rw [E3.out], ?_⟩
    have z := g1.size
    go_grown
  · have hk' : ofK N D = false := by simpa using hk
    obtain ⟨e1, e2⟩ := of_no (s := s) hk'
    have e3 : wideC N D = 10 := by simp [wideC, hk']
    have HK := Lib.hid hk'
    have E3 := Lib.hid e3
    have HL := Lib.hid e1
    have HL2 := Lib.hid e2
    clear hk hk' e1 e2 e3
    go_enter Try.func16, Try.ntmps16
    go_wp2_with fail
    refine (fracof_any r N D s hN hD h0 _ (H.out.below b1)).mono ?_
    rintro e w1 ⟨rfl, hb1⟩
    rw [HK.out]
    have g1 : Below w.heap.size w w1 := below_after (by go_grown) hb1
    obtain ⟨hc1, hf1, hl1, hm1, hn1, ho1⟩ := bsix hb1
    go_wp2_with fail
    refine bodyPost_ret (v := .tuple #[.agg #[.int .i64 0, .int .i64 0], .agg #[.int .i64 10, .int .i64 0]]) (by simp [results, Try.results16, go_sem, hc1, hl1, lt_two]) rfl ⟨by rw [E3.out, HL.out, HL2.out], ?_⟩
    have z := g1.size
    go_grown
end Go.Proofs.Ytkjollifghmkbaa
