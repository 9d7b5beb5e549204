/-
  RowNot's walk: whatever the row and the point, true.
-/
import Derived.Test.YtkjollifghmkbaaRowT
import Derived.Test.YtkjollifghmkbaaRowN
namespace Go.Proofs.Ytkjollifghmkbaa
open Go.RowKit

set_option maxRecDepth 100000 in
set_option maxHeartbeats 8000000 in
theorem rownot_bad (A A' : Option Addr) (xs : List Int) (L c L' c' : Nat) (kind tt : Int) (hL : L = xs.length) (w : World) (h : Is w A xs) (x : Int) (hx : notC kind tt xs = x) (h0 : x ≠ 0) :
    Calls Try.prog 8 #[.agg #[.slice A L c, .int .i64 kind, .int .i64 tt], .slice A' L' c'] w fun e w' => e = .returned (.bool true) ∧ Below w.heap.size w w' := by
  have hn : ∀ W, Is W A xs → Calls Try.prog 21 #[.agg #[.slice A L c, .int .i64 kind, .int .i64 tt]] W (GivesRF [] 0 0 x (notI kind tt xs) W) := fun W hW => by
    have := not_any A xs L c kind tt hL W hW
    unfold notL notK notT at this
    rw [hx] at this
    simp only [if_neg h0] at this
    exact this
  have HN := Lib.hid hn
  have HX := Lib.hid h
  have d : (x != 0) = true := by simpa using h0
  clear hn h hx h0 hL
  go_enter Try.func8, Try.ntmps8
  go_wp2_with fail
  refine (fact_any _).mono ?_
  rintro e w1 ⟨rfl, hb1⟩
  have R1 := (HB.new w 24 #[.slice A L c, .int .i64 kind, .int .i64 tt]).below hb1
  have G1 : Hid (Below w.heap.size w w1) := below_after (by go_grown) hb1
  obtain ⟨u0, u1, u2, _⟩ := HB.row' R1
  have l1 := R1.lt
  clear hb1 R1
  go_wp2_with fail
  refine (HN.out _ (HX.out.below G1.out)).mono ?_
  rintro e w2 ⟨A2, c2, rfl, _, hi2, hb2⟩
  have G2 : Hid (Below w.heap.size w w2) := bw_below (Nat.le_refl _) G1.out hb2
  clear hb2 hi2
  go_wp2_with fail
  refine (samerow_any A2 none [] [] 0 c2 0 0 0 0 0 0 rfl rfl (by omega) (by omega) _ (fun z => absurd z (by simp)) (fun z => absurd z (by simp))).mono ?_
  rintro e w3 ⟨rfl, hb3⟩
  have G3 : Hid (Below w.heap.size w w3) := below_after (by have := G2.out; have z := this.size; go_grown) hb3
  clear hb3
  go_wp2_with fail
  go_ret
  exact ⟨rfl, G3.out⟩
theorem at_not {kind tt : Int} {xs : List Int} {ps : List (Int × Int)} (hk : kind = 1 ∨ kind = 2) : atC (3 - kind) (-tt) (negL xs) ps = atC kind tt xs ps ∧ atI (3 - kind) (-tt) (negL xs) ps = atI kind tt xs ps := by
  obtain ⟨h1, h2⟩ := chk_not (tt := tt) (xs := xs) (n := (ps.length : Int)) hk
  unfold atC atI
  rw [h1, h2]
  exact ⟨rfl, rfl⟩
theorem at_pos {kind tt : Int} {xs : List Int} {ps : List (Int × Int)} (h : atC kind tt xs ps = 0) : xs.length ≤ ps.length ∧ ps.length ≤ 12 ∧ ∀ i, i < ps.length → 0 < fden ps i := by
  obtain ⟨_, h1, h2⟩ := at_zero h
  obtain ⟨_, _, q1, _, q2, _⟩ := chk_zero h1
  refine ⟨by omega, by omega, fun i hi => ?_⟩
  have := fvalid_bd ((pt_zero h2).2 i hi)
  omega
theorem holds_not {kind tt : Int} {xs : List Int} {ps : List (Int × Int)} (hk : kind = 1 ∨ kind = 2) (h : atC kind tt xs ps = 0) : holdsV (3 - kind) (-tt) (negL xs) ps = !holdsV kind tt xs ps := by
  obtain ⟨l1, _, l2⟩ := at_pos h
  rw [holds_EN (by rw [negL_len]; exact l1) l2, holds_EN l1 l2, EN_neg]
  rw [Bool.eq_iff_iff]
  rcases hk with rfl | rfl
  · simp
  · simp
set_option maxRecDepth 100000 in
set_option maxHeartbeats 8000000 in
theorem rownot_good (A A' : Option Addr) (xs : List Int) (ps : List (Int × Int)) (L c L' c' : Nat) (kind tt : Int) (hL : L = xs.length) (hL' : L' = ps.length) (w : World) (h : Is w A xs) (hp : Fs w A' ps) (hk : kind = 1 ∨ kind = 2) (h0 : chkC kind tt xs 12 = 0)
    (k' : Int) (hk' : k' = 3 - kind) (C I : Int) (b1 b2 : Bool) (hC : atC kind tt xs ps = C) (hI : atI kind tt xs ps = I) (hb1 : (decide (C = 0) && holdsV kind tt xs ps) = b1) (hb2 : (decide (C = 0) && holdsV k' (-tt) (negL xs) ps) = b2)
    (hout : (C != 0) = true ∨ (C != 0) = false ∧ (b1 != b2) = true) :
    Calls Try.prog 8 #[.agg #[.slice A L c, .int .i64 kind, .int .i64 tt], .slice A' L' c'] w fun e w' => e = .returned (.bool true) ∧ Below w.heap.size w w' := by
  have k3 : kind ≠ 3 := by omega
  have k3' : k' ≠ 3 := by omega
  obtain ⟨_, _, _, _, l12, _⟩ := chk_zero h0
  have hn : ∀ W, Is W A xs → Calls Try.prog 21 #[.agg #[.slice A L c, .int .i64 kind, .int .i64 tt]] W (GivesRF (negL xs) k' (-tt) 0 0 W) := fun W hW => by
    have := not_any A xs L c kind tt hL W hW
    unfold notL notK notT notC notI at this
    simp only [if_pos h0, if_neg k3, if_true] at this
    rw [hk']
    exact this
  have hn2 : ∀ W A2 (c2 : Nat), Is W A2 (negL xs) → Calls Try.prog 21 #[.agg #[.slice A2 (negL xs).length c2, .int .i64 k', .int .i64 (-tt)]] W (GivesRF xs kind tt 0 0 W) := fun W A2 c2 hW => by
    have := not_any A2 (negL xs) _ c2 k' (-tt) rfl W hW
    have e0 : chkC k' (-tt) (negL xs) 12 = 0 := by rw [hk', (chk_not hk).1]; exact h0
    unfold notL notK notT notC notI at this
    simp only [if_pos e0, if_neg k3', if_true, negL_negL, Int.neg_neg] at this
    have e1 : 3 - k' = kind := by omega
    rw [e1] at this
    exact this
  have hs : ∀ W A2 (c2 : Nat), Is W A2 xs → Is W A xs → Calls Try.prog 22 #[.agg #[.slice A2 xs.length c2, .int .i64 kind, .int .i64 tt], .agg #[.slice A L c, .int .i64 kind, .int .i64 tt]] W fun e w' => e = .returned (.bool true) ∧ Below W.heap.size W w' := fun W A2 c2 h1 h2 => by
    have := samerow_any A2 A xs xs _ c2 L c kind tt kind tt rfl hL (by omega) (by omega) W h1 h2
    simpa using this
  have hh1 : ∀ W, Is W A xs → Fs W A' ps → Calls Try.prog 12 #[.agg #[.slice A L c, .int .i64 kind, .int .i64 tt], .slice A' L' c'] W (GivesB b1 C I W) := fun W h1 h2 => by
    have := holds_any A A' xs ps L c L' c' kind tt hL hL' W h1 h2
    rw [hC, hI, hb1] at this
    exact this
  have hh2 : ∀ W A2 (c2 : Nat), Is W A2 (negL xs) → Fs W A' ps → Calls Try.prog 12 #[.agg #[.slice A2 (negL xs).length c2, .int .i64 k', .int .i64 (-tt)], .slice A' L' c'] W (GivesB b2 C I W) := fun W A2 c2 h1 h2 => by
    have := holds_any A2 A' (negL xs) ps _ c2 L' c' k' (-tt) rfl hL' W h1 h2
    obtain ⟨e1, e2⟩ := at_not (tt := tt) (xs := xs) (ps := ps) hk
    rw [← hk'] at e1 e2
    rw [e1, e2, hC, hI, hb2] at this
    exact this
  have HN := Lib.hid hn
  have HN2 := Lib.hid hn2
  have HS := Lib.hid hs
  have HH1 := Lib.hid hh1
  have HH2 := Lib.hid hh2
  have HX := Lib.hid h
  have HP := Lib.hid hp
  have HO := Lib.hid hout
  clear hn hn2 hs hh1 hh2 h hp hL hL' hk h0 hk' hC hI hb1 hb2 hout k3 k3' l12
  go_enter Try.func8, Try.ntmps8
  go_wp2_with fail
  refine (fact_any _).mono ?_
  rintro e w1 ⟨rfl, hb1⟩
  have R1 := (HB.new w 24 #[.slice A L c, .int .i64 kind, .int .i64 tt]).below hb1
  have G1 : Hid (Below w.heap.size w w1) := below_after (by go_grown) hb1
  obtain ⟨u0, u1, u2, _⟩ := HB.row' R1
  have l1 := R1.lt
  have HR1 := Lib.hid R1
  clear hb1 R1
  go_wp2_with fail
  refine (HN.out _ (HX.out.below G1.out)).mono ?_
  rintro e w2 ⟨A2, c2, rfl, _, hi2, hb2⟩
  have I2 := Lib.hid hi2.is
  have R2 := HR1.out.below hb2
  have G2 : Hid (Below w.heap.size w w2) := bw_below (Nat.le_refl _) G1.out hb2
  have l2 := R2.lt
  obtain ⟨v0, v1, v2, _⟩ := HB.row' R2
  have HR2 := Lib.hid R2
  clear hb2 hi2 R2 u0 u1 u2 HR1
  go_wp2_with fail
  have J2 : Hid (Is ((w2.alloc (.cells #[.slice A2 (negL xs).length c2, .int .i64 k', .int .i64 (-tt)] 24)).alloc (.cells #[.int .i64 0, .int .i64 0] 29)) A2 (negL xs)) := I2.out.below (by go_grown)
  refine (HN2.out _ A2 c2 J2.out).mono ?_
  rintro e w3 ⟨A3, c3, rfl, _, hi3, hb3⟩
  have I3 := Lib.hid hi3.is
  have R3 := ((HR2.out.alloc (.cells #[.slice A2 (negL xs).length c2, .int .i64 k', .int .i64 (-tt)] 24)).alloc (.cells #[.int .i64 0, .int .i64 0] 29)).below hb3
  have N3 := ((HB.new w2 24 #[.slice A2 (negL xs).length c2, .int .i64 k', .int .i64 (-tt)]).alloc (.cells #[.int .i64 0, .int .i64 0] 29)).below hb3
  have J3 : Hid (Is w3 A2 (negL xs)) := J2.out.below hb3
  have G3 : Hid (Below w.heap.size w w3) := below_after (by have := G2.out; have z := this.size; go_grown) hb3
  have l3 := R3.lt
  have l3' := N3.lt
  obtain ⟨v0', v1', v2', _⟩ := HB.row' R3
  have HR3 := Lib.hid R3
  have HN3 := Lib.hid N3
  clear hb3 hi3 R3 N3 v0 v1 v2 HR2 J2 I2
  go_wp2_with fail
  refine (HS.out _ A3 c3 (I3.out.below (by go_grown)) ((HX.out.below G3.out).below (by go_grown))).mono ?_
  rintro e w4 ⟨rfl, hb4⟩
  have R4 := ((HR3.out.alloc (.cells #[.slice A3 xs.length c3, .int .i64 kind, .int .i64 tt] 24)).alloc (.cells #[.int .i64 0, .int .i64 0] 29)).below hb4
  have N4 := ((HN3.out.alloc (.cells #[.slice A3 xs.length c3, .int .i64 kind, .int .i64 tt] 24)).alloc (.cells #[.int .i64 0, .int .i64 0] 29)).below hb4
  have J4 : Hid (Is w4 A2 (negL xs)) := (J3.out.below (by go_grown)).below hb4
  have G4 : Hid (Below w.heap.size w w4) := below_after (by have := G3.out; have z := this.size; go_grown) hb4
  have l4 := R4.lt
  have l4' := N4.lt
  obtain ⟨v0, v1, v2, _⟩ := HB.row' R4
  have HR4 := Lib.hid R4
  have HN4 := Lib.hid N4
  clear hb4 R4 N4 v0' v1' v2' HR3 HN3 J3
  go_wp2_with fail
  refine (HH1.out _ (HX.out.below G4.out) (HP.out.below G4.out)).mono ?_
  rintro e w5 ⟨rfl, hb5⟩
  have N5 := HN4.out.below hb5
  have J5 : Hid (Is w5 A2 (negL xs)) := J4.out.below hb5
  have G5 : Hid (Below w.heap.size w w5) := bw_below (Nat.le_refl _) G4.out hb5
  have l5 := N5.lt
  obtain ⟨v0', v1', v2', _⟩ := HB.row' N5
  clear hb5 N5 v0 v1 v2 HR4 HN4 J4
  go_wp2_with fail
  refine (HH2.out _ A2 c2 (J5.out.below (by go_grown)) ((HP.out.below G5.out).below (by go_grown))).mono ?_
  rintro e w6 ⟨rfl, hb6⟩
  have M6 := (HB.new w5 29 #[.int .i64 C, .int .i64 I]).below hb6
  have G6 : Hid (Below w.heap.size w w6) := below_after (by have := G5.out; have z := this.size; go_grown) hb6
  have l6 := M6.lt
  obtain ⟨q0, q1, _⟩ := HB.two M6
  clear hb6 M6 v0' v1' v2' J5
  rcases HO.out with d | ⟨d1, d2⟩
  · go_wp2
    go_ret
    exact ⟨rfl, by have := G6.out; have z := this.size; go_grown⟩
  · go_wp2
    go_ret
    exact ⟨ret_bool (a := (!b1 == b2)) (by revert d2; cases b1 <;> cases b2 <;> simp), by have := G6.out; have z := this.size; go_grown⟩
theorem rownot_any (A A' : Option Addr) (xs : List Int) (ps : List (Int × Int)) (L c L' c' : Nat) (kind tt : Int) (hL : L = xs.length) (hL' : L' = ps.length) (w : World) (h : Is w A xs) (hp : Fs w A' ps) :
    Calls Try.prog 8 #[.agg #[.slice A L c, .int .i64 kind, .int .i64 tt], .slice A' L' c'] w fun e w' => e = .returned (.bool true) ∧ Below w.heap.size w w' := by
  by_cases hn : notC kind tt xs = 0
  · have h0 : chkC kind tt xs 12 = 0 := by
      unfold notC at hn
      by_cases z : chkC kind tt xs 12 = 0
      · exact z
      · rw [if_neg z] at hn; exact absurd hn z
    have h3 : kind ≠ 3 := by
      rintro rfl
      unfold notC at hn
      rw [if_pos h0, if_pos rfl] at hn
      cases hn
    obtain ⟨_, _, _, hk, _⟩ := chk_zero h0
    have hk2 : kind = 1 ∨ kind = 2 := by omega
    refine rownot_good A A' xs ps L c L' c' kind tt hL hL' w h hp hk2 h0 _ rfl _ _ _ _ rfl rfl rfl rfl ?_
    by_cases hC : atC kind tt xs ps = 0
    · right
      rw [holds_not hk2 hC, hC]
      refine ⟨rfl, ?_⟩
      cases holdsV kind tt xs ps <;> rfl
    · left
      simpa using hC
  · exact rownot_bad A A' xs L c L' c' kind tt hL w h _ rfl hn
end Go.Proofs.Ytkjollifghmkbaa
