/-
  RowSame's walk: whatever the row and the point, true.
-/
import Derived.Test.YtkjollifghmkbaaRowW
namespace Go.Proofs.Ytkjollifghmkbaa
open Go.RowKit

set_option maxRecDepth 100000 in
set_option maxHeartbeats 8000000 in
theorem rowsame_bad (A A' : Option Addr) (xs : List Int) (L c L' c' : Nat) (kind tt : Int) (hL : L = xs.length) (hc : L ≤ c) (w : World) (h : Is w A xs) (x : Int) (hx : chkC kind tt xs 12 = x) (h0 : x ≠ 0) :
    Calls Try.prog 5 #[.agg #[.slice A L c, .int .i64 kind, .int .i64 tt], .slice A' L' c'] w fun e w' => e = .returned (.bool true) ∧ Below w.heap.size w w' := by
  have hn : ∀ W, Is W A xs → Calls Try.prog 19 #[.agg #[.slice A L c, .int .i64 kind, .int .i64 tt]] W (GivesRF [] 0 0 x (chkI kind tt xs 12) W) := fun W hW => by
    have := tidy_any A xs L c kind tt hL hc W hW
    unfold tdL tdK tdT at this
    rw [hx] at this
    simp only [if_neg h0] at this
    exact this
  have HN := Lib.hid hn
  have HX := Lib.hid h
  have d : (x != 0) = true := by simpa using h0
  clear hn h hx h0 hL hc
  go_enter Try.func5, Try.ntmps5
  go_wp2_with fail
  refine (fact_any _).mono ?_
  rintro e w1 ⟨rfl, hb1⟩
  have R1 := (HB.new w 24 #[.slice A L c, .int .i64 kind, .int .i64 tt]).below hb1
  have G1 : Hid (Below w.heap.size w w1) := below_after (by go_grown) hb1
  obtain ⟨u0, u1, u2, _⟩ := HB.row' R1
  have l1 := R1.lt
  clear hb1 R1
  go_wp2_with fail
  refine (HN.out _ (HX.out.below G1.out)).mono ?_
  rintro e w2 ⟨A2, c2, rfl, _, hi2, hb2⟩
  have G2 : Hid (Below w.heap.size w w2) := bw_below (Nat.le_refl _) G1.out hb2
  clear hb2 hi2
  go_wp2_with fail
  refine (samerow_any A2 none [] [] 0 c2 0 0 0 0 0 0 rfl rfl (by omega) (by omega) _ (fun z => absurd z (by simp)) (fun z => absurd z (by simp))).mono ?_
  rintro e w3 ⟨rfl, hb3⟩
  have G3 : Hid (Below w.heap.size w w3) := below_after (by have := G2.out; have z := this.size; go_grown) hb3
  clear hb3
  go_wp2_with fail
  go_ret
  exact ⟨rfl, G3.out⟩
set_option maxRecDepth 100000 in
set_option maxHeartbeats 8000000 in
theorem rowsame_good (A A' : Option Addr) (xs ys : List Int) (ps : List (Int × Int)) (L c L' c' : Nat) (kind tt t : Int) (w : World) (h : Is w A xs) (hp : Fs w A' ps) (C I C2 I2 : Int) (b1 b2 : Bool)
    (hn : ∀ W, Is W A xs → Calls Try.prog 19 #[.agg #[.slice A L c, .int .i64 kind, .int .i64 tt]] W (GivesRF ys kind t 0 0 W))
    (hn2 : ∀ W A2 (c2 : Nat), ys.length ≤ c2 → Is W A2 ys → Calls Try.prog 19 #[.agg #[.slice A2 ys.length c2, .int .i64 kind, .int .i64 t]] W (GivesRF ys kind t 0 0 W))
    (hs : ∀ W A2 A3 (c2 c3 : Nat), Is W A2 ys → Is W A3 ys → Calls Try.prog 22 #[.agg #[.slice A2 ys.length c2, .int .i64 kind, .int .i64 t], .agg #[.slice A3 ys.length c3, .int .i64 kind, .int .i64 t]] W fun e w' => e = .returned (.bool true) ∧ Below W.heap.size W w')
    (hh1 : ∀ W, Is W A xs → Fs W A' ps → Calls Try.prog 12 #[.agg #[.slice A L c, .int .i64 kind, .int .i64 tt], .slice A' L' c'] W (GivesB b1 C I W))
    (hh2 : ∀ W A2 (c2 : Nat), Is W A2 ys → Fs W A' ps → Calls Try.prog 12 #[.agg #[.slice A2 ys.length c2, .int .i64 kind, .int .i64 t], .slice A' L' c'] W (GivesB b2 C2 I2 W))
    (hout : (C != 0) = true ∨ (C != 0) = false ∧ (C2 == 0) = true ∧ (b1 == b2) = true) :
    Calls Try.prog 5 #[.agg #[.slice A L c, .int .i64 kind, .int .i64 tt], .slice A' L' c'] w fun e w' => e = .returned (.bool true) ∧ Below w.heap.size w w' := by
  have HN := Lib.hid hn
  have HN2 := Lib.hid hn2
  have HS := Lib.hid hs
  have HH1 := Lib.hid hh1
  have HH2 := Lib.hid hh2
  have HX := Lib.hid h
  have HP := Lib.hid hp
  have HO := Lib.hid hout
  clear hn hn2 hs hh1 hh2 h hp hout
  go_enter Try.func5, Try.ntmps5
  go_wp2_with fail
  refine (fact_any _).mono ?_
  rintro e w1 ⟨rfl, hb1⟩
  have R1 := (HB.new w 24 #[.slice A L c, .int .i64 kind, .int .i64 tt]).below hb1
  have G1 : Hid (Below w.heap.size w w1) := below_after (by go_grown) hb1
  obtain ⟨u0, u1, u2, _⟩ := HB.row' R1
  have l1 := R1.lt
  have HR1 := Lib.hid R1
  clear hb1 R1
  go_wp2_with fail
  refine (HN.out _ (HX.out.below G1.out)).mono ?_
  rintro e w2 ⟨A2, c2, rfl, hl2, hi2, hb2⟩
  have HL2 := Lib.hid hl2
  have I2' := Lib.hid hi2.is
  have R2 := HR1.out.below hb2
  have G2 : Hid (Below w.heap.size w w2) := bw_below (Nat.le_refl _) G1.out hb2
  have l2 := R2.lt
  obtain ⟨v0, v1, v2, _⟩ := HB.row' R2
  have HR2 := Lib.hid R2
  clear hb2 hi2 hl2 R2 u0 u1 u2 HR1
  go_wp2_with fail
  have J2 : Hid (Is ((w2.alloc (.cells #[.slice A2 ys.length c2, .int .i64 kind, .int .i64 t] 24)).alloc (.cells #[.int .i64 0, .int .i64 0] 29)) A2 ys) := I2'.out.below (by go_grown)
  refine (HN2.out _ A2 c2 HL2.out J2.out).mono ?_
  rintro e w3 ⟨A3, c3, rfl, _, hi3, hb3⟩
  have I3 := Lib.hid hi3.is
  have R3 := ((HR2.out.alloc (.cells #[.slice A2 ys.length c2, .int .i64 kind, .int .i64 t] 24)).alloc (.cells #[.int .i64 0, .int .i64 0] 29)).below hb3
  have N3 := ((HB.new w2 24 #[.slice A2 ys.length c2, .int .i64 kind, .int .i64 t]).alloc (.cells #[.int .i64 0, .int .i64 0] 29)).below hb3
  have J3 : Hid (Is w3 A2 ys) := J2.out.below hb3
  have G3 : Hid (Below w.heap.size w w3) := below_after (by have := G2.out; have z := this.size; go_grown) hb3
  have l3 := R3.lt
  have l3' := N3.lt
  obtain ⟨v0', v1', v2', _⟩ := HB.row' N3
  have HR3 := Lib.hid R3
  have HN3 := Lib.hid N3
  clear hb3 hi3 R3 N3 v0 v1 v2 HR2 J2 I2'
  go_wp2_with fail
  refine (HS.out _ A2 A3 c2 c3 (J3.out.below (by go_grown)) (I3.out.below (by go_grown))).mono ?_
  rintro e w4 ⟨rfl, hb4⟩
  have R4 := ((HR3.out.alloc (.cells #[.slice A3 ys.length c3, .int .i64 kind, .int .i64 t] 24)).alloc (.cells #[.int .i64 0, .int .i64 0] 29)).below hb4
  have N4 := ((HN3.out.alloc (.cells #[.slice A3 ys.length c3, .int .i64 kind, .int .i64 t] 24)).alloc (.cells #[.int .i64 0, .int .i64 0] 29)).below hb4
  have J4 : Hid (Is w4 A2 ys) := (J3.out.below (by go_grown)).below hb4
  have G4 : Hid (Below w.heap.size w w4) := below_after (by have := G3.out; have z := this.size; go_grown) hb4
  have l4 := R4.lt
  have l4' := N4.lt
  obtain ⟨v0, v1, v2, _⟩ := HB.row' R4
  have HR4 := Lib.hid R4
  have HN4 := Lib.hid N4
  clear hb4 R4 N4 v0' v1' v2' HR3 HN3 J3 I3
  go_wp2_with fail
  refine (HH1.out _ (HX.out.below G4.out) (HP.out.below G4.out)).mono ?_
  rintro e w5 ⟨rfl, hb5⟩
  have N5 := HN4.out.below hb5
  have J5 : Hid (Is w5 A2 ys) := J4.out.below hb5
  have G5 : Hid (Below w.heap.size w w5) := bw_below (Nat.le_refl _) G4.out hb5
  have l5 := N5.lt
  obtain ⟨v0', v1', v2', _⟩ := HB.row' N5
  clear hb5 N5 v0 v1 v2 HR4 HN4 J4
  go_wp2_with fail
  refine (HH2.out _ A2 c2 (J5.out.below (by go_grown)) ((HP.out.below G5.out).below (by go_grown))).mono ?_
  rintro e w6 ⟨rfl, hb6⟩
  have M6 := (HB.new w5 29 #[.int .i64 C, .int .i64 I]).below hb6
  have G6 : Hid (Below w.heap.size w w6) := below_after (by have := G5.out; have z := this.size; go_grown) hb6
  have l6 := M6.lt
  obtain ⟨q0, q1, _⟩ := HB.two M6
  clear hb6 M6 v0' v1' v2' J5
  rcases HO.out with d | ⟨d1, d2, d3⟩
  · go_wp2
    go_ret
    exact ⟨rfl, by have := G6.out; have z := this.size; go_grown⟩
  · go_wp2
    go_ret
    exact ⟨rfl, by have := G6.out; have z := this.size; go_grown⟩
theorem rowsame_any (A A' : Option Addr) (xs : List Int) (ps : List (Int × Int)) (L c L' c' : Nat) (kind tt : Int) (hL : L = xs.length) (hc : L ≤ c) (hL' : L' = ps.length) (w : World) (h : Is w A xs) (hp : Fs w A' ps) :
    Calls Try.prog 5 #[.agg #[.slice A L c, .int .i64 kind, .int .i64 tt], .slice A' L' c'] w fun e w' => e = .returned (.bool true) ∧ Below w.heap.size w w' := by
  by_cases h0 : chkC kind tt xs 12 = 0
  · obtain ⟨z0, z1⟩ := tidy_chk h0
    obtain ⟨_, _, _, _, l12, _⟩ := chk_zero h0
    have kle := rK_le xs
    have tl := tidyL_len kind tt xs
    refine rowsame_good A A' xs (tidyL kind tt xs) ps L c L' c' kind tt (tidyT kind tt xs) w h hp (atC kind tt xs ps) (atI kind tt xs ps) (atC kind (tidyT kind tt xs) (tidyL kind tt xs) ps) (atI kind (tidyT kind tt xs) (tidyL kind tt xs) ps) _ _ ?_ ?_ ?_
      (fun W h1 h2 => holds_any A A' xs ps L c L' c' kind tt hL hL' W h1 h2) (fun W A2 c2 h1 h2 => holds_any A2 A' (tidyL kind tt xs) ps _ c2 L' c' kind (tidyT kind tt xs) rfl hL' W h1 h2) ?_
    · intro W h1
      exact tidy_good A xs L c kind tt hL hc W h1 h0
    · intro W A2 c2 h1 h2
      have := tidy_good A2 (tidyL kind tt xs) _ c2 kind (tidyT kind tt xs) rfl h1 W h2 z0
      rwa [(tidy_again kind tt xs).1, (tidy_again kind tt xs).2] at this
    · intro W A2 A3 c2 c3 h1 h2
      have := samerow_any A2 A3 (tidyL kind tt xs) (tidyL kind tt xs) _ c2 _ c3 kind (tidyT kind tt xs) kind (tidyT kind tt xs) rfl rfl (by omega) (by omega) W h1 h2
      simpa using this
    · by_cases hC : atC kind tt xs ps = 0
      · right
        rw [(tidy_at hC).1, holds_tidy hC, hC]
        exact ⟨rfl, rfl, by simp⟩
      · left
        simpa using hC
  · exact rowsame_bad A A' xs L c L' c' kind tt hL hc w h _ rfl h0
end Go.Proofs.Ytkjollifghmkbaa
