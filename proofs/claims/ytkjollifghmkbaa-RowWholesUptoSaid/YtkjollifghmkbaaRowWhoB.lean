/-
  RowWholes' walk: whatever the row and the whole numbers (no more than memory for as many fractions), true.
-/
import Derived.Test.YtkjollifghmkbaaRowWhoA
import Derived.Test.YtkjollifghmkbaaRowT
namespace Go.Proofs.Ytkjollifghmkbaa
open Go.RowKit

set_option maxRecDepth 100000 in
set_option maxHeartbeats 8000000 in
theorem rowwholes_bad (A A' : Option Addr) (xs : List Int) (L c L' c' : Nat) (kind tt : Int) (hL : L = xs.length) (hc : L ≤ c) (w : World) (h : Is w A xs) (x : Int) (hx : whC kind tt xs = x) (h0 : x ≠ 0) :
    Calls Try.prog 7 #[.agg #[.slice A L c, .int .i64 kind, .int .i64 tt], .slice A' L' c'] w fun e w' => e = .returned (.bool true) ∧ Below w.heap.size w w' := by
  have hn : ∀ W, Is W A xs → Calls Try.prog 20 #[.agg #[.slice A L c, .int .i64 kind, .int .i64 tt]] W (GivesRF [] 0 0 x (whI kind tt xs) W) := fun W hW => by
    have := whole_any A xs L c kind tt hL hc W hW
    rw [hx] at this
    have e : whL kind tt xs = [] ∧ whKk kind tt xs = 0 ∧ whTt kind tt xs = 0 := by
      unfold whL whKk whTt
      by_cases z : chkC kind tt xs 12 = 0
      · have w2 : whW kind tt xs = 2 := by
          unfold whC at hx
          rw [if_pos z] at hx
          by_cases q : whW kind tt xs = 2
          · exact q
          · rw [if_neg q] at hx; exact absurd hx.symm h0
        simp [z, w2]
      · simp [z]
    rw [e.1, e.2.1, e.2.2] at this
    exact this
  have HN := Lib.hid hn
  have HX := Lib.hid h
  have d : (x != 0) = true := by simpa using h0
  clear hn h hx h0 hL hc
  go_enter Try.func7, Try.ntmps7
  go_wp2_with fail
  refine (fact_any _).mono ?_
  rintro e w1 ⟨rfl, hb1⟩
  have R1 := (HB.new w 24 #[.slice A L c, .int .i64 kind, .int .i64 tt]).below hb1
  have G1 : Hid (Below w.heap.size w w1) := below_after (by go_grown) hb1
  obtain ⟨u0, u1, u2, _⟩ := HB.row' R1
  have l1 := R1.lt
  clear hb1 R1
  go_wp2_with fail
  refine (HN.out _ (HX.out.below G1.out)).mono ?_
  rintro e w2 ⟨A2, c2, rfl, _, hi2, hb2⟩
  have G2 : Hid (Below w.heap.size w w2) := bw_below (Nat.le_refl _) G1.out hb2
  clear hb2 hi2
  go_wp2_with fail
  refine (samerow_any A2 none [] [] 0 c2 0 0 0 0 0 0 rfl rfl (by omega) (by omega) _ (fun z => absurd z (by simp)) (fun z => absurd z (by simp))).mono ?_
  rintro e w3 ⟨rfl, hb3⟩
  have G3 : Hid (Below w.heap.size w w3) := below_after (by have := G2.out; have z := this.size; go_grown) hb3
  clear hb3
  go_wp2_with fail
  go_ret
  exact ⟨rfl, G3.out⟩
set_option maxRecDepth 100000 in
set_option maxHeartbeats 8000000 in
theorem rowwholes_good (A A' : Option Addr) (xs ys zs : List Int) (L c L' c' : Nat) (kind tt k2 t : Int) (hL' : L' = zs.length) (hbig : L' * 16 ≤ 140737488355328) (w : World) (h : Is w A xs) (hp : Is w A' zs) (C I C2 I2 : Int) (b1 b2 : Bool)
    (hn : ∀ W, Is W A xs → Calls Try.prog 20 #[.agg #[.slice A L c, .int .i64 kind, .int .i64 tt]] W (GivesRF ys k2 t 0 0 W))
    (hh1 : ∀ W A3 (c3 : Nat), Is W A xs → Fs W A3 (intsP zs) → Calls Try.prog 12 #[.agg #[.slice A L c, .int .i64 kind, .int .i64 tt], .slice A3 L' c3] W (GivesB b1 C I W))
    (hh2 : ∀ W A2 A3 (c2 c3 : Nat), Is W A2 ys → Fs W A3 (intsP zs) → Calls Try.prog 12 #[.agg #[.slice A2 ys.length c2, .int .i64 k2, .int .i64 t], .slice A3 L' c3] W (GivesB b2 C2 I2 W))
    (hk : (k2 != 2) = true) (hout : (C != 0) = true ∨ (C != 0) = false ∧ (C2 == 0) = true ∧ (b1 == b2) = true) :
    Calls Try.prog 7 #[.agg #[.slice A L c, .int .i64 kind, .int .i64 tt], .slice A' L' c'] w fun e w' => e = .returned (.bool true) ∧ Below w.heap.size w w' := by
  have HN := Lib.hid hn
  have HH1 := Lib.hid hh1
  have HH2 := Lib.hid hh2
  have HX := Lib.hid h
  have HP := Lib.hid hp
  have HO := Lib.hid hout
  have HL := Lib.hid hL'
  clear hn hh1 hh2 h hp hout hL'
  go_enter Try.func7, Try.ntmps7
  go_wp2_with fail
  refine (fact_any _).mono ?_
  rintro e w1 ⟨rfl, hb1⟩
  have R1 := (HB.new w 24 #[.slice A L c, .int .i64 kind, .int .i64 tt]).below hb1
  have G1 : Hid (Below w.heap.size w w1) := below_after (by go_grown) hb1
  obtain ⟨u0, u1, u2, _⟩ := HB.row' R1
  have l1 := R1.lt
  have HR1 := Lib.hid R1
  clear hb1 R1
  go_wp2_with fail
  refine (HN.out _ (HX.out.below G1.out)).mono ?_
  rintro e w2 ⟨A2, c2, rfl, hl2, hi2, hb2⟩
  have I2' := Lib.hid hi2
  have LW2 := Lib.hid (hb2.size)
  have R2 := HR1.out.below hb2
  have G2 : Hid (Below w.heap.size w w2) := bw_below (Nat.le_refl _) G1.out hb2
  have l2 := R2.lt
  obtain ⟨v0, v1, v2, _⟩ := HB.row' R2
  have HR2 := Lib.hid R2
  clear hb2 hi2 hl2 R2 u0 u1 u2 HR1
  go_wp2_with fail
  go_loopw [8, 9] (fun v k wr => ∃ (i : Nat) (A1 : Option Addr) (c1 : Nat), i ≤ L' ∧ k = .int .i64 i ∧ v = .slice A1 i c1 ∧ Hid (wr.ownsRow w2.heap.size 27 2 (.slice A1 i c1) i (fracV (fun j => (nth zs j, 1)) i)) ∧ Hid (HB wr w.heap.size 24 #[.slice A L c, .int .i64 kind, .int .i64 tt]) ∧ Hid (HB wr w2.heap.size 24 #[.slice A2 ys.length c2, .int .i64 k2, .int .i64 t]) ∧ Hid (Below w2.heap.size w2 wr)) (fun _ k _ => L' - (intOf k).toNat)
  case atStart => exact ⟨0, none, 0, by omega, rfl, rfl, own_nil2 _ _ _ _, (HR2.out.alloc _).alloc _, (HB.new w2 _ _).alloc _, by show Below _ _ _; go_grown⟩
  case round =>
    obtain ⟨i, A1, c1, hi, rfl, rfl, OW, R4, N4, K4⟩ := hrel
    have G4 : Hid (Below w.heap.size w wr) := bw_below (Nat.le_refl _) G2.out K4.out
    obtain ⟨x0, x1, x2, _⟩ := HB.row' R4.out
    have l4 := R4.out.lt
    have l4' := N4.out.lt
    clear v0 v1 v2
    by_cases hlt : i < L'
    · obtain ⟨bb, o, rfl, hbb, hc⟩ := (HP.out.below G4.out) (by rw [← HL.out]; omega)
      have cx := hc i (by rw [← HL.out]; exact hlt)
      have q1 : (0 : Int) ≤ i := by omega
      have q2 : (i : Int) < L' := by omega
      have q3 : decide (i < L') = true := by simpa using hlt
      clear hc
      by_cases hin : inB (nth zs i) = true
      · have HIN := Lib.hid hin
        clear hin
        go_wp2_with fail
        refine (fits_any _ _).mono ?_
        rintro e w3 ⟨rfl, rfl⟩
        rw [HIN.out]
        go_wp2_with (at_builtin; refine wpl_frac _ rfl _ _ rfl w2.heap.size (.slice A1 i c1) i (fracV (fun j => (nth zs j, 1)) i) rfl (OW.out.alloc _) wr.heap.size (.int .i64 (nth zs i)) (.int .i64 1) rfl (HB.new wr 27 _) rfl rfl (by omega) (by simp; omega) ?_)
        intro g5 cap5 w5 hown5 hkp5 hb5
        have R5 := Lib.hid (hkp5 _ _ _ (by decide) (HB.alloc R4.out (.cells #[.int .i64 (nth zs i), .int .i64 1] 27)))
        have N5 := Lib.hid (hkp5 _ _ _ (by decide) (HB.alloc N4.out (.cells #[.int .i64 (nth zs i), .int .i64 1] 27)))
        have K5 : Hid (Below w2.heap.size w2 w5) := hb5 _ (Below.alloc K4.out K4.out.size _)
        have O5 : Hid (w5.ownsRow w2.heap.size 27 2 (.slice (some ⟨g5, 0, none⟩) (i + 1 : Nat) cap5) (i + 1) (fracV (fun j => (nth zs j, 1)) (i + 1))) := hown5
        clear hown5 hkp5 hb5
        go_wp2
        exact ⟨⟨i + 1, _, _, by omega, by go_num, rfl, O5, R5, N5, K5⟩, by simp [intOf]; omega⟩
      · have hin' : inB (nth zs i) = false := by simpa using hin
        have HIN := Lib.hid hin'
        clear hin hin'
        go_wp2_with fail
        refine (fits_any _ _).mono ?_
        rintro e w3 ⟨rfl, rfl⟩
        rw [HIN.out]
        go_wp2
        go_ret
        exact ⟨rfl, G4.out⟩
    · obtain rfl : i = L' := by omega
      have q3 : decide (i < i) = false := by simp
      have F4 : Hid (Fs wr A1 (intsP zs)) := own_fs OW.out (by rw [intsP_len, HL.out]) (fun j hj => intsP_num zs j (by rw [← HL.out]; exact hj))
      have J4 : Hid (Is wr A2 ys) := (I2'.out.is).below K4.out
      clear hlt OW
      go_wp2_with fail
      refine (HH1.out _ A1 c1 (HX.out.below G4.out) F4.out).mono ?_
      rintro e w5 ⟨rfl, hb5⟩
      have N5 := N4.out.below hb5
      have J5 : Hid (Is w5 A2 ys) := J4.out.below hb5
      have F5 : Hid (Fs w5 A1 (intsP zs)) := F4.out.below hb5
      have G5 : Hid (Below w.heap.size w w5) := bw_below (Nat.le_refl _) G4.out hb5
      have l5 := N5.lt
      obtain ⟨y0, y1, y2, _⟩ := HB.row' N5
      have HN5 := Lib.hid N5
      clear hb5 N5 x0 x1 x2 J4 F4
      go_wp2_with fail
      refine (HH2.out _ A2 A1 c2 c1 (J5.out.below (by go_grown)) (F5.out.below (by go_grown))).mono ?_
      rintro e w6 ⟨rfl, hb6⟩
      have M6 := (HB.new w5 29 #[.int .i64 C, .int .i64 I]).below hb6
      have N6 := (HN5.out.alloc (.cells #[.int .i64 C, .int .i64 I] 29)).below hb6
      have G6 : Hid (Below w.heap.size w w6) := below_after (by have := G5.out; have z := this.size; go_grown) hb6
      have l6 := M6.lt
      have l6' := N6.lt
      obtain ⟨p0, p1, _⟩ := HB.two M6
      obtain ⟨r0, r1, r2, _⟩ := HB.row' N6
      clear hb6 M6 N6 y0 y1 y2 J5 F5
      rcases HO.out with d | ⟨d1, d2, d3⟩
      all_goals
        go_wp2
        go_ret
        exact ⟨rfl, by have := G6.out; have z := this.size; go_grown⟩
theorem rowwholes_any (A A' : Option Addr) (xs zs : List Int) (L c L' c' : Nat) (kind tt : Int) (hL : L = xs.length) (hc : L ≤ c) (hL' : L' = zs.length) (hbig : L' * 16 ≤ 140737488355328) (w : World) (h : Is w A xs) (hp : Is w A' zs) :
    Calls Try.prog 7 #[.agg #[.slice A L c, .int .i64 kind, .int .i64 tt], .slice A' L' c'] w fun e w' => e = .returned (.bool true) ∧ Below w.heap.size w w' := by
  by_cases h0 : whC kind tt xs = 0
  · have h12 : chkC kind tt xs 12 = 0 := by
      unfold whC at h0
      by_cases z : chkC kind tt xs 12 = 0
      · exact z
      · rw [if_neg z] at h0; exact absurd h0 z
    obtain ⟨_, _, hk, _⟩ := whole_chk h12 h0 h12
    have hI : whI kind tt xs = 0 := by unfold whI; rw [if_pos h12]
    have hl2 : L' = (intsP zs).length := by rw [intsP_len]; exact hL'
    refine rowwholes_good A A' xs (whL kind tt xs) zs L c L' c' kind tt (whKk kind tt xs) (whTt kind tt xs) hL' hbig w h hp (atC kind tt xs (intsP zs)) (atI kind tt xs (intsP zs)) (atC (whKk kind tt xs) (whTt kind tt xs) (whL kind tt xs) (intsP zs)) (atI (whKk kind tt xs) (whTt kind tt xs) (whL kind tt xs) (intsP zs)) _ _ ?_
      (fun W A3 c3 h1 h2 => holds_any A A3 xs (intsP zs) L c L' c3 kind tt hL hl2 W h1 h2) (fun W A2 A3 c2 c3 h1 h2 => holds_any A2 A3 (whL kind tt xs) (intsP zs) _ c2 L' c3 (whKk kind tt xs) (whTt kind tt xs) rfl hl2 W h1 h2) ?_ ?_
    · intro W h1
      have := whole_any A xs L c kind tt hL hc W h1
      rwa [h0, hI] at this
    · rcases hk with e | e <;> rw [e] <;> rfl
    · by_cases hC : atC kind tt xs (intsP zs) = 0
      · right
        rw [(whole_at hC h0 h12).1, holds_whole hC h0 h12, hC]
        exact ⟨rfl, rfl, by simp⟩
      · left
        simpa using hC
  · exact rowwholes_bad A A' xs L c L' c' kind tt hL hc w h _ rfl h0
end Go.Proofs.Ytkjollifghmkbaa
