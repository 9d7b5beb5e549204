/-
  The contract of row.Holds.
-/
import Derived.Test.YtkjollifghmkbaaRowG
namespace Go.Proofs.Ytkjollifghmkbaa
open Go.RowKit

theorem splus_one (base K a b u : Nat) (ds : List Int) (A1 A2 A3 A4 : Option Addr) (L1 c1 L2 c2 L3 c3 n4 c4 : Nat) (c : Int) (hK : K ≤ 500) (hds : n4 ≤ 100) (hc1 : -1000000 ≤ c) (hc2 : c ≤ 1000000)
    (w : World) (hb : base ≤ w.heap.size) (h1 : L1 ≤ K) (h2 : L2 ≤ K) (h3 : L3 ≤ K) (r1 : Lg w A1 L1 a) (r2 : Lg w A2 L2 b) (r3 : Lg w A3 L3 u) (ho : w.ownsRow base 3 1 (.slice A4 n4 c4) n4 (ds.map (.int .i64))) :
    Calls Try.prog 35 #[.agg #[.slice A1 L1 c1, .slice A2 L2 c2, .slice A3 L3 c3, .slice A4 n4 c4], .int .i64 c, .agg #[.int .i64 1, .int .i64 1]] w
      (GivesSum base (K + 4) (plusA a u c 1 1) (plusB b u c 1 1) (u * 1) (ds ++ [((1 : Nat) : Int)]) w) :=
  splus_any base K a b u ds A1 A2 A3 A4 L1 c1 L2 c2 L3 c3 n4 c4 c 1 1 hK hds hc1 hc2 (by omega) (by omega) (by omega) w hb h1 h2 h3 r1 r2 r3 ho
/-- How a row's sum and its bound stand. -/
def hcmp (tt : Int) (xs : List Int) (ps : List (Int × Int)) : Int :=
  cmpN (plusA (sA xs ps xs.length).1 (sA xs ps xs.length).2.2 (-tt) 1 1) (plusB (sA xs ps xs.length).2.1 (sA xs ps xs.length).2.2 (-tt) 1 1)
def holdsV (kind tt : Int) (xs : List Int) (ps : List (Int × Int)) : Bool :=
  if kind = 1 then decide (hcmp tt xs ps ≤ 0) else if kind = 2 then decide (hcmp tt xs ps < 0) else hcmp tt xs ps == 0
theorem pt_zero {ps : List (Int × Int)} (h : ptC ps = 0) : ptI ps = 0 ∧ ∀ i, i < ps.length → fvalid (fnum ps i) (fden ps i) = true := by
  unfold ptC at h
  unfold ptI
  by_cases h4 : badF ps < ps.length
  · rw [if_pos h4] at h; cases h
  · rw [if_neg h4]
    refine ⟨rfl, fun i hi => ?_⟩
    have hl : badF ps = ps.length := by have : badF ps ≤ ps.length := List.findIdx_le_length; omega
    unfold badF at hl
    rw [List.findIdx_eq_length] at hl
    have := hl ps[i] (List.getElem_mem hi)
    simpa [fnum, fden, List.getD, hi] using this
theorem at_zero {kind tt : Int} {xs : List Int} {ps : List (Int × Int)} (h : atC kind tt xs ps = 0) : atI kind tt xs ps = 0 ∧ chkC kind tt xs ps.length = 0 ∧ ptC ps = 0 := by
  unfold atC at h
  unfold atI
  by_cases h1 : chkC kind tt xs ps.length = 0
  · rw [if_pos h1] at h ⊢; exact ⟨(pt_zero h).1, h1, h⟩
  · rw [if_neg h1] at h; exact absurd h h1
set_option maxHeartbeats 2000000 in
theorem holds_bad (A A' : Option Addr) (xs : List Int) (ps : List (Int × Int)) (L c L' c' : Nat) (kind tt : Int) (hL : L = xs.length) (hL' : L' = ps.length) (w : World) (h : Is w A xs) (hp : Fs w A' ps) (x y : Int) (hx : atC kind tt xs ps = x) (hy : atI kind tt xs ps = y) (h0 : x ≠ 0) :
    Calls Try.prog 12 #[.agg #[.slice A L c, .int .i64 kind, .int .i64 tt], .slice A' L' c'] w (GivesB false x y w) := by
  have HX := Lib.hid h
  have HP := Lib.hid hp
  have H1 := Lib.hid hx
  have H2 := Lib.hid hy
  have d : (x == 0) = false := by simpa using h0
  have HL := Lib.hid hL
  have HL' := Lib.hid hL'
  clear h hp hx hy h0 hL hL'
  go_enter Try.func12, Try.ntmps12
  go_wp2_with fail
  refine (checkat_any A A' xs ps L c L' c' kind tt HL.out HL'.out _ (HX.out.below (by go_grown)) (HP.out.below (by go_grown))).mono ?_
  rw [H1.out, H2.out]
  rintro e w1 ⟨rfl, hb1⟩
  obtain ⟨hc1, hf1, hl1, hm1⟩ := bfour hb1
  have g1 : Below w.heap.size w w1 := below_after (by go_grown) hb1
  have L2 := lt_two w.heap.size
  go_wp2
  go_region
  go_wp2
  refine bodyPost_ret (v := .tuple #[.bool false, .agg #[.int .i64 x, .int .i64 y]]) (by simp [results, Try.results12, go_sem, hc1, hl1]) rfl ⟨rfl, ?_⟩
  have z := g1.size
  go_grown
theorem HB.three {w : World} {g : Nat} {t : TypeId} {v1 v2 v3 : Value} (h : HB w g t #[v1, v2, v3]) : HB w g t #[v1, v2, v3] ∧ w.cell? ⟨g, 0, none⟩ = some v1 ∧ w.cell? ⟨g, 1, none⟩ = some v2 ∧ w.cell? ⟨g, 2, none⟩ = some v3 := ⟨h, h.cell 0, h.cell 1, h.cell 2⟩
set_option maxRecDepth 100000 in
set_option maxHeartbeats 4000000 in
theorem holds_good (A A' : Option Addr) (xs : List Int) (ps : List (Int × Int)) (L c L' c' : Nat) (kind tt : Int) (hL : L = xs.length) (hL' : L' = ps.length) (w : World) (h : Is w A xs) (hp : Fs w A' ps) (h0 : atC kind tt xs ps = 0) (x : Int) (hx : hcmp tt xs ps = x) (r : Bool) (hr : holdsV kind tt xs ps = r) :
    Calls Try.prog 12 #[.agg #[.slice A L c, .int .i64 kind, .int .i64 tt], .slice A' L' c'] w (GivesB r 0 0 w) := by
  obtain ⟨z0, z1, z2⟩ := at_zero h0
  obtain ⟨_, n0, n12, hk, hle, hbad, hin⟩ := chk_zero z1
  have hall := bad_all hbad
  have hfv := (pt_zero z2).2
  obtain ⟨i1, i2⟩ := inB_iff.1 hin
  have tw : IntKind.i64.wrap (-tt) = -tt := IntWalk.i64_in _ (by omega)
  have c1' : -1000000 ≤ -tt := by omega
  have c2' : -tt ≤ 1000000 := by omega
  have l12 : L ≤ 12 := by omega
  have lle : L ≤ ps.length := by omega
  have HX := Lib.hid h
  have HP := Lib.hid hp
  have H1 := Lib.hid h0
  have H2 := Lib.hid z0
  have HL := Lib.hid hL
  have HL' := Lib.hid hL'
  have HA : Hid (∀ i, i < L → inB (nth xs i) = true) := by rw [hL]; exact hall
  have HF : Hid (∀ i, i < L → fvalid (fnum ps i) (fden ps i) = true) := fun i hi => hfv i (by omega)
  have HLE := Lib.hid lle
  have HCX := Lib.hid hx
  have HR := Lib.hid hr
  clear h hp h0 z0 z1 z2 hL hL' hall hfv hle hbad hin n0 n12 lle hx hr
  go_enter Try.func12, Try.ntmps12
  go_wp2_with fail
  refine (checkat_any A A' xs ps L c L' c' kind tt HL.out HL'.out _ (HX.out.below (by go_grown)) (HP.out.below (by go_grown))).mono ?_
  rw [H1.out, H2.out]
  rintro e w1 ⟨rfl, hb1⟩
  have F0 : HB w1 w.heap.size 24 #[.slice A L c, .int .i64 kind, .int .i64 tt] := HB.below ((HB.new w _ _).alloc _) hb1
  have N0 : HB w1 (w.heap.size + 1) 29 #[.int .i64 0, .int .i64 0] := HB.below (by simpa using HB.new (w.alloc (.cells #[.slice A L c, .int .i64 kind, .int .i64 tt] 24)) 29 #[.int .i64 0, .int .i64 0]) hb1
  have g1 : Below w.heap.size w w1 := below_after (by go_grown) hb1
  have FF := Lib.hid (F0.alloc (.cells #[.int .i64 0, .int .i64 0] 29))
  have NN := Lib.hid (N0.alloc (.cells #[.int .i64 0, .int .i64 0] 29))
  have G1 := Lib.hid g1
  have lz : w.heap.size + 2 ≤ w1.heap.size := by have := N0.lt; omega
  clear hb1 F0 N0 g1
  go_wp2_with fail
  have GW : Hid (Below w.heap.size w ((w1.alloc (.cells #[.int .i64 0, .int .i64 0] 29)).drew)) := (G1.out.alloc (by omega) _).drew
  have FW : Hid (HB ((w1.alloc (.cells #[.int .i64 0, .int .i64 0] 29)).drew) w.heap.size 24 #[.slice A L c, .int .i64 kind, .int .i64 tt]) := FF.out.drew
  have NW : Hid (HB ((w1.alloc (.cells #[.int .i64 0, .int .i64 0] 29)).drew) (w.heap.size + 1) 29 #[.int .i64 0, .int .i64 0]) := NN.out.drew
  obtain ⟨_, f0, f1, f2⟩ := HB.three FF.out
  go_upto_region 5 with fail
  go_cut [7] (fun s7 wx => s7 = .int .i64 x ∧ Hid (HB wx w.heap.size 24 #[.slice A L c, .int .i64 kind, .int .i64 tt]) ∧ Hid (HB wx (w.heap.size + 1) 29 #[.int .i64 0, .int .i64 0]) ∧ w.heap.size + 2 ≤ wx.heap.size ∧ Hid (Below w.heap.size w wx))
  case first =>
    go_region_held3 (fun w' => HB w' w.heap.size 24 #[.slice A L c, .int .i64 kind, .int .i64 tt] ∧ w'.cell? ⟨w.heap.size, 0, none⟩ = some (.slice A L c) ∧ w'.cell? ⟨w.heap.size, 1, none⟩ = some (.int .i64 kind) ∧ w'.cell? ⟨w.heap.size, 2, none⟩ = some (.int .i64 tt))
      ((refine HB.three ?_; first | exact F4.out | exact F3.out | exact F2.out | exact FW.out | exact FF.out))
      (first
        | (go_at_call 33; refine (sumat_any A A' xs ps L c L' c' kind tt HL.out HLE.out l12 HL'.out ((w1.alloc (.cells #[.int .i64 0, .int .i64 0] 29)).drew) (HX.out.below GW.out) (HP.out.below GW.out) HA.out HF.out).mono ?_; rintro e w2 ⟨v2, rfl, ⟨B1, M1, e1, B2, M2, e2, B3, M3, e3, B4, m4, e4, rfl, q1, q2, q3, s1, s2, s3, sn, so⟩, hb2⟩; have SN := Lib.hid sn; have SO := Lib.hid so; have S1 := Lib.hid s1; have S2 := Lib.hid s2; have S3 := Lib.hid s3; clear sn so s1 s2 s3; have F2 := Lib.hid (FW.out.below hb2); have N2 := Lib.hid (NW.out.below hb2); have G2 := Lib.hid (bw_below (Nat.le_refl _) GW.out hb2); have n4' : m4 ≤ 100 := (by rw [SN.out]; simp [densOf]; omega); have HB2 := Lib.hid hb2; clear hb2)
        | (go_at_call 35; refine (splus_one ((w1.alloc (.cells #[.int .i64 0, .int .i64 0] 29)).drew).heap.size (4 * L + 1) (sA xs ps L).1 (sA xs ps L).2.1 (sA xs ps L).2.2 (densOf ps L) B1 B2 B3 B4 M1 e1 M2 e2 M3 e3 m4 e4 (-tt) (by omega) n4' c1' c2' w2 HB2.out.size q1 q2 q3 S1.out S2.out S3.out SO.out).mono ?_; rintro e w3 ⟨v3, rfl, hs3, hb3⟩; obtain ⟨C1, O1, i1', C2, O2, i2', C3, O3, i3', C4, O4, i4', rfl, r3⟩ := hs3; have HS3 := Lib.hid r3; clear r3; have F3 := Lib.hid (show HB w3 _ _ _ from (hb3.block w.heap.size (by simp; omega)).trans F2.out); have N3 := Lib.hid (show HB w3 (w.heap.size + 1) 29 #[.int .i64 0, .int .i64 0] from (hb3.block (w.heap.size + 1) (by simp; omega)).trans N2.out); have G3 := Lib.hid (G2.out.trans (hb3.mono (by simp; omega))); clear hb3)
        | (go_at_call 36; refine (sign_any' ((w1.alloc (.cells #[.int .i64 0, .int .i64 0] 29)).drew).heap.size (4 * L + 1 + 4) _ _ _ _ _ (by omega) w3 ⟨C1, O1, i1', C2, O2, i2', C3, O3, i3', C4, O4, i4', rfl, HS3.out⟩).mono ?_; rintro e w4 ⟨rfl, hb4⟩; have F4 := Lib.hid (F3.out.below hb4); have N4 := Lib.hid (N3.out.below hb4); have G4 := Lib.hid (bw_below (Nat.le_refl _) G3.out hb4); clear hb4))
    all_goals
      go_wp2_with fail
      go_meet
      refine ⟨?_, F4, N4, by have := N4.out.lt; omega, G4⟩
      rw [← HCX.out, hcmp, ← HL.out]
  case rest =>
    obtain ⟨rfl, FX, NX, lx, GX⟩ := hcut
    obtain ⟨_, f0, f1, f2⟩ := HB.three FX.out
    have q1 := NX.out.cell 0
    have q2 := NX.out.cell 1
    have q3 := NX.out.frozen 0
    have q4 := NX.out.frozen 1
    simp at q1 q2
    have l1 : w.heap.size + 1 < wc.heap.size := by omega
    have HR' := HR.out
    rw [holdsV, HCX.out] at HR'
    rcases hk with rfl | rfl | rfl
    · have HRR := Lib.hid HR'
      clear HR'
      go_wp2
      refine bodyPost_ret (v := .tuple #[.bool (decide (x ≤ 0)), .agg #[.int .i64 0, .int .i64 0]]) (by simp [results, Try.results12, go_sem, q1, q2]) rfl ⟨?_, ?_⟩
      · have := HRR.out
        simp at this
        rw [← this]
      · exact bw_far GX.out (by omega) ((far_set wc (w.heap.size + 1) 0 _).trans (far_set _ (w.heap.size + 1) 1 _))
    · have HRR := Lib.hid HR'
      clear HR'
      go_wp2
      refine bodyPost_ret (v := .tuple #[.bool (decide (x < 0)), .agg #[.int .i64 0, .int .i64 0]]) (by simp [results, Try.results12, go_sem, q1, q2]) rfl ⟨?_, ?_⟩
      · have := HRR.out
        simp at this
        rw [← this]
      · exact bw_far GX.out (by omega) ((far_set wc (w.heap.size + 1) 0 _).trans (far_set _ (w.heap.size + 1) 1 _))
    · have HRR := Lib.hid HR'
      clear HR'
      go_wp2
      refine bodyPost_ret (v := .tuple #[.bool (x == 0), .agg #[.int .i64 0, .int .i64 0]]) (by simp [results, Try.results12, go_sem, q1, q2]) rfl ⟨?_, ?_⟩
      · have := HRR.out
        simp at this
        rw [← this]
      · exact bw_far GX.out (by omega) ((far_set wc (w.heap.size + 1) 0 _).trans (far_set _ (w.heap.size + 1) 1 _))
theorem holds_any (A A' : Option Addr) (xs : List Int) (ps : List (Int × Int)) (L c L' c' : Nat) (kind tt : Int) (hL : L = xs.length) (hL' : L' = ps.length) (w : World) (h : Is w A xs) (hp : Fs w A' ps) :
    Calls Try.prog 12 #[.agg #[.slice A L c, .int .i64 kind, .int .i64 tt], .slice A' L' c'] w (GivesB (decide (atC kind tt xs ps = 0) && holdsV kind tt xs ps) (atC kind tt xs ps) (atI kind tt xs ps) w) := by
  by_cases h0 : atC kind tt xs ps = 0
  · have := holds_good A A' xs ps L c L' c' kind tt hL hL' w h hp h0 _ rfl _ rfl
    rw [(at_zero h0).1, h0]
    simpa using this
  · have := holds_bad A A' xs ps L c L' c' kind tt hL hL' w h hp _ _ rfl rfl h0
    have e : decide (atC kind tt xs ps = 0) = false := by simpa using h0
    rw [e]
    simpa using this
end Go.Proofs.Ytkjollifghmkbaa
