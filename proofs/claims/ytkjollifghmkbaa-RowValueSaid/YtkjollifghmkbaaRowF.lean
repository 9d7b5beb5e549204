/-
  The contract of row's checkAt.
-/
import Derived.Test.YtkjollifghmkbaaRowE
namespace Go.Proofs.Ytkjollifghmkbaa
open Go.RowKit

def fnum (ps : List (Int × Int)) (i : Nat) : Int := (ps.getD i (0, 0)).1
def fden (ps : List (Int × Int)) (i : Nat) : Int := (ps.getD i (0, 0)).2
/-- A slice of fractions that reads as a list. -/
def Fs (w : World) (A : Option Addr) (ps : List (Int × Int)) : Prop := 0 < ps.length → ∃ b o, A = some ⟨b, o, none⟩ ∧ b < w.heap.size ∧ ∀ k, k < ps.length → w.cell? ⟨b, o + k * 2, none⟩ = some (.int .i64 (fnum ps k)) ∧ w.cell? ⟨b, o + k * 2 + 1, none⟩ = some (.int .i64 (fden ps k))
theorem Fs.below {w w' : World} {A : Option Addr} {ps : List (Int × Int)} (h : Fs w A ps) (hb : Below w.heap.size w w') : Fs w' A ps := fun z => by
  obtain ⟨b, o, e, l, f⟩ := h z
  exact ⟨b, o, e, Nat.lt_of_lt_of_le l hb.size, fun k hk => ⟨(hb.cell (p := ⟨b, o + k * 2, none⟩) l).trans (f k hk).1, (hb.cell (p := ⟨b, o + k * 2 + 1, none⟩) l).trans (f k hk).2⟩⟩
theorem Fs.drew {w : World} {A : Option Addr} {ps : List (Int × Int)} (h : Fs w A ps) : Fs w.drew A ps := h
/-- The place of the first fraction that is none. -/
def badF (ps : List (Int × Int)) : Nat := ps.findIdx (fun p => !fvalid p.1 p.2)
theorem badF_here {ps : List (Int × Int)} {i : Nat} (hi : i < ps.length) (h : ∀ j, j < i → fvalid (fnum ps j) (fden ps j) = true) (hb : fvalid (fnum ps i) (fden ps i) = false) : badF ps = i := by
  unfold badF
  rw [List.findIdx_eq hi]
  refine ⟨by simpa [fnum, fden, List.getD, hi] using hb, fun j hj => ?_⟩
  have := h j hj
  simpa [fnum, fden, List.getD, show j < ps.length by omega] using this
theorem badF_none {ps : List (Int × Int)} (h : ∀ j, j < ps.length → fvalid (fnum ps j) (fden ps j) = true) : badF ps = ps.length := by
  unfold badF
  rw [List.findIdx_eq_length]
  intro x hx
  obtain ⟨j, hj, rfl⟩ := List.getElem_of_mem hx
  have := h j hj
  simpa [fnum, fden, List.getD, hj] using this
theorem chk_zero {kind tt n : Int} {xs : List Int} (h : chkC kind tt xs n = 0) : chkI kind tt xs n = 0 ∧ 0 ≤ n ∧ n ≤ 12 ∧ (kind = 1 ∨ kind = 2 ∨ kind = 3) ∧ (xs.length : Int) ≤ n ∧ badAt xs = xs.length ∧ inB tt = true := by
  unfold chkC at h
  unfold chkI
  by_cases h1 : n < 0 ∨ 12 < n
  · rw [if_pos h1] at h; cases h
  · rw [if_neg h1] at h ⊢
    by_cases h2 : kind = 1 ∨ kind = 2 ∨ kind = 3
    · rw [if_neg (show ¬ ¬ (kind = 1 ∨ kind = 2 ∨ kind = 3) from fun k => k h2)] at h ⊢
      by_cases h3 : n < xs.length
      · rw [if_pos h3] at h; cases h
      · rw [if_neg h3] at h ⊢
        unfold inC at h
        unfold inI
        by_cases h4 : badAt xs < xs.length
        · rw [if_pos h4] at h; cases h
        · rw [if_neg h4] at h ⊢
          by_cases h5 : inB tt = true
          · rw [if_pos h5]
            have := badAt_le xs
            exact ⟨rfl, by omega, by omega, h2, by omega, by omega, h5⟩
          · rw [if_neg h5] at h; cases h
    · rw [if_pos h2] at h; cases h
theorem bad_all {xs : List Int} (h : badAt xs = xs.length) : ∀ i, i < xs.length → inB (nth xs i) = true := by
  intro i hi
  unfold badAt at h
  rw [List.findIdx_eq_length] at h
  have := h xs[i] (List.getElem_mem hi)
  simpa [nth, List.getD, hi] using this
def ptC (ps : List (Int × Int)) : Int := if badF ps < ps.length then 5 else 0
def ptI (ps : List (Int × Int)) : Int := if badF ps < ps.length then badF ps else 0
def atC (kind tt : Int) (xs : List Int) (ps : List (Int × Int)) : Int := if chkC kind tt xs ps.length = 0 then ptC ps else chkC kind tt xs ps.length
def atI (kind tt : Int) (xs : List Int) (ps : List (Int × Int)) : Int := if chkC kind tt xs ps.length = 0 then ptI ps else chkI kind tt xs ps.length
set_option maxHeartbeats 2000000 in
theorem checkat_bad (A A' : Option Addr) (xs : List Int) (ps : List (Int × Int)) (L c L' c' : Nat) (kind tt : Int) (hL : L = xs.length) (hL' : L' = ps.length) (w : World) (h : Is w A xs) (x y : Int) (hx : chkC kind tt xs ps.length = x) (hy : chkI kind tt xs ps.length = y) (h0 : x ≠ 0) :
    Calls Try.prog 32 #[.agg #[.slice A L c, .int .i64 kind, .int .i64 tt], .slice A' L' c'] w (GivesF x y w) := by
  have HX := Lib.hid h
  have H1 := Lib.hid hx
  have H2 := Lib.hid hy
  have HL' := Lib.hid (show (L' : Int) = ps.length by rw [hL'])
  have d : (x == 0) = false := by simpa using h0
  have HL := Lib.hid hL
  clear h hx hy h0 hL hL'
  go_enter Try.func32, Try.ntmps32
  go_wp2_with fail
  rw [HL'.out]
  refine (check_any A xs L c kind tt ps.length HL.out _ (HX.out.below (by go_grown))).mono ?_
  rw [H1.out, H2.out]
  rintro e w1 ⟨rfl, hb1⟩
  obtain ⟨hc1, hf1, hl1, hm1⟩ := bfour hb1
  have g1 : Below w.heap.size w w1 := below_after (by go_grown) hb1
  have L2 := lt_two w.heap.size
  go_wp2
  refine bodyPost_ret (v := .agg #[.int .i64 x, .int .i64 y]) (by simp [results, Try.results32, go_sem, hc1, hl1]) rfl ⟨rfl, ?_⟩
  have z := g1.size
  go_grown
set_option maxHeartbeats 2000000 in
theorem checkat_good (A A' : Option Addr) (xs : List Int) (ps : List (Int × Int)) (L c L' c' : Nat) (kind tt : Int) (hL : L = xs.length) (hL' : L' = ps.length) (w : World) (h : Is w A xs) (hp : Fs w A' ps) (h0 : chkC kind tt xs ps.length = 0) :
    Calls Try.prog 32 #[.agg #[.slice A L c, .int .i64 kind, .int .i64 tt], .slice A' L' c'] w (GivesF (ptC ps) (ptI ps) w) := by
  obtain ⟨hi, n0, n12, _⟩ := chk_zero h0
  have HX := Lib.hid h
  have HP := Lib.hid hp
  have H1 := Lib.hid h0
  have H2 := Lib.hid hi
  have L12 : L' ≤ 12 := by omega
  have HL' := Lib.hid hL'
  have HL := Lib.hid hL
  clear h hp h0 hi hL hL' n0 n12
  go_enter Try.func32, Try.ntmps32
  go_wp2_with fail
  rw [HL'.out]
  refine (check_any A xs L c kind tt ps.length HL.out _ (HX.out.below (by go_grown))).mono ?_
  rw [H1.out, H2.out, ← HL'.out]
  rintro e w1 ⟨rfl, hb1⟩
  obtain ⟨hc1, hf1, hl1, hm1⟩ := bfour hb1
  have g1 : Below w.heap.size w w1 := below_after (by go_grown) hb1
  have L2 := lt_two w.heap.size
  have F0 : HB w1 (w.heap.size + 1) 29 #[.int .i64 0, .int .i64 0] := HB.below (by simpa using HB.new (w.alloc (.cells #[.slice A L c, .int .i64 kind, .int .i64 tt] 24)) 29 #[.int .i64 0, .int .i64 0]) hb1
  have HF0 := Lib.hid F0
  have lz : w.heap.size + 2 ≤ w1.heap.size := by have := F0.lt; omega
  have HG := Lib.hid g1
  clear F0 g1
  go_wp2
  clear hc1 hf1 hl1 hm1 L2 hb1
  go_loopw [18] (fun k wr => ∃ i : Nat, i ≤ L' ∧ k = .int .i64 i ∧ Hid (∀ j, j < i → fvalid (fnum ps j) (fden ps j) = true) ∧ Hid (HB wr (w.heap.size + 1) 29 #[.int .i64 0, .int .i64 0]) ∧ w.heap.size + 2 ≤ wr.heap.size ∧ Below w.heap.size w wr) (fun k _ => L' - (intOf k).toNat)
  case atStart => exact ⟨0, by omega, rfl, fun j hj => by omega, HF0.out.alloc _, by simp; omega, HG.out.alloc (by omega) _⟩
  case round =>
    obtain ⟨i, hi, rfl, HI, HF, lr, hbr⟩ := hrel
    by_cases hlt : i < L'
    · obtain ⟨b, o, rfl, hb, hc⟩ := (HP.out.below hbr) (by rw [← HL'.out]; omega)
      obtain ⟨cx, cy⟩ := hc i (by rw [← HL'.out]; exact hlt)
      have t1 : (0 : Int) ≤ i := by omega
      have t2 : (i : Int) < L' := by omega
      have t3 : decide (i < L') = true := by simpa using hlt
      have HB1 := Lib.hid hbr
      clear hc hbr
      by_cases hv : fvalid (fnum ps i) (fden ps i) = true
      · have HV := Lib.hid hv
        clear hv
        go_wp2_with fail
        refine (check_yes _ _ _ HV.out).mono ?_
        rintro e w2 ⟨rfl, hb2⟩
        have F2 := Lib.hid ((HF.out.alloc _).below hb2)
        have g2 := Lib.hid (bw_below (Nat.le_refl _) (HB1.out.alloc (by omega) _) hb2)
        have l2 : w.heap.size + 2 ≤ w2.heap.size := by have := F2.out.lt; omega
        clear hb2
        go_wp2
        go_roundw
        case rel => exact ⟨i + 1, by omega, by go_num, fun j hj => by
          rcases Nat.lt_or_ge j i with z | z
          · exact HI.out j z
          · obtain rfl : j = i := by omega
            exact HV.out, F2, l2, g2.out⟩
        case measure => simp [intOf]; omega
      · have HV := Lib.hid (by simpa using hv : fvalid (fnum ps i) (fden ps i) = false)
        have hbad := badF_here (by rw [← HL'.out]; exact hlt) HI.out HV.out
        have HE1 : Hid (ptC ps = 5) := by show _ = _; unfold ptC; rw [hbad, if_pos (by rw [← HL'.out]; exact hlt)]
        have HE2 : Hid (ptI ps = i) := by show _ = _; unfold ptI; rw [hbad, if_pos (by rw [← HL'.out]; exact hlt)]
        clear hv hbad
        go_wp2_with fail
        refine (check_no _ _ _ HV.out).mono ?_
        rintro e w2 ⟨rfl, hb2⟩
        have F2 := (HF.out.alloc (.cells #[.int .i64 (fnum ps i), .int .i64 (fden ps i)] 27)).below hb2
        have g2 := Lib.hid (bw_below (Nat.le_refl _) (HB1.out.alloc (by omega) _) hb2)
        have l2 : w.heap.size + 1 < w2.heap.size := F2.lt
        have q1 := F2.cell 0
        have q2 := F2.cell 1
        have q3 := F2.frozen 0
        have q4 := F2.frozen 1
        simp at q1 q2
        clear hb2 F2
        go_wp2
        refine bodyPost_ret (v := .agg #[.int .i64 5, .int .i64 i]) (by simp [results, Try.results32, go_sem, q1, q2]) rfl ⟨by rw [HE1.out, HE2.out], ?_⟩
        exact (g2.out.setCell (by simp) _).setCell (by simp) _
    · obtain rfl : i = L' := by omega
      have hbad := badF_none (ps := ps) (by rw [← HL'.out]; exact HI.out)
      have HE1 : Hid (ptC ps = 0) := by show _ = _; unfold ptC; rw [hbad, if_neg (by omega)]
      have HE2 : Hid (ptI ps = 0) := by show _ = _; unfold ptI; rw [hbad, if_neg (by omega)]
      have t3 : decide (i < i) = false := by simp
      have l2 : w.heap.size + 1 < wr.heap.size := by omega
      have q1 := HF.out.cell 0
      have q2 := HF.out.cell 1
      have q3 := HF.out.frozen 0
      have q4 := HF.out.frozen 1
      simp at q1 q2
      clear hbad hlt
      go_wp2
      refine bodyPost_ret (v := .agg #[.int .i64 0, .int .i64 0]) (by simp [results, Try.results32, go_sem, q1, q2]) rfl ⟨by rw [HE1.out, HE2.out], ?_⟩
      exact (hbr.setCell (by simp) _).setCell (by simp) _
theorem checkat_any (A A' : Option Addr) (xs : List Int) (ps : List (Int × Int)) (L c L' c' : Nat) (kind tt : Int) (hL : L = xs.length) (hL' : L' = ps.length) (w : World) (h : Is w A xs) (hp : Fs w A' ps) :
    Calls Try.prog 32 #[.agg #[.slice A L c, .int .i64 kind, .int .i64 tt], .slice A' L' c'] w (GivesF (atC kind tt xs ps) (atI kind tt xs ps) w) := by
  unfold atC atI
  by_cases h0 : chkC kind tt xs ps.length = 0
  · rw [if_pos h0, if_pos h0]; exact checkat_good A A' xs ps L c L' c' kind tt hL hL' w h hp h0
  · rw [if_neg h0, if_neg h0]; exact checkat_bad A A' xs ps L c L' c' kind tt hL hL' w h _ _ rfl rfl h0
end Go.Proofs.Ytkjollifghmkbaa
