/-
  The contract of row.upright.
-/
import Derived.Test.YtkjollifghmkbaaRowI
import Derived.Test.YtkjollifghmkbaaRowM
namespace Go.Proofs.Ytkjollifghmkbaa
open Go.RowKit

/-- The way in which a call that makes a row out of one in new memory ends. -/
def GivesU (base : Nat) (ys : List Int) (kind tt : Int) (w : World) (e : Ending) (w' : World) : Prop := ∃ A c, e = .returned (.agg #[.slice A ys.length c, .int .i64 kind, .int .i64 tt]) ∧ ys.length ≤ c ∧ Isb base w' A ys ∧ Below w.heap.size w w'
theorem drop_nth {ys : List Int} {i : Nat} (h : i < ys.length) : ys.drop i = nth ys i :: ys.drop (i + 1) := by
  rw [List.drop_eq_getElem_cons h]
  simp [nth, List.getD, h]
set_option maxRecDepth 100000 in
set_option maxHeartbeats 4000000 in
theorem upright_same (base : Nat) (A : Option Addr) (ys : List Int) (L c : Nat) (kind tt : Int) (hL : L = ys.length) (hc : L ≤ c) (hk : kind ≠ 3) (w : World) (h : Isb base w A ys) :
    Calls Try.prog 45 #[.agg #[.slice A L c, .int .i64 kind, .int .i64 tt]] w (GivesU base ys kind tt w) := by
  have d : (kind != 3) = true := by simpa using hk
  have HX := Lib.hid h
  have HL := Lib.hid hL
  clear h hL hk
  go_enter Try.func45, Try.ntmps45
  go_wp2
  refine bodyPost_ret (v := .agg #[.slice A L c, .int .i64 kind, .int .i64 tt]) (by simp [results, Try.results45, go_sem]) rfl ⟨A, c, by rw [HL.out], by rw [← HL.out]; exact hc, HX.out.below (by go_grown), by go_grown⟩
set_option maxRecDepth 100000 in
set_option maxHeartbeats 4000000 in
theorem upright_three (base : Nat) (A : Option Addr) (ys : List Int) (L c : Nat) (tt : Int) (hL : L = ys.length) (h12 : L ≤ 12) (hc : L ≤ c) (hx : ∀ i, i < L → inB (nth ys i) = true) (ht : inB tt = true) (w : World) (hb : base ≤ w.heap.size) (h : Isb base w A ys) :
    Calls Try.prog 45 #[.agg #[.slice A L c, .int .i64 3, .int .i64 tt]] w (GivesU base (upL 3 ys) 3 (upT 3 ys tt) w) := by
  have HX := Lib.hid h
  have HL := Lib.hid hL
  have HI := Lib.hid hx
  have HT := Lib.hid ht
  clear h hL hx ht
  go_enter Try.func45, Try.ntmps45
  go_wp2
  go_loop [12] (fun k => ∃ i : Nat, i ≤ L ∧ k = .int .i64 i ∧ Hid (upN ys = upN (ys.drop i))) (fun k => L - (intOf k).toNat)
  case atStart => exact ⟨0, by omega, rfl, rfl⟩
  case round =>
    obtain ⟨i, hi, rfl, HU⟩ := hrel
    by_cases hlt : i < L
    · have hd := drop_nth (ys := ys) (i := i) (by rw [← HL.out]; exact hlt)
      have HD := Lib.hid hd
      clear hd
      obtain ⟨b, o, rfl, _, hb', hc'⟩ := HX.out (by rw [← HL.out]; omega)
      have cx := hc' i (by rw [← HL.out]; exact hlt)
      have t1 : (0 : Int) ≤ i := by omega
      have t2 : (i : Int) < L := by omega
      have t3 : decide (i < L) = true := by simpa using hlt
      clear hc'
      by_cases h1 : 0 < nth ys i
      · have d1 : decide (0 < nth ys i) = true := by simpa using h1
        have hu : upN ys = false := by rw [HU.out, HD.out, upN, if_pos h1]
        obtain ⟨s1, s2⟩ := up_same 3 ys tt (by rw [hu]; simp)
        have S1 := Lib.hid s1
        have S2 := Lib.hid s2
        clear h1 hu s1 s2
        go_wp2
        refine bodyPost_ret (v := .agg #[.slice (some ⟨b, o, none⟩) L c, .int .i64 3, .int .i64 tt]) (by simp [results, Try.results45, go_sem]) rfl ⟨_, c, by rw [S1.out, S2.out, HL.out], by rw [S1.out, ← HL.out]; exact hc, ?_, by go_grown⟩
        rw [S1.out]
        exact HX.out.below (by go_grown)
      · have d1 : decide (0 < nth ys i) = false := by simpa using h1
        by_cases h2 : nth ys i < 0
        · have d2 : decide (nth ys i < 0) = true := by simpa using h2
          have hu : upN ys = true := by rw [HU.out, HD.out, upN, if_neg h1, if_pos h2]
          have s1 : upL 3 ys = negL ys := by unfold upL; rw [if_pos ⟨rfl, hu⟩]
          have s2 : upT 3 ys tt = -tt := by unfold upT; rw [if_pos ⟨rfl, hu⟩]
          have S1 := Lib.hid s1
          have S2 := Lib.hid s2
          clear h1 h2 hu s1 s2
          go_wp2_with fail
          refine (negated_any (some ⟨b, o, none⟩) ys L c 3 tt HL.out h12 HI.out HT.out _ (HX.out.is.below (by go_grown))).mono ?_
          rintro e w2 ⟨A2, c2, rfl, hl2, hi2, hb2⟩
          have N2 := (HB.new1 w (.cells #[.slice (some ⟨b, o, none⟩) L c, .int .i64 3, .int .i64 tt] 24) 24 #[.slice none 0 0, .int .i64 0, .int .i64 0]).below hb2
          have G2 := Lib.hid (below_after (show Below w.heap.size w _ by go_grown) hb2)
          have H2 := Lib.hid hi2
          have L2 := Lib.hid hl2
          have lt2 := N2.lt
          obtain ⟨y0, y1, y2, y3, y4, y5⟩ := HB.row' N2
          clear hi2 hb2 hl2 N2
          go_wp2
          have x1 := ((far_set w2 (w.heap.size + 1) 0 (.slice A2 (negL ys).length c2)).trans (far_set _ (w.heap.size + 1) 1 (.int .i64 3))).trans (far_set _ (w.heap.size + 1) 2 (.int .i64 (-tt)))
          refine bodyPost_ret (v := .agg #[.slice A2 (negL ys).length c2, .int .i64 3, .int .i64 (-tt)]) (by simp [results, Try.results45, go_sem, y0, y1, y2]) rfl ⟨A2, c2, by rw [S1.out, S2.out], by rw [S1.out]; exact L2.out, ?_, bw_far (g := w.heap.size + 1) G2.out (by omega) x1⟩
          rw [S1.out]
          exact (H2.out.far_ (g := w.heap.size + 1) (by simp) x1).mono (by simp; omega)
        · have d2 : decide (nth ys i < 0) = false := by simpa using h2
          have hu : upN ys = upN (ys.drop (i + 1)) := by rw [HU.out, HD.out]; conv => lhs; rw [upN, if_neg h1, if_neg h2]
          have HU' := Lib.hid hu
          clear h1 h2 hu
          go_wp2
          go_round
          case rel => exact ⟨i + 1, by omega, by go_num, HU'⟩
          case measure => simp [intOf]; omega
    · obtain rfl : i = L := by omega
      have t3 : decide (i < i) = false := by simp
      have hu : upN ys = false := by rw [HU.out, HL.out, List.drop_length]; rfl
      obtain ⟨s1, s2⟩ := up_same 3 ys tt (by rw [hu]; simp)
      have S1 := Lib.hid s1
      have S2 := Lib.hid s2
      clear hu s1 s2 hlt
      go_wp2
      refine bodyPost_ret (v := .agg #[.slice A i c, .int .i64 3, .int .i64 tt]) (by simp [results, Try.results45, go_sem]) rfl ⟨_, c, by rw [S1.out, S2.out, HL.out], by rw [S1.out, ← HL.out]; exact hc, ?_, by go_grown⟩
      rw [S1.out]
      exact HX.out.below (by go_grown)
theorem upright_any (base : Nat) (A : Option Addr) (ys : List Int) (L c : Nat) (kind tt : Int) (hL : L = ys.length) (h12 : L ≤ 12) (hc : L ≤ c) (hx : ∀ i, i < L → inB (nth ys i) = true) (ht : inB tt = true) (w : World) (hb : base ≤ w.heap.size) (h : Isb base w A ys) :
    Calls Try.prog 45 #[.agg #[.slice A L c, .int .i64 kind, .int .i64 tt]] w (GivesU base (upL kind ys) kind (upT kind ys tt) w) := by
  by_cases hk : kind = 3
  · subst hk
    exact upright_three base A ys L c tt hL h12 hc hx ht w hb h
  · obtain ⟨s1, s2⟩ := up_same kind ys tt (fun z => hk z.1)
    rw [s1, s2]
    exact upright_same base A ys L c kind tt hL hc hk w h
end Go.Proofs.Ytkjollifghmkbaa
