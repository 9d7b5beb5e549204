/-
  The reference's SexpParse; the law that compares both.
-/
import Derived.Test.YtgkhkdohlbchoaaSexU
import Derived.Test.YtgkhkdohlbchoaaSexV
namespace Go.Proofs.Ytgkhkdohlbchoaa
open Go.RowKit
theorem refparse_long (s : ByteArray) (hs : 4000 < s.size) (w : World) : Calls Try.prog 18 #[.string s] w (ParseQ w (.bad 2 0)) := by
  have d1 : decide ((4000 : Int) < s.size) = true := by simp; omega
  go_enter Try.func18, Try.ntmps18
  go_wp2_with fail
  refine bodyPost_ret (v := .tuple #[.slice none 0 0, .agg #[.int .i64 2, .int .i64 0]]) (by simp [results, Try.results18, go_sem]) rfl ⟨rfl, by decide, ?_⟩
  go_grown
set_option maxHeartbeats 4000000 in
theorem refparse_run (s : ByteArray) (hs : ¬ 4000 < s.size) (R : Res) (hR : run s 0 [.nil] = R) (w : World) : Calls Try.prog 18 #[.string s] w (ParseQ w R) := by
  have HR := Lib.hid hR
  have t0 : s.size ≤ 4000 := by omega
  have HF := Lib.hid (fun W => from_any (s.size + 1) s 0 0 W (by omega) t0 (by omega) (by omega))
  clear hR hs
  go_enter Try.func18, Try.ntmps18
  go_wp2_with fail
  refine (HF.out _).mono ?_
  rintro e w1 ⟨v, j, c, a, rfl, hb1, hq⟩
  have R1 := Lib.hid ((HB.new w 27 #[.int .i64 0, .int .i64 0]).below hb1)
  have G1 : Hid (Below w.heap.size w w1) := bw_below (Nat.le_refl _) (new_below _ _) hb1
  have l1 := R1.out.lt
  have hsz := hb1.size
  clear hb1
  obtain ⟨r0, r1, r2, r3⟩ := R1.out.two
  rcases hq with ⟨hc0, rfl, a', rfl, hrun⟩ | ⟨rfl, rfl, f, hrw, _, _, _, hgood, _⟩
  · have d1 : (c != 0) = true := by simpa using hc0
    have HC0 := Lib.hid hc0
    have HE := Lib.hid (show R = .bad c a' by rw [← HR.out]; exact hrun [] rfl)
    clear hrun hc0
    go_wp2_with fail
    have HT := Lib.hid (((hb_set2 (n := .int .i64 c) (d := .int .i64 a') R1.out).alloc (.cells #[.int .i64 c, .int .i64 a'] 27)).drew)
    go_region
    all_goals
      go_wp2_with fail
      obtain ⟨y0, y1, _, _⟩ := HT.out.two
      rw [HE.out]
      refine bodyPost_ret (v := .tuple #[.slice none 0 0, .agg #[.int .i64 c, .int .i64 a']]) (by simp [results, Try.results18, go_sem, y0, y1]) rfl ⟨rfl, HC0.out, ?_⟩
      have F := bw_far G1.out (Nat.le_refl _) (far2 w1 w.heap.size (.int .i64 c) (.int .i64 a'))
      exact below_dn (Below.alloc F F.size _) 1
  · have HE := Lib.hid (show R = .good f by rw [← HR.out]; exact hgood rfl)
    obtain ⟨A, cf, hv, hf1, hf2, _⟩ := (hrw.lv [] (by simp)).at
    have HRW := Lib.hid hrw
    have HF1 := Lib.hid hf1
    have HF2 := Lib.hid hf2
    subst hv
    clear hgood hrw hf1 hf2
    go_wp2_with fail
    have HT := Lib.hid (((hb_set2 (n := .int .i64 0) (d := .int .i64 0) R1.out).alloc (.cells #[.int .i64 0, .int .i64 0] 27)).drew)
    go_region
    all_goals
      go_wp2_with fail
      obtain ⟨y0, y1, _, _⟩ := HT.out.two
      rw [HE.out]
      refine bodyPost_ret (v := .tuple #[.slice A f.len cf, .agg #[.int .i64 0, .int .i64 0]]) (by simp [results, Try.results18, go_sem, y0, y1]) rfl ⟨A, cf, rfl, HF1.out, HF2.out, ?_, ?_⟩
      · have k1 : Ke w1 (w1.setCell ⟨w.heap.size, 0, none⟩ (.int .i64 0)) := (Ke.refl w1).cell R1.out (by decide)
        have k2 := (k1.cell (i := 1) (u := .int .i64 0) (R1.out.set_ 0 (.int .i64 0)) (by decide)).alloc (.cells #[.int .i64 0, .int .i64 0] 27)
        obtain ⟨A2, c2, e2, _, _, h3⟩ := ((HRW.out.ke k2).lv [] (by simp)).at
        injection e2 with e2 _ _
        subst e2
        exact At.drewN h3 1
      · have F := bw_far G1.out (Nat.le_refl _) (far2 w1 w.heap.size (.int .i64 0) (.int .i64 0))
        exact below_dn (Below.alloc F F.size _) 1
theorem refparse_any (s : ByteArray) (w : World) : Calls Try.prog 18 #[.string s] w (ParseQ w (parseR s)) := by
  unfold parseR
  by_cases h : 4000 < s.size
  · rw [if_pos h]; exact refparse_long s h w
  · rw [if_neg h]; exact refparse_run s h _ rfl w
/-- What an end has of expressions, and its fault. -/
def Res.fo : Res → Fo
  | .bad _ _ => .nil
  | .good f => f
def Res.code : Res → Int
  | .bad c _ => c
  | .good _ => 0
def Res.pos : Res → Int
  | .bad _ a => a
  | .good _ => 0
theorem ParseQ.all {w w' : World} {R : Res} {e : Ending} (h : ParseQ w R e w') : ∃ A cp, e = .returned (.tuple #[.slice A R.fo.len cp, .agg #[.int .i64 R.code, .int .i64 R.pos]]) ∧ R.fo.len ≤ cp ∧ cp ≤ maxLen ∧ R.fo.At w' A ∧ Below w.heap.size w w' := by
  cases R with
  | bad c a => exact ⟨none, 0, h.1, Nat.le_refl _, by unfold maxLen; omega, fun z => absurd z (by simp [Res.fo, Fo.len]), h.2.2⟩
  | good f => exact h
set_option maxHeartbeats 4000000 in
theorem parsesays_any (s : ByteArray) (w : World) : Calls Try.prog 8 #[.string s] w fun e w' => e = .returned (.bool true) ∧ Below w.heap.size w w' := by
  have H1 := Lib.hid (fun W => parse_any s W)
  have H2 := Lib.hid (fun W => refparse_any s W)
  generalize parseR s = R at *
  go_enter Try.func8, Try.ntmps8
  go_wp2_with fail
  refine (H1.out _).mono ?_
  intro e w1 hq
  obtain ⟨A, cp, rfl, hl1, hl2, hA, hb1⟩ := hq.all
  have G1 := Lib.hid hb1
  have HA := Lib.hid hA
  have HL := Lib.hid (Nat.le_trans hl1 hl2)
  clear hq hb1 hA hl1 hl2
  generalize hC : R.code = c at *
  generalize hI : R.pos = i at *
  go_wp2_with fail
  have N1 := Lib.hid (HB.new w1 27 #[.int .i64 c, .int .i64 i])
  have GA : Hid (Below w.heap.size w (w1.alloc (.cells #[.int .i64 c, .int .i64 i] 27))) := Lib.hid (Below.alloc G1.out G1.out.size _)
  refine (H2.out _).mono ?_
  intro e w2 hq
  obtain ⟨A2, cp2, rfl, _, _, hA2, hb2⟩ := hq.all
  have N2 := Lib.hid (N1.out.below hb2)
  have G2 : Hid (Below w.heap.size w w2) := bw_below (Nat.le_refl _) GA.out hb2
  have HB1 := Lib.hid ((HA.out.below (new_below w1 (.cells #[.int .i64 c, .int .i64 i] 27))).below hb2)
  have HB2 := Lib.hid hA2
  have l2 := N2.out.lt
  clear hq hb2 hA2
  rw [hC, hI]
  clear hC hI
  go_wp2_with fail
  have HS := Lib.hid (same_any (R.fo.size + 1) R.fo A A2 cp cp2 (w2.alloc (.cells #[.int .i64 c, .int .i64 i] 27)) (by omega) HL.out (HB1.out.below (new_below _ _)) (HB2.out.below (new_below _ _)))
  have N3 := Lib.hid (N2.out.alloc (.cells #[.int .i64 c, .int .i64 i] 27))
  have N4 := Lib.hid (HB.new w2 27 #[.int .i64 c, .int .i64 i])
  have G3 : Hid (Below w.heap.size w (w2.alloc (.cells #[.int .i64 c, .int .i64 i] 27))) := Lib.hid (Below.alloc G2.out G2.out.size _)
  refine HS.out.mono ?_
  rintro e w3 ⟨rfl, m, rfl⟩
  obtain ⟨r0, r1, _, _⟩ := (N3.out.drewN m).two
  obtain ⟨q0, q1, _, _⟩ := (N4.out.drewN m).two
  go_wp2_with fail
  go_ret
  exact ⟨by simp, below_dn G3.out m⟩
end Go.Proofs.Ytgkhkdohlbchoaa
