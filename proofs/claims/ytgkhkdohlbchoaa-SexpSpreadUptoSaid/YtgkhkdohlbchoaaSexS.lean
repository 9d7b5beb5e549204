/-
  sexp.Parse.
-/
import Derived.Test.YtgkhkdohlbchoaaSexR
namespace Go.Proofs.Ytgkhkdohlbchoaa
open Go.RowKit
/-- How a reading ends, as a call's results. -/
def ParseQ (w : World) (R : Res) (e : Ending) (w' : World) : Prop :=
  match R with
  | .bad c a => e = .returned (.tuple #[.slice none 0 0, .agg #[.int .i64 c, .int .i64 a]]) ∧ c ≠ 0 ∧ Below w.heap.size w w'
  | .good f => ∃ A cp, e = .returned (.tuple #[.slice A f.len cp, .agg #[.int .i64 0, .int .i64 0]]) ∧ f.len ≤ cp ∧ cp ≤ maxLen ∧ f.At w' A ∧ Below w.heap.size w w'
def parseR (s : ByteArray) : Res := if 4000 < s.size then .bad 2 0 else run s 0 [.nil]
/-- The place in the reader's memory. -/
def atOf (p : Nat) (w : World) : Nat := (intOf ((w.cell? ⟨p, 1, none⟩).getD undef)).toNat
theorem PS.atOf {w : World} {B p i : Nat} {s : ByteArray} {st : List Fo} (h : PS w B p s i st) : atOf p w = i := by
  obtain ⟨_, _, _, hb⟩ := h.cell
  unfold Ytgkhkdohlbchoaa.atOf
  rw [hb.three.2.1]
  simp [intOf]
theorem HB.intoS {B g : Nat} {t : TypeId} {cs : Array Value} {w w' : World} (h : HB w g t cs) (k : Below B w w') (hg : g < B) : HB w' g t cs := (k.block g hg).trans h
theorem parse_long (s : ByteArray) (hs : 4000 < s.size) (w : World) : Calls Try.prog 12 #[.string s] w (ParseQ w (.bad 2 0)) := by
  have d1 : decide ((4000 : Int) < s.size) = true := by simp; omega
  go_enter Try.func12, Try.ntmps12
  go_wp2_with fail
  refine bodyPost_ret (v := .tuple #[.slice none 0 0, .agg #[.int .i64 2, .int .i64 0]]) (by simp [results, Try.results12, go_sem]) rfl ⟨rfl, by decide, ?_⟩
  go_grown
set_option maxHeartbeats 4000000 in
theorem parse_run (s : ByteArray) (hs : ¬ 4000 < s.size) (R : Res) (hR : run s 0 [.nil] = R) (w : World) : Calls Try.prog 12 #[.string s] w (ParseQ w R) := by
  have HR := Lib.hid hR
  have t0 : s.size ≤ 4000 := by omega
  clear hR hs
  go_enter Try.func12, Try.ntmps12
  go_wp2_with fail
  have HX : Hid (PS (((w.alloc (.cells #[.int .i64 0, .int .i64 0] 27)).alloc (.cells #[.slice none 0 0] 23)).alloc (.cells #[.string s, .int .i64 0, .slice (some ⟨w.heap.size + 1, 0, none⟩) 1 1] 55)) (w.heap.size + 1) (w.heap.size + 1 + 1) s 0 [.nil]) := by
    refine Lib.hid ⟨w.heap.size + 1, 1, [.slice none 0 0], by omega, HB.new2 _ _ _ _ _, ⟨by simp, .inr ⟨w.heap.size + 1, 1, _, rfl, Nat.le_refl _, (HB.new1 w _ 23 #[.slice none 0 0]).alloc _, Nat.le_refl _, by unfold maxLen; omega, by simp, by simp⟩⟩, List.nodup_nil, ⟨⟨[], own_nil _ _ _ _, trivial⟩, trivial⟩⟩
  have HR0 := Lib.hid (((HB.new w 27 #[.int .i64 0, .int .i64 0]).alloc (.cells #[.slice none 0 0] 23)).alloc (.cells #[.string s, .int .i64 0, .slice (some ⟨w.heap.size + 1, 0, none⟩) 1 1] 55))
  have HG0 : Hid (Below w.heap.size w (((w.alloc (.cells #[.int .i64 0, .int .i64 0] 27)).alloc (.cells #[.slice none 0 0] 23)).alloc (.cells #[.string s, .int .i64 0, .slice (some ⟨w.heap.size + 1, 0, none⟩) 1 1] 55))) := by
    refine Lib.hid ?_
    go_grown
  go_loopw [5] (fun _ wr => ∃ i st, i ≤ s.size ∧ Hid (PS wr (w.heap.size + 1) (w.heap.size + 1 + 1) s i st) ∧ Hid (Fit i st) ∧ Hid (run s i st = R) ∧ Hid (HB wr w.heap.size 27 #[.int .i64 0, .int .i64 0]) ∧ Hid (Below w.heap.size w wr)) (fun _ wr => s.size - atOf (w.heap.size + 1 + 1) wr)
  case atStart => exact ⟨0, [.nil], by omega, HX.out, ⟨by simp, by simp, by simp [Fo.len]⟩, HR.out, HR0.out, HG0.out⟩
  case round =>
    obtain ⟨i, st, hi, HP, HF, HRR, HR1, HG1⟩ := hrel
    clear HX HR0 HG0
    obtain ⟨go, cap, hB, hb⟩ := HP.out.cell
    obtain ⟨c0, c1, c2, _⟩ := hb.three
    clear hb
    by_cases hlt : i < s.size
    · have HS := Lib.hid (step_any HP.out hlt t0 HF.out)
      have hnx : Hid (∀ j st', stepR s i st = .ok (j, st') → run s j st' = R) := Lib.hid (fun j st' h => by rw [← HRR.out]; exact (run_step hlt h).symm)
      have hbd : Hid (∀ c, stepR s i st = .error c → R = .bad c i) := Lib.hid (fun c h => by rw [← HRR.out]; exact run_bad hlt h)
      have hat : Hid (atOf (w.heap.size + 1 + 1) wr = i) := HP.out.atOf
      generalize st.length = n at *
      generalize stepR s i st = r at *
      go_wp2_with fail
      refine HS.out.mono ?_
      intro e w1 hq
      cases r with
      | error c =>
        obtain ⟨rfl, hc0, hps, hb1⟩ := hq
        obtain ⟨go1, cap1, _, hbb⟩ := hps.cell
        clear c0 c1 c2
        obtain ⟨c0, c1, c2, _⟩ := hbb.three
        have d1 : (c != 0) = true := by simpa using hc0
        have HC0 := Lib.hid hc0
        have l1 := hbb.lt
        have R1 := Lib.hid (HR1.out.intoS hb1 (by omega))
        obtain ⟨r0, r1, r2, r3⟩ := R1.out.two
        have G1 : Hid (Below w.heap.size w w1) := HG1.out.trans (hb1.mono (by omega))
        have HBAD := Lib.hid (hbd.out c rfl)
        clear hbb hps hb1 hc0
        go_wp2_with fail
        have HT := Lib.hid ((hb_set2 (n := .int .i64 c) (d := .int .i64 i) R1.out).drew)
        go_region
        all_goals
          go_wp2_with fail
          obtain ⟨y0, y1, _, _⟩ := HT.out.two
          rw [HBAD.out]
          refine bodyPost_ret (v := .tuple #[.slice none 0 0, .agg #[.int .i64 c, .int .i64 i]]) (by simp [results, Try.results12, go_sem, y0, y1]) rfl ⟨rfl, HC0.out, ?_⟩
          exact below_dn (bw_far G1.out (Nat.le_refl _) (far2 w1 w.heap.size (.int .i64 c) (.int .i64 i))) 1
      | ok x =>
        obtain ⟨j, st'⟩ := x
        obtain ⟨rfl, hij, hjs, hfit, hps, hb1⟩ := hq
        have HPS := Lib.hid hps
        have HFIT := Lib.hid hfit
        have R1 := Lib.hid (HR1.out.intoS hb1 (by omega))
        have G1 : Hid (Below w.heap.size w w1) := HG1.out.trans (hb1.mono (by omega))
        have HN := Lib.hid (hnx.out j st' rfl)
        clear hps hfit hb1
        go_wp2_with fail
        go_round
        case rel => exact ⟨j, st', hjs, HPS.out, HFIT.out, HN.out, R1.out, G1.out⟩
        case measure =>
          have h1 := HPS.out.atOf
          have h2 := hat.out
          show s.size - atOf (w.heap.size + 1 + 1) w1 < s.size - atOf (w.heap.size + 1 + 1) wr
          omega
    · obtain rfl : i = s.size := by omega
      have d1 : decide ((s.size : Int) < s.size) = false := by simp
      obtain ⟨r0, r1, r2, r3⟩ := HR1.out.two
      have hne := HF.out.1
      have hln := HF.out.2.1
      have HD := Lib.hid (depth_any _ _ s.size s st wr HP.out hne (by omega))
      have HE := Lib.hid (show endR s st = R by rw [← HRR.out]; exact (run_end st (Nat.le_refl _)).symm)
      match st, hne, HP, HE, HD with
      | [f], _, HP, HE, HD =>
        obtain ⟨go2, cap2, vs, _, hb2, ho2, _, hk2⟩ := HP.out
        match vs, hk2, ho2 with
        | [v], hk2, ho2 =>
          obtain ⟨A, cf, hv, hf1, hf2, hf3⟩ := hk2.1.at
          obtain ⟨cur, hgb, hcur, _⟩ := own_hb ho2 (by simp) (j := 0) (u := v) rfl
          have g0 := (hgb.cell 0).trans hcur
          clear c0 c1 c2
          obtain ⟨c0, c1, c2, _⟩ := hb2.three
          have HLV := Lib.hid hk2.1
          have HF1 := Lib.hid hf1
          have HF2 := Lib.hid hf2
          subst hv
          simp only [List.length_cons, List.length_nil, Nat.zero_add, Nat.sub_self] at HD
          clear hk2 ho2 hgb hcur hb2 hf1 hf2 hf3 hln
          go_wp2_with fail
          refine HD.out.mono ?_
          rintro e w1 ⟨rfl, rfl⟩
          go_wp2_with fail
          have HT := Lib.hid (hb_set2 (n := .int .i64 0) (d := .int .i64 0) HR1.out)
          have HR2 : R = .good f := HE.out.symm
          obtain ⟨y0, y1, _, _⟩ := HT.out.two
          rw [HR2]
          refine bodyPost_ret (v := .tuple #[.slice A f.len cf, .agg #[.int .i64 0, .int .i64 0]]) (by simp [results, Try.results12, go_sem, y0, y1]) rfl ⟨A, cf, rfl, HF1.out, HF2.out, ?_, ?_⟩
          · have k1 : Ke w1 (w1.setCell ⟨w.heap.size, 0, none⟩ (.int .i64 0)) := (Ke.refl w1).cell HR1.out (by decide)
            have k2 := k1.cell (i := 1) (u := .int .i64 0) (HR1.out.set_ 0 (.int .i64 0)) (by decide)
            obtain ⟨A2, c2, e2, _, _, h3⟩ := (HLV.out.ke k2).at
            injection e2 with e2 _ _
            subst e2
            exact h3
          · exact bw_far HG1.out (Nat.le_refl _) (far2 _ _ _ _)
      | f :: g :: st, _, HP, HE, HD =>
        have t1 : 0 < st.length + 1 := by omega
        have t2 : (0 : Int) < (st.length : Int) + 1 := by omega
        simp only [List.length_cons, Nat.add_sub_cancel] at HD
        generalize st.length = m at *
        go_wp2_with fail
        refine HD.out.mono ?_
        rintro e w1 ⟨rfl, rfl⟩
        go_wp2_with fail
        have HT := Lib.hid (hb_set2 (n := .int .i64 1) (d := .int .i64 s.size) HR1.out)
        have HR2 : R = .bad 1 s.size := HE.out.symm
        obtain ⟨y0, y1, _, _⟩ := HT.out.two
        rw [HR2]
        refine bodyPost_ret (v := .tuple #[.slice none 0 0, .agg #[.int .i64 1, .int .i64 s.size]]) (by simp [results, Try.results12, go_sem, y0, y1]) rfl ⟨rfl, by decide, ?_⟩
        exact bw_far HG1.out (Nat.le_refl _) (far2 _ _ _ _)
theorem parse_any (s : ByteArray) (w : World) : Calls Try.prog 12 #[.string s] w (ParseQ w (parseR s)) := by
  unfold parseR
  by_cases h : 4000 < s.size
  · rw [if_pos h]; exact parse_long s h w
  · rw [if_neg h]; exact parse_run s h _ rfl w
end Go.Proofs.Ytgkhkdohlbchoaa
