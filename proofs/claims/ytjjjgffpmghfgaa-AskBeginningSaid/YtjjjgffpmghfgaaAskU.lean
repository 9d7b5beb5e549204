/-
  Asks: ask.Sorts.
-/
import Derived.Test.YtjjjgffpmghfgaaAskT
namespace Go.Proofs.Ytjjjgffpmghfgaa
open Go.RowKit

theorem fs_zero {code : Nat → Int} {n lim : Nat} (h : fsC code n lim = 0) : fsA code n lim = 0 ∧ n ≤ lim ∧ fsK code n lim = n := by
  unfold fsC at h
  unfold fsA fsK
  by_cases h1 : lim < n
  · rw [if_pos h1] at h; cases h
  · rw [if_neg h1] at h
    rw [if_neg h1, if_neg h1]
    by_cases h2 : fsI code n < n
    · rw [if_pos h2] at h
      exfalso
      unfold fsI at h h2
      have hl : (List.range n).findIdx (fun i => code i != 0) < (List.range n).length := by rw [List.length_range]; exact h2
      have := List.findIdx_getElem (w := hl)
      rw [List.getElem_range, h] at this
      simp at this
    · rw [if_neg h2, if_neg h2]
      exact ⟨rfl, by omega, rfl⟩
/-- The first fault of an ask, and where. -/
def hC (qs : List Dc) (ns : List Nd) (hs : List Int) (i : Nat) : Int := hdC (nth hs i) (srtL qs ns ns.length)
def akC (qs : List Dc) (ns : List Nd) (hs : List Int) : Int :=
  if fsC (dcC qs) qs.length 30 ≠ 0 then fsC (dcC qs) qs.length 30 else if fsC (nC qs ns) ns.length 200 ≠ 0 then fsC (nC qs ns) ns.length 200 else fsC (hC qs ns hs) hs.length 200
def akA (qs : List Dc) (ns : List Nd) (hs : List Int) : Int :=
  if fsC (dcC qs) qs.length 30 ≠ 0 then fsA (dcC qs) qs.length 30 else if fsC (nC qs ns) ns.length 200 ≠ 0 then fsA (nC qs ns) ns.length 200 else fsA (hC qs ns hs) hs.length 200
/-- The sorts that are told. -/
def akL (qs : List Dc) (ns : List Nd) (hs : List Int) : List Int := if akC qs ns hs = 0 then srtL qs ns ns.length else []
theorem soI_below {qs : List Dc} {ns : List Nd} {w0 : World} {base ga gs i : Nat} {va : Array Value} {W W' : World} (hb : base = w0.heap.size) (h : SoI qs ns w0 base ga gs va i W) (k : Below W.heap.size W W') : SoI qs ns w0 base ga gs va i W' := by
  obtain ⟨h1, h2, S, sc, h3, h4⟩ := h
  subst hb
  exact ⟨bw_below (Nat.le_refl _) h1 k, h2.below k, S, sc, h3.below k, own_below h4 k⟩
theorem soI_far {qs : List Dc} {ns : List Nd} {w0 : World} {base ga gs i : Nat} {va cs : Array Value} {W W' : World} {g : Nat} (hg : base ≤ g) (hh : HB W g 29 cs) (f : Far g W W') (h : SoI qs ns w0 base ga gs va i W) : SoI qs ns w0 base ga gs va i W' := by
  obtain ⟨h1, h2, S, sc, h3, h4⟩ := h
  exact ⟨bw_far h1 hg f, h2.far_ (hb_ne h2 hh (by decide)) f, S, sc, h3.far_ (hb_ne h3 hh (by decide)) f, own_far h4 (own_ne h4 hh (by decide)) f⟩
/-- What ask.Sorts yields. -/
def GivesS (L : List Int) (C A : Int) (w : World) (e : Ending) (w' : World) : Prop :=
  ∃ S sc, e = .returned (.tuple #[.slice S L.length sc, .agg #[.int .i64 C, .int .i64 A]]) ∧ Isb w.heap.size w' S L ∧ L.length ≤ sc ∧ sc ≤ maxLen ∧ Below w.heap.size w w'
set_option maxHeartbeats 4000000 in
theorem sorts_any (qs : List Dc) (ns : List Nd) (hs : List Int) (Ad An Ah : Option Addr) (dc nc hc : Nat) (h1 : qs.length ≤ dc) (h2 : dc ≤ maxLen) (h3 : ns.length ≤ maxLen) (h4 : hs.length ≤ maxLen) (w : World) (hd : DsAt w Ad qs) (hn : NsAt w An ns) (hh : Is w Ah hs) :
    Calls Try.prog 8 #[.agg #[.slice Ad qs.length dc, .slice An ns.length nc, .slice Ah hs.length hc]] w (GivesS (akL qs ns hs) (akC qs ns hs) (akA qs ns hs) w) := by
  have HD := Lib.hid hd
  have HN := Lib.hid hn
  have HH := Lib.hid hh
  have HL1 := Lib.hid h1
  have HL2 := Lib.hid h2
  have HL3 := Lib.hid h3
  have HL4 := Lib.hid h4
  have HF1 := Lib.hid (fun (W : World) (hW : Below w.heap.size w W ∧ HB W w.heap.size 26 #[.slice Ad qs.length dc, .slice An ns.length nc, .slice Ah hs.length hc]) (hsz : w.heap.size ≤ W.heap.size) =>
    first_any enters21 qs.length 30 (by unfold maxLen at h2; omega) #[.pointer (some ⟨w.heap.size, 0, none⟩)] (dcC qs) (fun _ W => Below w.heap.size w W ∧ HB W w.heap.size 26 #[.slice Ad qs.length dc, .slice An ns.length nc, .slice Ah hs.length hc]) W
      (fun _ W W' h k => ⟨bw_below (Nat.le_refl _) h.1 k, h.2.below k⟩) (fun _ W W' g cs hg hb f h => ⟨bw_far h.1 (Nat.le_trans hsz hg) f, h.2.far_ (hb_ne h.2 hb (by decide)) f⟩)
      (fun i W hi _ h => (sorts1_any qs Ad An Ah dc ns.length nc hs.length hc i hi h1 h2 w.heap.size W (hd.below h.1) h.2).mono fun e w' ⟨e1, b1⟩ => ⟨e1, ⟨bw_below (Nat.le_refl _) h.1 b1, h.2.below b1⟩, fun g cs hb => hb.below b1⟩) hW)
  have HF2 := Lib.hid (fun (gs : Nat) (W : World) (hgs : w.heap.size ≤ gs) (hW : SoI qs ns w w.heap.size w.heap.size gs #[.slice Ad qs.length dc, .slice An ns.length nc, .slice Ah hs.length hc] 0 W) (hsz : w.heap.size ≤ W.heap.size) =>
    first_any enters23 ns.length 200 (by unfold maxLen at h3; omega) #[.pointer (some ⟨w.heap.size, 0, none⟩), .pointer (some ⟨gs, 0, none⟩)] (nC qs ns) (fun i W => SoI qs ns w w.heap.size w.heap.size gs #[.slice Ad qs.length dc, .slice An ns.length nc, .slice Ah hs.length hc] i W) W
      (fun _ W W' h k => soI_below rfl h k) (fun _ W W' g cs hg hb f h => soI_far (Nat.le_trans hsz hg) hb f h)
      (fun i W hi hl h => sorts2_any qs ns Ad An Ah dc nc hs.length hc i hi hl (Nat.le_trans h1 h2) w w.heap.size w.heap.size gs rfl hgs W hd hn h) hW)
  have HF3 := Lib.hid (fun (gs : Nat) (W : World) (hgs : w.heap.size ≤ gs) (hW : SoI qs ns w w.heap.size w.heap.size gs #[.slice Ad qs.length dc, .slice An ns.length nc, .slice Ah hs.length hc] ns.length W) (hsz : w.heap.size ≤ W.heap.size) =>
    first_any enters25 hs.length 200 (by unfold maxLen at h4; omega) #[.pointer (some ⟨w.heap.size, 0, none⟩), .pointer (some ⟨gs, 0, none⟩)] (hC qs ns hs) (fun _ W => SoI qs ns w w.heap.size w.heap.size gs #[.slice Ad qs.length dc, .slice An ns.length nc, .slice Ah hs.length hc] ns.length W) W
      (fun _ W W' h k => soI_below rfl h k) (fun _ W W' g cs hg hb f h => soI_far (Nat.le_trans hsz hg) hb f h)
      (fun i W hi hl h => by
        obtain ⟨b1, b2, S, sc, b3, b4⟩ := h
        have hlen := srtL_len qs ns ns.length
        have his := own_isb b4 hlen
        have hq : HB W gs 22 #[.slice S (srtL qs ns ns.length).length sc] := by rw [hlen]; exact b3
        exact (sorts3_any hs (srtL qs ns ns.length) Ad An Ah S qs.length dc ns.length nc hc sc i hi h4 (by rw [hlen]; exact h3) w.heap.size gs W (hh.below b1) his.1.is b2 hq).mono fun e w' ⟨e1, k⟩ => ⟨e1, soI_below rfl ⟨b1, b2, S, sc, b3, b4⟩ k, fun g cs hb => hb.below k⟩) hW)
  have HZ1 := Lib.hid (fun h => fs_zero (code := dcC qs) (n := qs.length) (lim := 30) h)
  have HZ2 := Lib.hid (fun h => fs_zero (code := nC qs ns) (n := ns.length) (lim := 200) h)
  have HZ3 := Lib.hid (fun h => fs_zero (code := hC qs ns hs) (n := hs.length) (lim := 200) h)
  have HSL := Lib.hid (srtL_len qs ns ns.length)
  have HC : Hid (akC qs ns hs = if fsC (dcC qs) qs.length 30 ≠ 0 then fsC (dcC qs) qs.length 30 else if fsC (nC qs ns) ns.length 200 ≠ 0 then fsC (nC qs ns) ns.length 200 else fsC (hC qs ns hs) hs.length 200) := Lib.hid rfl
  have HA : Hid (akA qs ns hs = if fsC (dcC qs) qs.length 30 ≠ 0 then fsA (dcC qs) qs.length 30 else if fsC (nC qs ns) ns.length 200 ≠ 0 then fsA (nC qs ns) ns.length 200 else fsA (hC qs ns hs) hs.length 200) := Lib.hid rfl
  have HL : Hid (akL qs ns hs = if akC qs ns hs = 0 then srtL qs ns ns.length else []) := Lib.hid rfl
  unfold GivesS
  generalize fsK (nC qs ns) ns.length 200 = K2 at *
  generalize fsK (hC qs ns hs) hs.length 200 = K3 at *
  generalize akL qs ns hs = L at *
  generalize akC qs ns hs = C at *
  generalize akA qs ns hs = A at *
  generalize fsC (dcC qs) qs.length 30 = C1 at *
  generalize fsA (dcC qs) qs.length 30 = A1 at *
  generalize fsC (nC qs ns) ns.length 200 = C2 at *
  generalize fsA (nC qs ns) ns.length 200 = A2 at *
  generalize fsC (hC qs ns hs) hs.length 200 = C3 at *
  generalize fsA (hC qs ns hs) hs.length 200 = A3 at *
  unfold maxLen at h2 h3 h4
  clear hd hn hh
  generalize qs.length = ql at *
  generalize ns.length = nl at *
  generalize hs.length = hl at *
  have N1 : Hid (HB ((w.alloc (.cells #[.slice Ad ql dc, .slice An nl nc, .slice Ah hl hc] 26)).alloc (.cells #[.int .i64 0, .int .i64 0] 29)) w.heap.size 26 #[.slice Ad ql dc, .slice An nl nc, .slice Ah hl hc]) := Lib.hid ((HB.new _ _ _).alloc _)
  have R1 : Hid (HB ((w.alloc (.cells #[.slice Ad ql dc, .slice An nl nc, .slice Ah hl hc] 26)).alloc (.cells #[.int .i64 0, .int .i64 0] 29)) (w.heap.size + 1) 29 #[.int .i64 0, .int .i64 0]) := Lib.hid (HB.new1 _ _ _ _)
  have G1 : Hid (Below w.heap.size w ((w.alloc (.cells #[.slice Ad ql dc, .slice An nl nc, .slice Ah hl hc] 26)).alloc (.cells #[.int .i64 0, .int .i64 0] 29))) := Lib.hid (by go_grown)
  have X1 := Lib.hid (HF1.out _ ⟨G1.out, N1.out⟩ (by simp; omega))
  go_enter Try.func8, Try.ntmps8
  go_wp2_with fail
  refine X1.out.mono ?_
  rintro e w1 ⟨rfl, hi1, hk1⟩
  have G2 := Lib.hid hi1.1
  have N2 := Lib.hid hi1.2
  have R2 := Lib.hid (hk1 _ _ (by simp) R1.out)
  clear hi1 hk1 X1 G1 N1 R1
  obtain ⟨x0, x1, x2, _⟩ := N2.out.three
  obtain ⟨r0, r1, r2, r3⟩ := R2.out.two
  have lr := R2.out.lt
  have lw := G2.out.size
  by_cases hc1 : C1 = 0
  · obtain ⟨hA1, _, _⟩ := HZ1.out hc1
    rw [if_neg (by simpa using hc1)] at HC HA
    clear HZ1
    subst hc1 hA1
    have lqq : w.heap.size < w1.heap.size := by omega
    have lq2 : w.heap.size + 1 < w1.heap.size := lr
    have S0 : Hid (SoI qs ns w w.heap.size w.heap.size (w1.heap.size + 1) #[.slice Ad ql dc, .slice An nl nc, .slice Ah hl hc] 0 ((w1.alloc (.cells #[.int .i64 0, .int .i64 0] 29)).alloc (.cells #[.slice none 0 0] 22))) := Lib.hid
      ⟨Below.alloc (Below.alloc G2.out lw _) (by simp; omega) _, (N2.out.alloc _).alloc _, none, 0, HB.new1 _ _ _ _, own_nil _ _ _ _⟩
    have X2 := Lib.hid (HF2.out (w1.heap.size + 1) _ (by omega) S0.out (by simp; omega))
    have R3 := Lib.hid ((R2.out.alloc (.cells #[.int .i64 0, .int .i64 0] 29)).alloc (.cells #[.slice none 0 0] 22))
    have T3 := Lib.hid ((HB.new w1 29 #[.int .i64 0, .int .i64 0]).alloc (.cells #[.slice none 0 0] 22))
    go_wp2_with fail
    refine X2.out.mono ?_
    rintro e w2 ⟨rfl, hi2, hk2⟩
    have S2 := Lib.hid hi2
    have R4 := Lib.hid (hk2 _ _ (by simp; omega) R3.out)
    have T4 := Lib.hid (hk2 _ _ (by simp; omega) T3.out)
    clear hi2 hk2 X2 S0 R3 T3 x0 x1 x2 r0 r1 r2 r3 lr HF1 HF2 N2 R2
    obtain ⟨r0, r1, r2, r3⟩ := R4.out.two
    obtain ⟨q0, q1, q2, q3⟩ := T4.out.two
    have lr := R4.out.lt
    have lq := T4.out.lt
    have hne : w.heap.size + 1 ≠ w1.heap.size := by omega
    by_cases hc2 : C2 = 0
    · obtain ⟨hA2, hn200, hK2⟩ := HZ2.out hc2
      rw [if_neg (by simpa using hc2)] at HC HA
      clear HZ2
      subst hc2 hA2
      rw [hK2] at S2
      have F4 := far2 w2 w1.heap.size (.int .i64 0) (.int .i64 0)
      have S3 := Lib.hid (soI_far (Nat.le_of_lt lqq) T4.out F4 S2.out)
      have R5 := Lib.hid (R4.out.far_ hne F4)
      have T5 := Lib.hid (hb_set2 (n := .int .i64 0) (d := .int .i64 0) T4.out)
      have lw3 : w2.heap.size = ((w2.setCell ⟨w1.heap.size, 0, none⟩ (.int .i64 0)).setCell ⟨w1.heap.size, 1, none⟩ (.int .i64 0)).heap.size := F4.size.symm
      have X3 := Lib.hid (HF3.out (w1.heap.size + 1) _ (by omega) S3.out (by omega))
      obtain ⟨_, NA, S', sc', NS, _⟩ := S2.out
      obtain ⟨x0, x1, x2, _⟩ := NA.three
      have s0 := NS.one.1
      clear NA NS
      go_wp2_with fail
      refine X3.out.mono ?_
      rintro e w5 ⟨rfl, hi5, hk5⟩
      have S5 := Lib.hid hi5
      have R6 := Lib.hid (hk5 _ _ (by omega) R5.out)
      have T6 := Lib.hid (hk5 _ _ (by omega) T5.out)
      clear hi5 hk5 X3 S2 S3 R4 R5 T4 T5 F4 x0 x1 x2 s0 q0 q1 q2 q3 r0 r1 r2 r3 HF3 lw3 lr lq
      obtain ⟨r0, r1, r2, r3⟩ := R6.out.two
      obtain ⟨q0, q1, q2, q3⟩ := T6.out.two
      have lr := R6.out.lt
      have lq := T6.out.lt
      by_cases hc3 : C3 = 0
      · obtain ⟨hA3, _, _⟩ := HZ3.out hc3
        clear HZ3
        subst hc3 hA3
        rw [if_pos HC.out] at HL
        have F6 := far2 w5 w1.heap.size (.int .i64 0) (.int .i64 0)
        have F7 := far2 ((w5.setCell ⟨w1.heap.size, 0, none⟩ (.int .i64 0)).setCell ⟨w1.heap.size, 1, none⟩ (.int .i64 0)) (w.heap.size + 1) (.int .i64 0) (.int .i64 0)
        have S6 := soI_far (Nat.le_of_lt lqq) T6.out F6 S5.out
        have RR := R6.out.far_ hne F6
        have S7 := Lib.hid (soI_far (Nat.le_succ _) RR F7 S6)
        have RR7 := hb_set2 (n := .int .i64 0) (d := .int .i64 0) RR
        obtain ⟨y0, y1, _, _⟩ := RR7.two
        obtain ⟨_, _, S', sc', NS, OW⟩ := S5.out
        have s0 := NS.one.1
        have ls := NS.lt
        have O6 := own_far OW (own_ne OW T6.out (by decide)) F6
        have O7 := Lib.hid (own_far O6 (own_ne O6 RR (by decide)) F7)
        have B7 := Lib.hid S7.out.1
        clear S6 F6 F7 RR NS OW O6
        go_wp2_with fail
        have his := own_isb O7.out HSL.out
        refine bodyPost_ret (v := .tuple #[.slice S' nl sc', .agg #[.int .i64 0, .int .i64 0]]) (by simp [results, Try.results8, go_sem, y0, y1]) rfl ⟨S', sc', by rw [HL.out, HSL.out, HC.out, HA.out], by rw [HL.out]; exact his.1, by rw [HL.out, HSL.out]; exact his.2, own_cap O7.out, B7.out⟩
      · have t3 : (C3 == 0) = false := by simpa using hc3
        have HC3 := Lib.hid hc3
        rw [if_neg (by rw [HC.out]; exact hc3)] at HL
        clear hc3
        have F6 := far2 w5 w1.heap.size (.int .i64 C3) (.int .i64 A3)
        have RR := hb_set2 (n := .int .i64 C3) (d := .int .i64 A3) (R6.out.far_ hne F6)
        have GG := bw_far (bw_far S5.out.1 (Nat.le_of_lt lqq) F6) (Nat.le_succ _) (far2 _ (w.heap.size + 1) (.int .i64 C3) (.int .i64 A3))
        go_wp2_with fail
        go_region
        all_goals
          go_wp2_with fail
          obtain ⟨y0, y1, _, _⟩ := RR.two
          refine bodyPost_ret (v := .tuple #[.slice none 0 0, .agg #[.int .i64 C3, .int .i64 A3]]) (by simp [results, Try.results8, go_sem, y0, y1]) rfl ⟨none, 0, by rw [HL.out, HC.out, HA.out]; rfl, by rw [HL.out]; exact isb_nil _ _ _, by rw [HL.out]; exact Nat.le_refl _, Nat.zero_le _, ?_⟩
          exact GG.drew
    · have t2 : (C2 == 0) = false := by simpa using hc2
      have HC2 := Lib.hid hc2
      rw [if_pos hc2] at HC HA
      rw [if_neg (by rw [HC.out]; exact hc2)] at HL
      clear hc2
      have F4 := far2 w2 w1.heap.size (.int .i64 C2) (.int .i64 A2)
      have RR := hb_set2 (n := .int .i64 C2) (d := .int .i64 A2) (R4.out.far_ hne F4)
      have GG := bw_far (bw_far S2.out.1 (Nat.le_of_lt lqq) F4) (Nat.le_succ _) (far2 _ (w.heap.size + 1) (.int .i64 C2) (.int .i64 A2))
      go_wp2_with fail
      go_region
      all_goals
        go_wp2_with fail
        obtain ⟨y0, y1, _, _⟩ := RR.two
        refine bodyPost_ret (v := .tuple #[.slice none 0 0, .agg #[.int .i64 C2, .int .i64 A2]]) (by simp [results, Try.results8, go_sem, y0, y1]) rfl ⟨none, 0, by rw [HL.out, HC.out, HA.out]; rfl, by rw [HL.out]; exact isb_nil _ _ _, by rw [HL.out]; exact Nat.le_refl _, Nat.zero_le _, ?_⟩
        exact GG.drew
  · have t1 : (C1 == 0) = false := by simpa using hc1
    rw [if_pos hc1] at HC HA
    rw [if_neg (by rw [HC.out]; exact hc1)] at HL
    clear hc1
    have RR := (hb_set2 (n := .int .i64 C1) (d := .int .i64 A1) R2.out).alloc (.cells #[.int .i64 C1, .int .i64 A1] 29)
    have F := bw_far G2.out (by omega) (far2 w1 (w.heap.size + 1) (.int .i64 C1) (.int .i64 A1))
    go_wp2_with fail
    go_region
    all_goals
      go_wp2_with fail
      obtain ⟨y0, y1, _, _⟩ := RR.two
      refine bodyPost_ret (v := .tuple #[.slice none 0 0, .agg #[.int .i64 C1, .int .i64 A1]]) (by simp [results, Try.results8, go_sem, y0, y1]) rfl ⟨none, 0, by rw [HL.out, HC.out, HA.out]; rfl, by rw [HL.out]; exact isb_nil _ _ _, by rw [HL.out]; exact Nat.le_refl _, Nat.zero_le _, ?_⟩
      exact (Below.alloc F F.size _).drew
end Go.Proofs.Ytjjjgffpmghfgaa
