/-
  Worlds, by the reference: values of a sort.
-/
import Derived.Test.YtcpeddogckillaaGreatMeaI
namespace Go.Proofs.YtcpeddogckillaaGreat
open Go.RowKit

theorem gdn_bad {s n d : Int} (h : fvalid n d = false) : gdN s n d = false := by unfold gdN; rw [h]; rfl
theorem gdn_3 {n d : Int} (h : fvalid n d = true) : gdN 3 n d = true := by unfold gdN; rw [h]; rfl
theorem gdn_den {s n d : Int} (h3 : s ≠ 3) (hd : d ≠ 1) : gdN s n d = false := by unfold gdN; simp [h3, hd]
theorem gdn_2 {n d : Int} (h : fvalid n d = true) (hd : d = 1) : gdN 2 n d = true := by unfold gdN; rw [h]; simp [hd]
theorem gdn_r {s n d : Int} (h : fvalid n d = true) (h3 : s ≠ 3) (h2 : s ≠ 2) (hd : d = 1) : gdN s n d = (decide (0 ≤ n) && decide (n ≤ grt s)) := by
  have t3 : (s == 3) = false := by simpa using h3
  have t2 : (s == 2) = false := by simpa using h2
  unfold gdN; rw [h, t3, t2]; simp [hd]
theorem grt_w {s : Int} (h : 11 ≤ s ∧ s ≤ 18) : grt s = mds s - 1 := by unfold grt; rw [if_neg (by omega), if_neg (by omega)]
set_option maxHeartbeats 8000000 in
theorem goodvalue_any (s : Int) (v : Vl) (A : Option Addr) (c : Nat) (hs : okSo s) (hl : v.cells.length ≤ maxLen) (w : World) (h : CsAt w A v.cells) :
    Calls Tryz.prog 16 #[.int .i64 s, .agg #[.int .i64 v.num, .int .i64 v.den, .slice A v.cells.length c, .int .i64 v.rest]] w fun e w' => e = .returned (.bool (gdV s v)) ∧ Below w.heap.size w w' := by
  have NEW := Lib.hid (new_below w (.cells #[.int .i64 v.num, .int .i64 v.den, .slice A v.cells.length c, .int .i64 v.rest] 47))
  have HV0 := Lib.hid (HB.new w 47 #[.int .i64 v.num, .int .i64 v.den, .slice A v.cells.length c, .int .i64 v.rest])
  by_cases h5 : s = 5
  · subst h5
    have HX := Lib.hid (fun W (hb : Below w.heap.size w W) => goodarray_any v A c hl W (h.below hb))
    unfold maxLen at hl
    generalize gdV 5 v = r at *
    generalize v.cells.length = L at *
    generalize v.num = n at *
    generalize v.den = d at *
    generalize v.rest = z at *
    clear hs h
    go_enter Tryz.func16, Tryz.ntmps16
    go_wp2_with fail
    refine (HX.out _ NEW.out).mono ?_
    rintro e w1 ⟨rfl, hb1⟩
    have HB1 := Lib.hid (below_after NEW.out hb1)
    clear hb1
    go_wp2_with fail
    go_ret
    exact ⟨rfl, HB1.out⟩
  · have HE : Hid (gdV s v = (decide (v.cells.length = 0) && v.rest == 0 && gdN s v.num v.den)) := Lib.hid (by rw [gdv_n s v h5]; cases v.cells <;> simp)
    have t5 : (s == 5) = false := by simpa using h5
    have HG := Lib.hid (fun W => goodR_any v.num v.den W)
    unfold maxLen at hl
    generalize gdV s v = r at *
    generalize v.cells.length = L at *
    generalize v.num = n at *
    generalize v.den = d at *
    generalize v.rest = z at *
    clear h
    by_cases hL : L = 0
    · subst hL
      by_cases hz : z = 0
      · subst hz
        have HE2 : Hid (r = gdN s n d) := Lib.hid (by rw [HE.out]; simp)
        clear HE
        cases hv : fvalid n d with
        | false =>
          have HF : Hid (r = false) := Lib.hid (by rw [HE2.out]; exact gdn_bad hv)
          rw [hv] at HG
          clear HE2 hv hs h5
          go_enter Tryz.func16, Tryz.ntmps16
          go_wp2_with fail
          refine (HG.out _).mono ?_
          rintro e w1 ⟨rfl, hb1⟩
          have HB1 := Lib.hid (below_after NEW.out hb1)
          clear hb1
          go_wp2_with fail
          go_ret
          exact ⟨by rw [HF.out]; rfl, HB1.out⟩
        | true =>
          rw [hv] at HG
          by_cases h3 : s = 3
          · subst h3
            have HF : Hid (r = true) := Lib.hid (by rw [HE2.out]; exact gdn_3 hv)
            clear HE2 hv hs h5
            go_enter Tryz.func16, Tryz.ntmps16
            go_wp2_with fail
            refine (HG.out _).mono ?_
            rintro e w1 ⟨rfl, hb1⟩
            have HB1 := Lib.hid (below_after NEW.out hb1)
            have HV1 := Lib.hid (HV0.out.below hb1)
            clear hb1
            obtain ⟨v0, v1, v2, v3, _⟩ := HV1.out.four
            have lv := HV1.out.lt
            go_wp2_with fail
            go_ret
            exact ⟨by rw [HF.out]; rfl, HB1.out⟩
          · have t3 : (s == 3) = false := by simpa using h3
            by_cases hd : d = 1
            · subst hd
              by_cases h2 : s = 2
              · subst h2
                have HF : Hid (r = true) := Lib.hid (by rw [HE2.out]; exact gdn_2 hv rfl)
                have HWB := Lib.hid (fun W => wordbits_any 2 W)
                have HWE : Hid (wBits 2 = 0) := Lib.hid rfl
                clear HE2 hv hs h5 h3
                generalize wBits 2 = wb at *
                go_enter Tryz.func16, Tryz.ntmps16
                go_wp2_with fail
                refine (HG.out _).mono ?_
                rintro e w1 ⟨rfl, hb1⟩
                have HB1 := Lib.hid (below_after NEW.out hb1)
                have HV1 := Lib.hid (HV0.out.below hb1)
                clear hb1
                obtain ⟨v0, v1, v2, v3, _⟩ := HV1.out.four
                have lv := HV1.out.lt
                go_wp2_with fail
                refine (HWB.out _).mono ?_
                rintro e w2 ⟨rfl, rfl⟩
                rw [HWE.out]
                go_wp2_with fail
                go_ret
                exact ⟨by rw [HF.out]; rfl, HB1.out⟩
              · have HE3 : Hid (r = (decide (0 ≤ n) && decide (n ≤ grt s))) := Lib.hid (by rw [HE2.out]; exact gdn_r hv h3 h2 rfl)
                clear HE2 hv
                by_cases h1 : s = 1
                · subst h1
                  by_cases h0 : n = 0
                  · subst h0
                    have HF : Hid (r = true) := Lib.hid (by rw [HE3.out]; rfl)
                    clear HE3 hs h5 h2 h3
                    go_enter Tryz.func16, Tryz.ntmps16
                    go_wp2_with fail
                    refine (HG.out _).mono ?_
                    rintro e w1 ⟨rfl, hb1⟩
                    have HB1 := Lib.hid (below_after NEW.out hb1)
                    have HV1 := Lib.hid (HV0.out.below hb1)
                    clear hb1
                    obtain ⟨v0, v1, v2, v3, _⟩ := HV1.out.four
                    have lv := HV1.out.lt
                    go_wp2_with fail
                    go_ret
                    exact ⟨by rw [HF.out]; rfl, HB1.out⟩
                  · have t0 : (n == 0) = false := by simpa using h0
                    have HF : Hid (r = (n == 1)) := Lib.hid (by rw [HE3.out, Bool.eq_iff_iff]; simp [grt]; omega)
                    clear HE3 hs h5 h2 h0 h3
                    go_enter Tryz.func16, Tryz.ntmps16
                    go_wp2_with fail
                    refine (HG.out _).mono ?_
                    rintro e w1 ⟨rfl, hb1⟩
                    have HB1 := Lib.hid (below_after NEW.out hb1)
                    have HV1 := Lib.hid (HV0.out.below hb1)
                    clear hb1
                    obtain ⟨v0, v1, v2, v3, _⟩ := HV1.out.four
                    have lv := HV1.out.lt
                    go_wp2_with fail
                    go_ret
                    exact ⟨by rw [HF.out]; rfl, HB1.out⟩
                · have t1 : (s == 1) = false := by simpa using h1
                  by_cases h4 : s = 4
                  · subst h4
                    have HF : Hid (r = !nTh n) := Lib.hid (by rw [HE3.out, Bool.eq_iff_iff]; unfold nTh; simp [grt])
                    have HT := Lib.hid (fun W => isthingR_any n W)
                    clear HE3 hs h5 h2 h1 h3
                    generalize (!nTh n) = q at *
                    go_enter Tryz.func16, Tryz.ntmps16
                    go_wp2_with fail
                    refine (HG.out _).mono ?_
                    rintro e w1 ⟨rfl, hb1⟩
                    have HB1 := Lib.hid (below_after NEW.out hb1)
                    have HV1 := Lib.hid (HV0.out.below hb1)
                    clear hb1
                    obtain ⟨v0, v1, v2, v3, _⟩ := HV1.out.four
                    have lv := HV1.out.lt
                    go_wp2_with fail
                    refine (HT.out _).mono ?_
                    rintro e w2 ⟨rfl, rfl⟩
                    go_wp2_with fail
                    go_ret
                    exact ⟨by rw [HF.out]; rfl, HB1.out⟩
                  · have t4 : (s == 4) = false := by simpa using h4
                    have hw : 11 ≤ s ∧ s ≤ 18 := by unfold okSo at hs; omega
                    have HG2 := Lib.hid (grt_w hw)
                    by_cases hn : 0 ≤ n
                    · have tn : decide (0 ≤ n) = true := by simpa using hn
                      rcases mds_cases hw with ⟨rfl, hm⟩ | ⟨rfl, hm⟩ | ⟨rfl, hm⟩ | ⟨rfl, hm⟩ | ⟨rfl, hm⟩ | ⟨rfl, hm⟩ | ⟨rfl, hm⟩ | ⟨rfl, hm⟩
                      · have HF : Hid (r = decide (n < 2)) := Lib.hid (by rw [HE3.out, HG2.out, hm, tn, Bool.true_and, decide_eq_decide]; constructor <;> intro h <;> omega)
                        have HWB := Lib.hid (fun W => wordbits_any 11 W)
                        clear HE3 hs h5 h2 h1 h4 h3 hw HG2 hm hn t3 t5 t1 t4
                        go_enter Tryz.func16, Tryz.ntmps16
                        go_wp2_with fail
                        refine (HG.out _).mono ?_
                        rintro e w1 ⟨rfl, hb1⟩
                        have HB1 := Lib.hid (below_after NEW.out hb1)
                        have HV1 := Lib.hid (HV0.out.below hb1)
                        clear hb1
                        obtain ⟨v0, v1, v2, v3, _⟩ := HV1.out.four
                        have lv := HV1.out.lt
                        go_wp2_with fail
                        refine (HWB.out _).mono ?_
                        rintro e w2 ⟨rfl, rfl⟩
                        rw [show wBits 11 = 1 from rfl]
                        go_wp2_with fail
                        go_ret
                        exact ⟨by rw [HF.out]; rfl, HB1.out⟩
                      · have HF : Hid (r = decide (n < 4)) := Lib.hid (by rw [HE3.out, HG2.out, hm, tn, Bool.true_and, decide_eq_decide]; constructor <;> intro h <;> omega)
                        have HWB := Lib.hid (fun W => wordbits_any 12 W)
                        clear HE3 hs h5 h2 h1 h4 h3 hw HG2 hm hn t3 t5 t1 t4
                        go_enter Tryz.func16, Tryz.ntmps16
                        go_wp2_with fail
                        refine (HG.out _).mono ?_
                        rintro e w1 ⟨rfl, hb1⟩
                        have HB1 := Lib.hid (below_after NEW.out hb1)
                        have HV1 := Lib.hid (HV0.out.below hb1)
                        clear hb1
                        obtain ⟨v0, v1, v2, v3, _⟩ := HV1.out.four
                        have lv := HV1.out.lt
                        go_wp2_with fail
                        refine (HWB.out _).mono ?_
                        rintro e w2 ⟨rfl, rfl⟩
                        rw [show wBits 12 = 2 from rfl]
                        go_wp2_with fail
                        go_ret
                        exact ⟨by rw [HF.out]; rfl, HB1.out⟩
                      · have HF : Hid (r = decide (n < 8)) := Lib.hid (by rw [HE3.out, HG2.out, hm, tn, Bool.true_and, decide_eq_decide]; constructor <;> intro h <;> omega)
                        have HWB := Lib.hid (fun W => wordbits_any 13 W)
                        clear HE3 hs h5 h2 h1 h4 h3 hw HG2 hm hn t3 t5 t1 t4
                        go_enter Tryz.func16, Tryz.ntmps16
                        go_wp2_with fail
                        refine (HG.out _).mono ?_
                        rintro e w1 ⟨rfl, hb1⟩
                        have HB1 := Lib.hid (below_after NEW.out hb1)
                        have HV1 := Lib.hid (HV0.out.below hb1)
                        clear hb1
                        obtain ⟨v0, v1, v2, v3, _⟩ := HV1.out.four
                        have lv := HV1.out.lt
                        go_wp2_with fail
                        refine (HWB.out _).mono ?_
                        rintro e w2 ⟨rfl, rfl⟩
                        rw [show wBits 13 = 3 from rfl]
                        go_wp2_with fail
                        go_ret
                        exact ⟨by rw [HF.out]; rfl, HB1.out⟩
                      · have HF : Hid (r = decide (n < 16)) := Lib.hid (by rw [HE3.out, HG2.out, hm, tn, Bool.true_and, decide_eq_decide]; constructor <;> intro h <;> omega)
                        have HWB := Lib.hid (fun W => wordbits_any 14 W)
                        clear HE3 hs h5 h2 h1 h4 h3 hw HG2 hm hn t3 t5 t1 t4
                        go_enter Tryz.func16, Tryz.ntmps16
                        go_wp2_with fail
                        refine (HG.out _).mono ?_
                        rintro e w1 ⟨rfl, hb1⟩
                        have HB1 := Lib.hid (below_after NEW.out hb1)
                        have HV1 := Lib.hid (HV0.out.below hb1)
                        clear hb1
                        obtain ⟨v0, v1, v2, v3, _⟩ := HV1.out.four
                        have lv := HV1.out.lt
                        go_wp2_with fail
                        refine (HWB.out _).mono ?_
                        rintro e w2 ⟨rfl, rfl⟩
                        rw [show wBits 14 = 4 from rfl]
                        go_wp2_with fail
                        go_ret
                        exact ⟨by rw [HF.out]; rfl, HB1.out⟩
                      · have HF : Hid (r = decide (n < 32)) := Lib.hid (by rw [HE3.out, HG2.out, hm, tn, Bool.true_and, decide_eq_decide]; constructor <;> intro h <;> omega)
                        have HWB := Lib.hid (fun W => wordbits_any 15 W)
                        clear HE3 hs h5 h2 h1 h4 h3 hw HG2 hm hn t3 t5 t1 t4
                        go_enter Tryz.func16, Tryz.ntmps16
                        go_wp2_with fail
                        refine (HG.out _).mono ?_
                        rintro e w1 ⟨rfl, hb1⟩
                        have HB1 := Lib.hid (below_after NEW.out hb1)
                        have HV1 := Lib.hid (HV0.out.below hb1)
                        clear hb1
                        obtain ⟨v0, v1, v2, v3, _⟩ := HV1.out.four
                        have lv := HV1.out.lt
                        go_wp2_with fail
                        refine (HWB.out _).mono ?_
                        rintro e w2 ⟨rfl, rfl⟩
                        rw [show wBits 15 = 5 from rfl]
                        go_wp2_with fail
                        go_ret
                        exact ⟨by rw [HF.out]; rfl, HB1.out⟩
                      · have HF : Hid (r = decide (n < 64)) := Lib.hid (by rw [HE3.out, HG2.out, hm, tn, Bool.true_and, decide_eq_decide]; constructor <;> intro h <;> omega)
                        have HWB := Lib.hid (fun W => wordbits_any 16 W)
                        clear HE3 hs h5 h2 h1 h4 h3 hw HG2 hm hn t3 t5 t1 t4
                        go_enter Tryz.func16, Tryz.ntmps16
                        go_wp2_with fail
                        refine (HG.out _).mono ?_
                        rintro e w1 ⟨rfl, hb1⟩
                        have HB1 := Lib.hid (below_after NEW.out hb1)
                        have HV1 := Lib.hid (HV0.out.below hb1)
                        clear hb1
                        obtain ⟨v0, v1, v2, v3, _⟩ := HV1.out.four
                        have lv := HV1.out.lt
                        go_wp2_with fail
                        refine (HWB.out _).mono ?_
                        rintro e w2 ⟨rfl, rfl⟩
                        rw [show wBits 16 = 6 from rfl]
                        go_wp2_with fail
                        go_ret
                        exact ⟨by rw [HF.out]; rfl, HB1.out⟩
                      · have HF : Hid (r = decide (n < 128)) := Lib.hid (by rw [HE3.out, HG2.out, hm, tn, Bool.true_and, decide_eq_decide]; constructor <;> intro h <;> omega)
                        have HWB := Lib.hid (fun W => wordbits_any 17 W)
                        clear HE3 hs h5 h2 h1 h4 h3 hw HG2 hm hn t3 t5 t1 t4
                        go_enter Tryz.func16, Tryz.ntmps16
                        go_wp2_with fail
                        refine (HG.out _).mono ?_
                        rintro e w1 ⟨rfl, hb1⟩
                        have HB1 := Lib.hid (below_after NEW.out hb1)
                        have HV1 := Lib.hid (HV0.out.below hb1)
                        clear hb1
                        obtain ⟨v0, v1, v2, v3, _⟩ := HV1.out.four
                        have lv := HV1.out.lt
                        go_wp2_with fail
                        refine (HWB.out _).mono ?_
                        rintro e w2 ⟨rfl, rfl⟩
                        rw [show wBits 17 = 7 from rfl]
                        go_wp2_with fail
                        go_ret
                        exact ⟨by rw [HF.out]; rfl, HB1.out⟩
                      · have HF : Hid (r = decide (n < 256)) := Lib.hid (by rw [HE3.out, HG2.out, hm, tn, Bool.true_and, decide_eq_decide]; constructor <;> intro h <;> omega)
                        have HWB := Lib.hid (fun W => wordbits_any 18 W)
                        clear HE3 hs h5 h2 h1 h4 h3 hw HG2 hm hn t3 t5 t1 t4
                        go_enter Tryz.func16, Tryz.ntmps16
                        go_wp2_with fail
                        refine (HG.out _).mono ?_
                        rintro e w1 ⟨rfl, hb1⟩
                        have HB1 := Lib.hid (below_after NEW.out hb1)
                        have HV1 := Lib.hid (HV0.out.below hb1)
                        clear hb1
                        obtain ⟨v0, v1, v2, v3, _⟩ := HV1.out.four
                        have lv := HV1.out.lt
                        go_wp2_with fail
                        refine (HWB.out _).mono ?_
                        rintro e w2 ⟨rfl, rfl⟩
                        rw [show wBits 18 = 8 from rfl]
                        go_wp2_with fail
                        go_ret
                        exact ⟨by rw [HF.out]; rfl, HB1.out⟩
                    · have tn : decide (0 ≤ n) = false := by simpa using hn
                      have HF : Hid (r = false) := Lib.hid (by rw [HE3.out, tn]; rfl)
                      have HWB := Lib.hid (fun W => wordbits_any s W)
                      have HWE : Hid (0 < wBits s) := Lib.hid (by unfold wBits; rw [if_pos ⟨by omega, by omega⟩]; omega)
                      clear HE3 hs h5 h2 h1 h4 h3 hw HG2 hn
                      generalize wBits s = wb at *
                      go_enter Tryz.func16, Tryz.ntmps16
                      go_wp2_with fail
                      refine (HG.out _).mono ?_
                      rintro e w1 ⟨rfl, hb1⟩
                      have HB1 := Lib.hid (below_after NEW.out hb1)
                      have HV1 := Lib.hid (HV0.out.below hb1)
                      clear hb1
                      obtain ⟨v0, v1, v2, v3, _⟩ := HV1.out.four
                      have lv := HV1.out.lt
                      go_wp2_with fail
                      refine (HWB.out _).mono ?_
                      rintro e w2 ⟨rfl, rfl⟩
                      have tb : decide (0 < wb) = true := by simpa using HWE.out
                      go_wp2_with fail
                      go_ret
                      exact ⟨by rw [HF.out]; rfl, HB1.out⟩
            · have td : (d != 1) = true := by simpa using hd
              have HF : Hid (r = false) := Lib.hid (by rw [HE2.out]; exact gdn_den h3 hd)
              clear HE2 hv hs h5 hd h3
              go_enter Tryz.func16, Tryz.ntmps16
              go_wp2_with fail
              refine (HG.out _).mono ?_
              rintro e w1 ⟨rfl, hb1⟩
              have HB1 := Lib.hid (below_after NEW.out hb1)
              have HV1 := Lib.hid (HV0.out.below hb1)
              clear hb1
              obtain ⟨v0, v1, v2, v3, _⟩ := HV1.out.four
              have lv := HV1.out.lt
              go_wp2_with fail
              go_ret
              exact ⟨by rw [HF.out]; rfl, HB1.out⟩
      · have tz : (z != 0) = true := by simpa using hz
        have HF : Hid (r = false) := Lib.hid (by rw [HE.out]; simp [hz])
        clear HE hz hs h5
        go_enter Tryz.func16, Tryz.ntmps16
        go_wp2_with fail
        go_ret
        exact ⟨by rw [HF.out]; rfl, NEW.out⟩
    · have d1 : decide ((0 : Int) < L) = true := by simp; omega
      have d2 : decide (0 < L) = true := by simp; omega
      have HF : Hid (r = false) := Lib.hid (by rw [HE.out]; simp [hL])
      clear HE hL hs h5
      go_enter Tryz.func16, Tryz.ntmps16
      go_wp2_with fail
      go_ret
      exact ⟨by rw [HF.out]; rfl, NEW.out⟩
end Go.Proofs.YtcpeddogckillaaGreat
