/-
  Worlds, by the reference: values of a sort.
  Asks: the name and the numbers of a node, as the reference tells them.
  Asks: the letters of the reference, and the sort that the program tells.
  Asks: the tail of the reference, case by case.
  Are two values the same? Those that are: yes.
  Are two lists of values the same? Those that are: yes.
-/
import Derived.Test.YtaodebpogibimaaGreatMeaI
import Derived.Test.YtaodebpogibimaaGreatAskJ1
import Derived.Test.YtaodebpogibimaaGreatAskJ2
import Derived.Test.YtaodebpogibimaaGreatAskJ3
import Derived.Test.YtaodebpogibimaaGreatG08
import Derived.Test.YtaodebpogibimaaGreatG00
namespace Go.Proofs.YtaodebpogibimaaGreat
open Go.RowKit

theorem gdn_bad {s n d : Int} (h : fvalid n d = false) : gdN s n d = false := by unfold gdN; rw [h]; rfl
theorem gdn_3 {n d : Int} (h : fvalid n d = true) : gdN 3 n d = true := by unfold gdN; rw [h]; rfl
theorem gdn_den {s n d : Int} (h3 : s ≠ 3) (hd : d ≠ 1) : gdN s n d = false := by unfold gdN; simp [h3, hd]
theorem gdn_2 {n d : Int} (h : fvalid n d = true) (hd : d = 1) : gdN 2 n d = true := by unfold gdN; rw [h]; simp [hd]
theorem gdn_r {s n d : Int} (h : fvalid n d = true) (h3 : s ≠ 3) (h2 : s ≠ 2) (hd : d = 1) : gdN s n d = (decide (0 ≤ n) && decide (n ≤ grt s)) := by
  have t3 : (s == 3) = false := by simpa using h3
  have t2 : (s == 2) = false := by simpa using h2
  unfold gdN; rw [h, t3, t2]; simp [hd]
theorem grt_w {s : Int} (h : 11 ≤ s ∧ s ≤ 18) : grt s = mds s - 1 := by unfold grt; rw [if_neg (by omega), if_neg (by omega)]
set_option maxHeartbeats 8000000 in
theorem goodvalue_any (s : Int) (v : Vl) (A : Option Addr) (c : Nat) (hs : okSo s) (hl : v.cells.length ≤ maxLen) (w : World) (h : CsAt w A v.cells) :
    Calls Tryz.prog 88 #[.int .i64 s, .agg #[.int .i64 v.num, .int .i64 v.den, .slice A v.cells.length c, .int .i64 v.rest]] w fun e w' => e = .returned (.bool (gdV s v)) ∧ Below w.heap.size w w' := by
  have NEW := Lib.hid (new_below w (.cells #[.int .i64 v.num, .int .i64 v.den, .slice A v.cells.length c, .int .i64 v.rest] 47))
  have HV0 := Lib.hid (HB.new w 47 #[.int .i64 v.num, .int .i64 v.den, .slice A v.cells.length c, .int .i64 v.rest])
  by_cases h5 : s = 5
  · subst h5
    have HX := Lib.hid (fun W (hb : Below w.heap.size w W) => goodarray_any v A c hl W (h.below hb))
    unfold maxLen at hl
    generalize gdV 5 v = r at *
    generalize v.cells.length = L at *
    generalize v.num = n at *
    generalize v.den = d at *
    generalize v.rest = z at *
    clear hs h
    go_enter Tryz.func88, Tryz.ntmps88
    go_wp2_with fail
    refine (HX.out _ NEW.out).mono ?_
    rintro e w1 ⟨rfl, hb1⟩
    have HB1 := Lib.hid (below_after NEW.out hb1)
    clear hb1
    go_wp2_with fail
    go_ret
    exact ⟨rfl, HB1.out⟩
  · have HE : Hid (gdV s v = (decide (v.cells.length = 0) && v.rest == 0 && gdN s v.num v.den)) := Lib.hid (by rw [gdv_n s v h5]; cases v.cells <;> simp)
    have t5 : (s == 5) = false := by simpa using h5
    have HG := Lib.hid (fun W => goodR_any v.num v.den W)
    unfold maxLen at hl
    generalize gdV s v = r at *
    generalize v.cells.length = L at *
    generalize v.num = n at *
    generalize v.den = d at *
    generalize v.rest = z at *
    clear h
    by_cases hL : L = 0
    · subst hL
      by_cases hz : z = 0
      · subst hz
        have HE2 : Hid (r = gdN s n d) := Lib.hid (by rw [HE.out]; simp)
        clear HE
        cases hv : fvalid n d with
        | false =>
          have HF : Hid (r = false) := Lib.hid (by rw [HE2.out]; exact gdn_bad hv)
          rw [hv] at HG
          clear HE2 hv hs h5
          go_enter Tryz.func88, Tryz.ntmps88
          go_wp2_with fail
          refine (HG.out _).mono ?_
          rintro e w1 ⟨rfl, hb1⟩
          have HB1 := Lib.hid (below_after NEW.out hb1)
          clear hb1
          go_wp2_with fail
          go_ret
          exact ⟨by rw [HF.out]; rfl, HB1.out⟩
        | true =>
          rw [hv] at HG
          by_cases h3 : s = 3
          · subst h3
            have HF : Hid (r = true) := Lib.hid (by rw [HE2.out]; exact gdn_3 hv)
            clear HE2 hv hs h5
            go_enter Tryz.func88, Tryz.ntmps88
            go_wp2_with fail
            refine (HG.out _).mono ?_
            rintro e w1 ⟨rfl, hb1⟩
            have HB1 := Lib.hid (below_after NEW.out hb1)
            have HV1 := Lib.hid (HV0.out.below hb1)
            clear hb1
            obtain ⟨v0, v1, v2, v3, _⟩ := HV1.out.four
            have lv := HV1.out.lt
            go_wp2_with fail
            go_ret
            exact ⟨by rw [HF.out]; rfl, HB1.out⟩
          · have t3 : (s == 3) = false := by simpa using h3
            by_cases hd : d = 1
            · subst hd
              by_cases h2 : s = 2
              · subst h2
                have HF : Hid (r = true) := Lib.hid (by rw [HE2.out]; exact gdn_2 hv rfl)
                have HWB := Lib.hid (fun W => wordbits_any 2 W)
                have HWE : Hid (wBits 2 = 0) := Lib.hid rfl
                clear HE2 hv hs h5 h3
                generalize wBits 2 = wb at *
                go_enter Tryz.func88, Tryz.ntmps88
                go_wp2_with fail
                refine (HG.out _).mono ?_
                rintro e w1 ⟨rfl, hb1⟩
                have HB1 := Lib.hid (below_after NEW.out hb1)
                have HV1 := Lib.hid (HV0.out.below hb1)
                clear hb1
                obtain ⟨v0, v1, v2, v3, _⟩ := HV1.out.four
                have lv := HV1.out.lt
                go_wp2_with fail
                refine (HWB.out _).mono ?_
                rintro e w2 ⟨rfl, rfl⟩
                rw [HWE.out]
                go_wp2_with fail
                go_ret
                exact ⟨by rw [HF.out]; rfl, HB1.out⟩
              · have HE3 : Hid (r = (decide (0 ≤ n) && decide (n ≤ grt s))) := Lib.hid (by rw [HE2.out]; exact gdn_r hv h3 h2 rfl)
                clear HE2 hv
                by_cases h1 : s = 1
                · subst h1
                  by_cases h0 : n = 0
                  · subst h0
                    have HF : Hid (r = true) := Lib.hid (by rw [HE3.out]; rfl)
                    clear HE3 hs h5 h2 h3
                    go_enter Tryz.func88, Tryz.ntmps88
                    go_wp2_with fail
                    refine (HG.out _).mono ?_
                    rintro e w1 ⟨rfl, hb1⟩
                    have HB1 := Lib.hid (below_after NEW.out hb1)
                    have HV1 := Lib.hid (HV0.out.below hb1)
                    clear hb1
                    obtain ⟨v0, v1, v2, v3, _⟩ := HV1.out.four
                    have lv := HV1.out.lt
                    go_wp2_with fail
                    go_ret
                    exact ⟨by rw [HF.out]; rfl, HB1.out⟩
                  · have t0 : (n == 0) = false := by simpa using h0
                    have HF : Hid (r = (n == 1)) := Lib.hid (by rw [HE3.out, Bool.eq_iff_iff]; simp [grt]; omega)
                    clear HE3 hs h5 h2 h0 h3
                    go_enter Tryz.func88, Tryz.ntmps88
                    go_wp2_with fail
                    refine (HG.out _).mono ?_
                    rintro e w1 ⟨rfl, hb1⟩
                    have HB1 := Lib.hid (below_after NEW.out hb1)
                    have HV1 := Lib.hid (HV0.out.below hb1)
                    clear hb1
                    obtain ⟨v0, v1, v2, v3, _⟩ := HV1.out.four
                    have lv := HV1.out.lt
                    go_wp2_with fail
                    go_ret
                    exact ⟨by rw [HF.out]; rfl, HB1.out⟩
                · have t1 : (s == 1) = false := by simpa using h1
                  by_cases h4 : s = 4
                  · subst h4
                    have HF : Hid (r = !nTh n) := Lib.hid (by rw [HE3.out, Bool.eq_iff_iff]; unfold nTh; simp [grt])
                    have HT := Lib.hid (fun W => isthingR_any n W)
                    clear HE3 hs h5 h2 h1 h3
                    generalize (!nTh n) = q at *
                    go_enter Tryz.func88, Tryz.ntmps88
                    go_wp2_with fail
                    refine (HG.out _).mono ?_
                    rintro e w1 ⟨rfl, hb1⟩
                    have HB1 := Lib.hid (below_after NEW.out hb1)
                    have HV1 := Lib.hid (HV0.out.below hb1)
                    clear hb1
                    obtain ⟨v0, v1, v2, v3, _⟩ := HV1.out.four
                    have lv := HV1.out.lt
                    go_wp2_with fail
                    refine (HT.out _).mono ?_
                    rintro e w2 ⟨rfl, rfl⟩
                    go_wp2_with fail
                    go_ret
                    exact ⟨by rw [HF.out]; rfl, HB1.out⟩
                  · have t4 : (s == 4) = false := by simpa using h4
                    have hw : 11 ≤ s ∧ s ≤ 18 := by unfold okSo at hs; omega
                    have HG2 := Lib.hid (grt_w hw)
                    by_cases hn : 0 ≤ n
                    · have tn : decide (0 ≤ n) = true := by simpa using hn
                      rcases mds_cases hw with ⟨rfl, hm⟩ | ⟨rfl, hm⟩ | ⟨rfl, hm⟩ | ⟨rfl, hm⟩ | ⟨rfl, hm⟩ | ⟨rfl, hm⟩ | ⟨rfl, hm⟩ | ⟨rfl, hm⟩
                      · have HF : Hid (r = decide (n < 2)) := Lib.hid (by rw [HE3.out, HG2.out, hm, tn, Bool.true_and, decide_eq_decide]; constructor <;> intro h <;> omega)
                        have HWB := Lib.hid (fun W => wordbits_any 11 W)
                        clear HE3 hs h5 h2 h1 h4 h3 hw HG2 hm hn t3 t5 t1 t4
                        go_enter Tryz.func88, Tryz.ntmps88
                        go_wp2_with fail
                        refine (HG.out _).mono ?_
                        rintro e w1 ⟨rfl, hb1⟩
                        have HB1 := Lib.hid (below_after NEW.out hb1)
                        have HV1 := Lib.hid (HV0.out.below hb1)
                        clear hb1
                        obtain ⟨v0, v1, v2, v3, _⟩ := HV1.out.four
                        have lv := HV1.out.lt
                        go_wp2_with fail
                        refine (HWB.out _).mono ?_
                        rintro e w2 ⟨rfl, rfl⟩
                        rw [show wBits 11 = 1 from rfl]
                        go_wp2_with fail
                        go_ret
                        exact ⟨by rw [HF.out]; rfl, HB1.out⟩
                      · have HF : Hid (r = decide (n < 4)) := Lib.hid (by rw [HE3.out, HG2.out, hm, tn, Bool.true_and, decide_eq_decide]; constructor <;> intro h <;> omega)
                        have HWB := Lib.hid (fun W => wordbits_any 12 W)
                        clear HE3 hs h5 h2 h1 h4 h3 hw HG2 hm hn t3 t5 t1 t4
                        go_enter Tryz.func88, Tryz.ntmps88
                        go_wp2_with fail
                        refine (HG.out _).mono ?_
                        rintro e w1 ⟨rfl, hb1⟩
                        have HB1 := Lib.hid (below_after NEW.out hb1)
                        have HV1 := Lib.hid (HV0.out.below hb1)
                        clear hb1
                        obtain ⟨v0, v1, v2, v3, _⟩ := HV1.out.four
                        have lv := HV1.out.lt
                        go_wp2_with fail
                        refine (HWB.out _).mono ?_
                        rintro e w2 ⟨rfl, rfl⟩
                        rw [show wBits 12 = 2 from rfl]
                        go_wp2_with fail
                        go_ret
                        exact ⟨by rw [HF.out]; rfl, HB1.out⟩
                      · have HF : Hid (r = decide (n < 8)) := Lib.hid (by rw [HE3.out, HG2.out, hm, tn, Bool.true_and, decide_eq_decide]; constructor <;> intro h <;> omega)
                        have HWB := Lib.hid (fun W => wordbits_any 13 W)
                        clear HE3 hs h5 h2 h1 h4 h3 hw HG2 hm hn t3 t5 t1 t4
                        go_enter Tryz.func88, Tryz.ntmps88
                        go_wp2_with fail
                        refine (HG.out _).mono ?_
                        rintro e w1 ⟨rfl, hb1⟩
                        have HB1 := Lib.hid (below_after NEW.out hb1)
                        have HV1 := Lib.hid (HV0.out.below hb1)
                        clear hb1
                        obtain ⟨v0, v1, v2, v3, _⟩ := HV1.out.four
                        have lv := HV1.out.lt
                        go_wp2_with fail
                        refine (HWB.out _).mono ?_
                        rintro e w2 ⟨rfl, rfl⟩
                        rw [show wBits 13 = 3 from rfl]
                        go_wp2_with fail
                        go_ret
                        exact ⟨by rw [HF.out]; rfl, HB1.out⟩
                      · have HF : Hid (r = decide (n < 16)) := Lib.hid (by rw [HE3.out, HG2.out, hm, tn, Bool.true_and, decide_eq_decide]; constructor <;> intro h <;> omega)
                        have HWB := Lib.hid (fun W => wordbits_any 14 W)
                        clear HE3 hs h5 h2 h1 h4 h3 hw HG2 hm hn t3 t5 t1 t4
                        go_enter Tryz.func88, Tryz.ntmps88
                        go_wp2_with fail
                        refine (HG.out _).mono ?_
                        rintro e w1 ⟨rfl, hb1⟩
                        have HB1 := Lib.hid (below_after NEW.out hb1)
                        have HV1 := Lib.hid (HV0.out.below hb1)
                        clear hb1
                        obtain ⟨v0, v1, v2, v3, _⟩ := HV1.out.four
                        have lv := HV1.out.lt
                        go_wp2_with fail
                        refine (HWB.out _).mono ?_
                        rintro e w2 ⟨rfl, rfl⟩
                        rw [show wBits 14 = 4 from rfl]
                        go_wp2_with fail
                        go_ret
                        exact ⟨by rw [HF.out]; rfl, HB1.out⟩
                      · have HF : Hid (r = decide (n < 32)) := Lib.hid (by rw [HE3.out, HG2.out, hm, tn, Bool.true_and, decide_eq_decide]; constructor <;> intro h <;> omega)
                        have HWB := Lib.hid (fun W => wordbits_any 15 W)
                        clear HE3 hs h5 h2 h1 h4 h3 hw HG2 hm hn t3 t5 t1 t4
                        go_enter Tryz.func88, Tryz.ntmps88
                        go_wp2_with fail
                        refine (HG.out _).mono ?_
                        rintro e w1 ⟨rfl, hb1⟩
                        have HB1 := Lib.hid (below_after NEW.out hb1)
                        have HV1 := Lib.hid (HV0.out.below hb1)
                        clear hb1
                        obtain ⟨v0, v1, v2, v3, _⟩ := HV1.out.four
                        have lv := HV1.out.lt
                        go_wp2_with fail
                        refine (HWB.out _).mono ?_
                        rintro e w2 ⟨rfl, rfl⟩
                        rw [show wBits 15 = 5 from rfl]
                        go_wp2_with fail
                        go_ret
                        exact ⟨by rw [HF.out]; rfl, HB1.out⟩
                      · have HF : Hid (r = decide (n < 64)) := Lib.hid (by rw [HE3.out, HG2.out, hm, tn, Bool.true_and, decide_eq_decide]; constructor <;> intro h <;> omega)
                        have HWB := Lib.hid (fun W => wordbits_any 16 W)
                        clear HE3 hs h5 h2 h1 h4 h3 hw HG2 hm hn t3 t5 t1 t4
                        go_enter Tryz.func88, Tryz.ntmps88
                        go_wp2_with fail
                        refine (HG.out _).mono ?_
                        rintro e w1 ⟨rfl, hb1⟩
                        have HB1 := Lib.hid (below_after NEW.out hb1)
                        have HV1 := Lib.hid (HV0.out.below hb1)
                        clear hb1
                        obtain ⟨v0, v1, v2, v3, _⟩ := HV1.out.four
                        have lv := HV1.out.lt
                        go_wp2_with fail
                        refine (HWB.out _).mono ?_
                        rintro e w2 ⟨rfl, rfl⟩
                        rw [show wBits 16 = 6 from rfl]
                        go_wp2_with fail
                        go_ret
                        exact ⟨by rw [HF.out]; rfl, HB1.out⟩
                      · have HF : Hid (r = decide (n < 128)) := Lib.hid (by rw [HE3.out, HG2.out, hm, tn, Bool.true_and, decide_eq_decide]; constructor <;> intro h <;> omega)
                        have HWB := Lib.hid (fun W => wordbits_any 17 W)
                        clear HE3 hs h5 h2 h1 h4 h3 hw HG2 hm hn t3 t5 t1 t4
                        go_enter Tryz.func88, Tryz.ntmps88
                        go_wp2_with fail
                        refine (HG.out _).mono ?_
                        rintro e w1 ⟨rfl, hb1⟩
                        have HB1 := Lib.hid (below_after NEW.out hb1)
                        have HV1 := Lib.hid (HV0.out.below hb1)
                        clear hb1
                        obtain ⟨v0, v1, v2, v3, _⟩ := HV1.out.four
                        have lv := HV1.out.lt
                        go_wp2_with fail
                        refine (HWB.out _).mono ?_
                        rintro e w2 ⟨rfl, rfl⟩
                        rw [show wBits 17 = 7 from rfl]
                        go_wp2_with fail
                        go_ret
                        exact ⟨by rw [HF.out]; rfl, HB1.out⟩
                      · have HF : Hid (r = decide (n < 256)) := Lib.hid (by rw [HE3.out, HG2.out, hm, tn, Bool.true_and, decide_eq_decide]; constructor <;> intro h <;> omega)
                        have HWB := Lib.hid (fun W => wordbits_any 18 W)
                        clear HE3 hs h5 h2 h1 h4 h3 hw HG2 hm hn t3 t5 t1 t4
                        go_enter Tryz.func88, Tryz.ntmps88
                        go_wp2_with fail
                        refine (HG.out _).mono ?_
                        rintro e w1 ⟨rfl, hb1⟩
                        have HB1 := Lib.hid (below_after NEW.out hb1)
                        have HV1 := Lib.hid (HV0.out.below hb1)
                        clear hb1
                        obtain ⟨v0, v1, v2, v3, _⟩ := HV1.out.four
                        have lv := HV1.out.lt
                        go_wp2_with fail
                        refine (HWB.out _).mono ?_
                        rintro e w2 ⟨rfl, rfl⟩
                        rw [show wBits 18 = 8 from rfl]
                        go_wp2_with fail
                        go_ret
                        exact ⟨by rw [HF.out]; rfl, HB1.out⟩
                    · have tn : decide (0 ≤ n) = false := by simpa using hn
                      have HF : Hid (r = false) := Lib.hid (by rw [HE3.out, tn]; rfl)
                      have HWB := Lib.hid (fun W => wordbits_any s W)
                      have HWE : Hid (0 < wBits s) := Lib.hid (by unfold wBits; rw [if_pos ⟨by omega, by omega⟩]; omega)
                      clear HE3 hs h5 h2 h1 h4 h3 hw HG2 hn
                      generalize wBits s = wb at *
                      go_enter Tryz.func88, Tryz.ntmps88
                      go_wp2_with fail
                      refine (HG.out _).mono ?_
                      rintro e w1 ⟨rfl, hb1⟩
                      have HB1 := Lib.hid (below_after NEW.out hb1)
                      have HV1 := Lib.hid (HV0.out.below hb1)
                      clear hb1
                      obtain ⟨v0, v1, v2, v3, _⟩ := HV1.out.four
                      have lv := HV1.out.lt
                      go_wp2_with fail
                      refine (HWB.out _).mono ?_
                      rintro e w2 ⟨rfl, rfl⟩
                      have tb : decide (0 < wb) = true := by simpa using HWE.out
                      go_wp2_with fail
                      go_ret
                      exact ⟨by rw [HF.out]; rfl, HB1.out⟩
            · have td : (d != 1) = true := by simpa using hd
              have HF : Hid (r = false) := Lib.hid (by rw [HE2.out]; exact gdn_den h3 hd)
              clear HE2 hv hs h5 hd h3
              go_enter Tryz.func88, Tryz.ntmps88
              go_wp2_with fail
              refine (HG.out _).mono ?_
              rintro e w1 ⟨rfl, hb1⟩
              have HB1 := Lib.hid (below_after NEW.out hb1)
              have HV1 := Lib.hid (HV0.out.below hb1)
              clear hb1
              obtain ⟨v0, v1, v2, v3, _⟩ := HV1.out.four
              have lv := HV1.out.lt
              go_wp2_with fail
              go_ret
              exact ⟨by rw [HF.out]; rfl, HB1.out⟩
      · have tz : (z != 0) = true := by simpa using hz
        have HF : Hid (r = false) := Lib.hid (by rw [HE.out]; simp [hz])
        clear HE hz hs h5
        go_enter Tryz.func88, Tryz.ntmps88
        go_wp2_with fail
        go_ret
        exact ⟨by rw [HF.out]; rfl, NEW.out⟩
    · have d1 : decide ((0 : Int) < L) = true := by simp; omega
      have d2 : decide (0 < L) = true := by simp; omega
      have HF : Hid (r = false) := Lib.hid (by rw [HE.out]; simp [hL])
      clear HE hL hs h5
      go_enter Tryz.func88, Tryz.ntmps88
      go_wp2_with fail
      go_ret
      exact ⟨by rw [HF.out]; rfl, NEW.out⟩
end Go.Proofs.YtaodebpogibimaaGreat
namespace Go.Proofs.YtaodebpogibimaaGreat
open Go.RowKit

theorem isfr_low {n d : Int} (h : d < 1) : isFr n d = false := by
  unfold isFr
  simp
  omega
theorem isfr_gcd {n d : Int} (h1 : -1000000 ≤ n) (h2 : n ≤ 1000000) (h3 : 1 ≤ d) (h4 : d ≤ 1000000) {b : Bool} (h : ((Nat.gcd (mag n) (mag d) : Int) != 1) = !b) : isFr n d = b := by
  have e : isFr n d = !((Nat.gcd (mag n) (mag d) : Int) != 1) := by
    unfold isFr
    by_cases z : Nat.gcd (mag n) (mag d) = 1
    · simp [z, h1, h2, h3, h4]
    · have : ¬ ((Nat.gcd (mag n) (mag d) : Int) = 1) := by omega
      simp [z, this]
  rw [e, h]; simp
set_option maxHeartbeats 1000000 in
theorem fx30_10 (n d : Int) (nm : ByteArray) (A : Option Addr) (k c : Nat) (w : World) :
    Calls Tryz.prog 46 #[.agg #[.int .i64 10, .slice A k c, .int .i64 n, .int .i64 d, .string nm]] w fun e w' => e = .returned (.int .i64 (flC 10 n d nm.toList.isEmpty)) ∧ Below w.heap.size w w' := by
  have go : ∀ r : Int, flC 10 n d nm.toList.isEmpty = r → (Calls Tryz.prog 46 #[.agg #[.int .i64 10, .slice A k c, .int .i64 n, .int .i64 d, .string nm]] w fun e w' => e = .returned (.int .i64 r) ∧ Below w.heap.size w w') → Calls Tryz.prog 46 #[.agg #[.int .i64 10, .slice A k c, .int .i64 n, .int .i64 d, .string nm]] w fun e w' => e = .returned (.int .i64 (flC 10 n d nm.toList.isEmpty)) ∧ Below w.heap.size w w' := fun r hr h => by rw [hr]; exact h
  rcases tl_b nm with he | he
  · rcases (show (n < -1000000) ∨ (1000000 < n) ∨ (n = 0) ∨ (-1000000 ≤ n ∧ n ≤ 1000000 ∧ n ≠ 0) from by omega) with yn | yn | yn | yn
    · rcases (show (d = 0) ∨ (d ≠ 0) from by omega) with yd | yd
      · refine go 3 ?_ (fl30_60 n d nm A k c w (by omega) (by omega) he)
        unfold flC; rw [he]; rw [isfr_no (by omega)]; subst yd; (first | (simp; done) | (simp; omega) | omega)
      · refine go 3 ?_ (fl30_61 n d nm A k c w (by omega) (by omega) he)
        unfold flC; rw [he]; rw [isfr_no (by omega)]; (first | (simp; done) | (simp; omega) | omega)
    · rcases (show (d = 0) ∨ (d ≠ 0) from by omega) with yd | yd
      · refine go 3 ?_ (fl30_62 n d nm A k c w (by omega) (by omega) he)
        unfold flC; rw [he]; rw [isfr_no (by omega)]; subst yd; (first | (simp; done) | (simp; omega) | omega)
      · refine go 3 ?_ (fl30_63 n d nm A k c w (by omega) (by omega) he)
        unfold flC; rw [he]; rw [isfr_no (by omega)]; (first | (simp; done) | (simp; omega) | omega)
    · rcases (show (d = 0) ∨ (d < 0) ∨ (1000000 < d) ∨ (1 ≤ d ∧ d ≤ 1000000) from by omega) with yd | yd | yd | yd
      · refine go 3 ?_ (fl30_64 n d nm A k c w (by omega) (by omega) he)
        unfold flC; rw [he]; rw [isfr_low (by omega)]; subst yn; subst yd; (first | (simp; done) | (simp; omega) | omega)
      · refine go 3 ?_ (fl30_65 n d nm A k c w (by omega) (by omega) he)
        unfold flC; rw [he]; rw [isfr_low (by omega)]; subst yn; (first | (simp; done) | (simp; omega) | omega)
      · refine go 3 ?_ (fl30_66 n d nm A k c w (by omega) (by omega) he)
        unfold flC; rw [he]; rw [isfr_no (by omega)]; subst yn; (first | (simp; done) | (simp; omega) | omega)
      · cases hf : ((Nat.gcd (mag n) (mag d) : Int) != 1) with
        | true =>
          refine go 3 ?_ (fl30_68 n d nm A k c w (by omega) (by omega) he hf)
          unfold flC; rw [he]; subst yn; rw [isfr_gcd (b := false) (by omega) (by omega) (by omega) (by omega) (by rw [hf]; rfl)]; simp
        | false =>
          refine go 0 ?_ (fl30_67 n d nm A k c w (by omega) (by omega) he hf)
          unfold flC; rw [he]; subst yn; rw [isfr_gcd (b := true) (by omega) (by omega) (by omega) (by omega) (by rw [hf]; rfl)]; simp
    · rcases (show (d = 0) ∨ (d < 0) ∨ (1000000 < d) ∨ (1 ≤ d ∧ d ≤ 1000000) from by omega) with yd | yd | yd | yd
      · refine go 3 ?_ (fl30_69 n d nm A k c w (by omega) (by omega) he)
        unfold flC; rw [he]; rw [isfr_low (by omega)]; subst yd; (first | (simp; done) | (simp; omega) | omega)
      · refine go 3 ?_ (fl30_70 n d nm A k c w (by omega) (by omega) he)
        unfold flC; rw [he]; rw [isfr_low (by omega)]; (first | (simp; done) | (simp; omega) | omega)
      · refine go 3 ?_ (fl30_71 n d nm A k c w (by omega) (by omega) he)
        unfold flC; rw [he]; rw [isfr_no (by omega)]; (first | (simp; done) | (simp; omega) | omega)
      · cases hf : ((Nat.gcd (mag n) (mag d) : Int) != 1) with
        | true =>
          refine go 3 ?_ (fl30_73 n d nm A k c w (by omega) (by omega) he hf)
          unfold flC; rw [he]; rw [isfr_gcd (b := false) (by omega) (by omega) (by omega) (by omega) (by rw [hf]; rfl)]; simp
        | false =>
          refine go 0 ?_ (fl30_72 n d nm A k c w (by omega) (by omega) he hf)
          unfold flC; rw [he]; rw [isfr_gcd (b := true) (by omega) (by omega) (by omega) (by omega) (by rw [hf]; rfl)]; simp
  · refine go 5 ?_ (fl30_0 n d nm A k c w he)
    unfold flC; rw [he]; (first | (simp; done) | (simp; omega) | omega)
set_option maxHeartbeats 1000000 in
theorem fx30_12 (n d : Int) (nm : ByteArray) (A : Option Addr) (k c : Nat) (w : World) :
    Calls Tryz.prog 46 #[.agg #[.int .i64 12, .slice A k c, .int .i64 n, .int .i64 d, .string nm]] w fun e w' => e = .returned (.int .i64 (flC 12 n d nm.toList.isEmpty)) ∧ Below w.heap.size w w' := by
  have go : ∀ r : Int, flC 12 n d nm.toList.isEmpty = r → (Calls Tryz.prog 46 #[.agg #[.int .i64 12, .slice A k c, .int .i64 n, .int .i64 d, .string nm]] w fun e w' => e = .returned (.int .i64 r) ∧ Below w.heap.size w w') → Calls Tryz.prog 46 #[.agg #[.int .i64 12, .slice A k c, .int .i64 n, .int .i64 d, .string nm]] w fun e w' => e = .returned (.int .i64 (flC 12 n d nm.toList.isEmpty)) ∧ Below w.heap.size w w' := fun r hr h => by rw [hr]; exact h
  rcases tl_b nm with he | he
  · rcases (show (n < -1000000) ∨ (1000000 < n) ∨ (n = 0) ∨ (-1000000 ≤ n ∧ n ≤ 1000000 ∧ n ≠ 0) from by omega) with yn | yn | yn | yn
    · rcases (show (d = 0) ∨ (d ≠ 0) from by omega) with yd | yd
      · refine go 3 ?_ (fl30_74 n d nm A k c w (by omega) (by omega) he)
        unfold flC; rw [he]; rw [isfr_no (by omega)]; subst yd; (first | (simp; done) | (simp; omega) | omega)
      · refine go 3 ?_ (fl30_75 n d nm A k c w (by omega) (by omega) he)
        unfold flC; rw [he]; rw [isfr_no (by omega)]; (first | (simp; done) | (simp; omega) | omega)
    · rcases (show (d = 0) ∨ (d ≠ 0) from by omega) with yd | yd
      · refine go 3 ?_ (fl30_76 n d nm A k c w (by omega) (by omega) he)
        unfold flC; rw [he]; rw [isfr_no (by omega)]; subst yd; (first | (simp; done) | (simp; omega) | omega)
      · refine go 3 ?_ (fl30_77 n d nm A k c w (by omega) (by omega) he)
        unfold flC; rw [he]; rw [isfr_no (by omega)]; (first | (simp; done) | (simp; omega) | omega)
    · rcases (show (d = 0) ∨ (d < 0) ∨ (1000000 < d) ∨ (1 ≤ d ∧ d ≤ 1000000) from by omega) with yd | yd | yd | yd
      · refine go 3 ?_ (fl30_78 n d nm A k c w (by omega) (by omega) he)
        unfold flC; rw [he]; rw [isfr_low (by omega)]; subst yn; subst yd; (first | (simp; done) | (simp; omega) | omega)
      · refine go 3 ?_ (fl30_79 n d nm A k c w (by omega) (by omega) he)
        unfold flC; rw [he]; rw [isfr_low (by omega)]; subst yn; (first | (simp; done) | (simp; omega) | omega)
      · refine go 3 ?_ (fl30_80 n d nm A k c w (by omega) (by omega) he)
        unfold flC; rw [he]; rw [isfr_no (by omega)]; subst yn; (first | (simp; done) | (simp; omega) | omega)
      · cases hf : ((Nat.gcd (mag n) (mag d) : Int) != 1) with
        | true =>
          refine go 3 ?_ (fl30_82 n d nm A k c w (by omega) (by omega) he hf)
          unfold flC; rw [he]; subst yn; rw [isfr_gcd (b := false) (by omega) (by omega) (by omega) (by omega) (by rw [hf]; rfl)]; simp
        | false =>
          refine go 0 ?_ (fl30_81 n d nm A k c w (by omega) (by omega) he hf)
          unfold flC; rw [he]; subst yn; rw [isfr_gcd (b := true) (by omega) (by omega) (by omega) (by omega) (by rw [hf]; rfl)]; simp
    · rcases (show (d = 0) ∨ (d < 0) ∨ (1000000 < d) ∨ (1 ≤ d ∧ d ≤ 1000000) from by omega) with yd | yd | yd | yd
      · refine go 3 ?_ (fl30_83 n d nm A k c w (by omega) (by omega) he)
        unfold flC; rw [he]; rw [isfr_low (by omega)]; subst yd; (first | (simp; done) | (simp; omega) | omega)
      · refine go 3 ?_ (fl30_84 n d nm A k c w (by omega) (by omega) he)
        unfold flC; rw [he]; rw [isfr_low (by omega)]; (first | (simp; done) | (simp; omega) | omega)
      · refine go 3 ?_ (fl30_85 n d nm A k c w (by omega) (by omega) he)
        unfold flC; rw [he]; rw [isfr_no (by omega)]; (first | (simp; done) | (simp; omega) | omega)
      · cases hf : ((Nat.gcd (mag n) (mag d) : Int) != 1) with
        | true =>
          refine go 3 ?_ (fl30_87 n d nm A k c w (by omega) (by omega) he hf)
          unfold flC; rw [he]; rw [isfr_gcd (b := false) (by omega) (by omega) (by omega) (by omega) (by rw [hf]; rfl)]; simp
        | false =>
          refine go 0 ?_ (fl30_86 n d nm A k c w (by omega) (by omega) he hf)
          unfold flC; rw [he]; rw [isfr_gcd (b := true) (by omega) (by omega) (by omega) (by omega) (by rw [hf]; rfl)]; simp
  · refine go 5 ?_ (fl30_1 n d nm A k c w he)
    unfold flC; rw [he]; (first | (simp; done) | (simp; omega) | omega)
set_option maxHeartbeats 1000000 in
theorem fx30_15 (n d : Int) (nm : ByteArray) (A : Option Addr) (k c : Nat) (w : World) :
    Calls Tryz.prog 46 #[.agg #[.int .i64 15, .slice A k c, .int .i64 n, .int .i64 d, .string nm]] w fun e w' => e = .returned (.int .i64 (flC 15 n d nm.toList.isEmpty)) ∧ Below w.heap.size w w' := by
  have go : ∀ r : Int, flC 15 n d nm.toList.isEmpty = r → (Calls Tryz.prog 46 #[.agg #[.int .i64 15, .slice A k c, .int .i64 n, .int .i64 d, .string nm]] w fun e w' => e = .returned (.int .i64 r) ∧ Below w.heap.size w w') → Calls Tryz.prog 46 #[.agg #[.int .i64 15, .slice A k c, .int .i64 n, .int .i64 d, .string nm]] w fun e w' => e = .returned (.int .i64 (flC 15 n d nm.toList.isEmpty)) ∧ Below w.heap.size w w' := fun r hr h => by rw [hr]; exact h
  rcases tl_b nm with he | he
  · rcases (show (d < 0) ∨ (d = 0) ∨ (8 < d) ∨ (d = 1) ∨ (d = 2) ∨ (d = 3) ∨ (d = 4) ∨ (d = 5) ∨ (d = 6) ∨ (d = 7) ∨ (d = 8) from by omega) with yd | yd | yd | yd | yd | yd | yd | yd | yd | yd | yd
    · rcases (show (n = 0) ∨ (n ≠ 0) from by omega) with yn | yn
      · refine go 3 ?_ (fl30_3 n d nm A k c w (by omega) (by omega) he)
        unfold flC; rw [he]; subst yn; (first | (simp; done) | (simp; omega) | omega)
      · refine go 3 ?_ (fl30_4 n d nm A k c w (by omega) (by omega) he)
        unfold flC; rw [he]; (first | (simp; done) | (simp; omega) | omega)
    · rcases (show (n = 0) ∨ (n ≠ 0) from by omega) with yn | yn
      · refine go 3 ?_ (fl30_5 n d nm A k c w (by omega) (by omega) he)
        unfold flC; rw [he]; subst yn; subst yd; (first | (simp; done) | (simp; omega) | omega)
      · refine go 3 ?_ (fl30_6 n d nm A k c w (by omega) (by omega) he)
        unfold flC; rw [he]; subst yd; (first | (simp; done) | (simp; omega) | omega)
    · rcases (show (n = 0) ∨ (n ≠ 0) from by omega) with yn | yn
      · refine go 3 ?_ (fl30_7 n d nm A k c w (by omega) (by omega) he)
        unfold flC; rw [he]; subst yn; (first | (simp; done) | (simp; omega) | omega)
      · refine go 3 ?_ (fl30_8 n d nm A k c w (by omega) (by omega) he)
        unfold flC; rw [he]; (first | (simp; done) | (simp; omega) | omega)
    · rcases (show (n < 0) ∨ (n = 0) ∨ (0 < n ∧ n < 2) ∨ (2 ≤ n) from by omega) with yn | yn | yn | yn
      · refine go 3 ?_ (fl30_9 n d nm A k c w (by omega) (by omega) he)
        unfold flC; rw [he]; subst yd; (first | (simp; done) | (simp; omega) | omega)
      · refine go 0 ?_ (fl30_10 n d nm A k c w (by omega) (by omega) he)
        unfold flC; rw [he]; subst yn; subst yd; (first | (simp; done) | (simp; omega) | omega)
      · refine go 0 ?_ (fl30_11 n d nm A k c w (by omega) (by omega) he)
        unfold flC; rw [he]; subst yd; (first | (simp; done) | (simp; omega) | omega)
      · refine go 3 ?_ (fl30_12 n d nm A k c w (by omega) (by omega) he)
        unfold flC; rw [he]; subst yd; (first | (simp; done) | (simp; omega) | omega)
    · rcases (show (n < 0) ∨ (n = 0) ∨ (0 < n ∧ n < 4) ∨ (4 ≤ n) from by omega) with yn | yn | yn | yn
      · refine go 3 ?_ (fl30_13 n d nm A k c w (by omega) (by omega) he)
        unfold flC; rw [he]; subst yd; (first | (simp; done) | (simp; omega) | omega)
      · refine go 0 ?_ (fl30_14 n d nm A k c w (by omega) (by omega) he)
        unfold flC; rw [he]; subst yn; subst yd; (first | (simp; done) | (simp; omega) | omega)
      · refine go 0 ?_ (fl30_15 n d nm A k c w (by omega) (by omega) he)
        unfold flC; rw [he]; subst yd; (first | (simp; done) | (simp; omega) | omega)
      · refine go 3 ?_ (fl30_16 n d nm A k c w (by omega) (by omega) he)
        unfold flC; rw [he]; subst yd; (first | (simp; done) | (simp; omega) | omega)
    · rcases (show (n < 0) ∨ (n = 0) ∨ (0 < n ∧ n < 8) ∨ (8 ≤ n) from by omega) with yn | yn | yn | yn
      · refine go 3 ?_ (fl30_17 n d nm A k c w (by omega) (by omega) he)
        unfold flC; rw [he]; subst yd; (first | (simp; done) | (simp; omega) | omega)
      · refine go 0 ?_ (fl30_18 n d nm A k c w (by omega) (by omega) he)
        unfold flC; rw [he]; subst yn; subst yd; (first | (simp; done) | (simp; omega) | omega)
      · refine go 0 ?_ (fl30_19 n d nm A k c w (by omega) (by omega) he)
        unfold flC; rw [he]; subst yd; (first | (simp; done) | (simp; omega) | omega)
      · refine go 3 ?_ (fl30_20 n d nm A k c w (by omega) (by omega) he)
        unfold flC; rw [he]; subst yd; (first | (simp; done) | (simp; omega) | omega)
    · rcases (show (n < 0) ∨ (n = 0) ∨ (0 < n ∧ n < 16) ∨ (16 ≤ n) from by omega) with yn | yn | yn | yn
      · refine go 3 ?_ (fl30_21 n d nm A k c w (by omega) (by omega) he)
        unfold flC; rw [he]; subst yd; (first | (simp; done) | (simp; omega) | omega)
      · refine go 0 ?_ (fl30_22 n d nm A k c w (by omega) (by omega) he)
        unfold flC; rw [he]; subst yn; subst yd; (first | (simp; done) | (simp; omega) | omega)
      · refine go 0 ?_ (fl30_23 n d nm A k c w (by omega) (by omega) he)
        unfold flC; rw [he]; subst yd; (first | (simp; done) | (simp; omega) | omega)
      · refine go 3 ?_ (fl30_24 n d nm A k c w (by omega) (by omega) he)
        unfold flC; rw [he]; subst yd; (first | (simp; done) | (simp; omega) | omega)
    · rcases (show (n < 0) ∨ (n = 0) ∨ (0 < n ∧ n < 32) ∨ (32 ≤ n) from by omega) with yn | yn | yn | yn
      · refine go 3 ?_ (fl30_25 n d nm A k c w (by omega) (by omega) he)
        unfold flC; rw [he]; subst yd; (first | (simp; done) | (simp; omega) | omega)
      · refine go 0 ?_ (fl30_26 n d nm A k c w (by omega) (by omega) he)
        unfold flC; rw [he]; subst yn; subst yd; (first | (simp; done) | (simp; omega) | omega)
      · refine go 0 ?_ (fl30_27 n d nm A k c w (by omega) (by omega) he)
        unfold flC; rw [he]; subst yd; (first | (simp; done) | (simp; omega) | omega)
      · refine go 3 ?_ (fl30_28 n d nm A k c w (by omega) (by omega) he)
        unfold flC; rw [he]; subst yd; (first | (simp; done) | (simp; omega) | omega)
    · rcases (show (n < 0) ∨ (n = 0) ∨ (0 < n ∧ n < 64) ∨ (64 ≤ n) from by omega) with yn | yn | yn | yn
      · refine go 3 ?_ (fl30_29 n d nm A k c w (by omega) (by omega) he)
        unfold flC; rw [he]; subst yd; (first | (simp; done) | (simp; omega) | omega)
      · refine go 0 ?_ (fl30_30 n d nm A k c w (by omega) (by omega) he)
        unfold flC; rw [he]; subst yn; subst yd; (first | (simp; done) | (simp; omega) | omega)
      · refine go 0 ?_ (fl30_31 n d nm A k c w (by omega) (by omega) he)
        unfold flC; rw [he]; subst yd; (first | (simp; done) | (simp; omega) | omega)
      · refine go 3 ?_ (fl30_32 n d nm A k c w (by omega) (by omega) he)
        unfold flC; rw [he]; subst yd; (first | (simp; done) | (simp; omega) | omega)
    · rcases (show (n < 0) ∨ (n = 0) ∨ (0 < n ∧ n < 128) ∨ (128 ≤ n) from by omega) with yn | yn | yn | yn
      · refine go 3 ?_ (fl30_33 n d nm A k c w (by omega) (by omega) he)
        unfold flC; rw [he]; subst yd; (first | (simp; done) | (simp; omega) | omega)
      · refine go 0 ?_ (fl30_34 n d nm A k c w (by omega) (by omega) he)
        unfold flC; rw [he]; subst yn; subst yd; (first | (simp; done) | (simp; omega) | omega)
      · refine go 0 ?_ (fl30_35 n d nm A k c w (by omega) (by omega) he)
        unfold flC; rw [he]; subst yd; (first | (simp; done) | (simp; omega) | omega)
      · refine go 3 ?_ (fl30_36 n d nm A k c w (by omega) (by omega) he)
        unfold flC; rw [he]; subst yd; (first | (simp; done) | (simp; omega) | omega)
    · rcases (show (n < 0) ∨ (n = 0) ∨ (0 < n ∧ n < 256) ∨ (256 ≤ n) from by omega) with yn | yn | yn | yn
      · refine go 3 ?_ (fl30_37 n d nm A k c w (by omega) (by omega) he)
        unfold flC; rw [he]; subst yd; (first | (simp; done) | (simp; omega) | omega)
      · refine go 0 ?_ (fl30_38 n d nm A k c w (by omega) (by omega) he)
        unfold flC; rw [he]; subst yn; subst yd; (first | (simp; done) | (simp; omega) | omega)
      · refine go 0 ?_ (fl30_39 n d nm A k c w (by omega) (by omega) he)
        unfold flC; rw [he]; subst yd; (first | (simp; done) | (simp; omega) | omega)
      · refine go 3 ?_ (fl30_40 n d nm A k c w (by omega) (by omega) he)
        unfold flC; rw [he]; subst yd; (first | (simp; done) | (simp; omega) | omega)
  · refine go 5 ?_ (fl30_2 n d nm A k c w he)
    unfold flC; rw [he]; (first | (simp; done) | (simp; omega) | omega)
set_option maxHeartbeats 1000000 in
theorem fx30_23 (n d : Int) (nm : ByteArray) (A : Option Addr) (k c : Nat) (w : World) :
    Calls Tryz.prog 46 #[.agg #[.int .i64 23, .slice A k c, .int .i64 n, .int .i64 d, .string nm]] w fun e w' => e = .returned (.int .i64 (flC 23 n d nm.toList.isEmpty)) ∧ Below w.heap.size w w' := by
  have go : ∀ r : Int, flC 23 n d nm.toList.isEmpty = r → (Calls Tryz.prog 46 #[.agg #[.int .i64 23, .slice A k c, .int .i64 n, .int .i64 d, .string nm]] w fun e w' => e = .returned (.int .i64 r) ∧ Below w.heap.size w w') → Calls Tryz.prog 46 #[.agg #[.int .i64 23, .slice A k c, .int .i64 n, .int .i64 d, .string nm]] w fun e w' => e = .returned (.int .i64 (flC 23 n d nm.toList.isEmpty)) ∧ Below w.heap.size w w' := fun r hr h => by rw [hr]; exact h
  rcases tl_b nm with he | he
  · rcases (show (d ≠ 0) ∨ (d = 0) from by omega) with yd | yd
    · rcases (show (n < 0) ∨ (n = 0) ∨ (0 < n ∧ n ≤ 8) ∨ (8 < n) from by omega) with yn | yn | yn | yn
      · refine go 5 ?_ (fl30_42 n d nm A k c w (by omega) (by omega) he)
        unfold flC; rw [he]; (first | (simp; done) | (simp; omega) | omega)
      · refine go 5 ?_ (fl30_44 n d nm A k c w (by omega) (by omega) he)
        unfold flC; rw [he]; subst yn; (first | (simp; done) | (simp; omega) | omega)
      · refine go 5 ?_ (fl30_46 n d nm A k c w (by omega) (by omega) he)
        unfold flC; rw [he]; (first | (simp; done) | (simp; omega) | omega)
      · refine go 5 ?_ (fl30_48 n d nm A k c w (by omega) (by omega) he)
        unfold flC; rw [he]; (first | (simp; done) | (simp; omega) | omega)
    · rcases (show (n < 0) ∨ (n = 0) ∨ (0 < n ∧ n ≤ 8) ∨ (8 < n) from by omega) with yn | yn | yn | yn
      · refine go 3 ?_ (fl30_43 n d nm A k c w (by omega) (by omega) he)
        unfold flC; rw [he]; subst yd; (first | (simp; done) | (simp; omega) | omega)
      · refine go 0 ?_ (fl30_45 n d nm A k c w (by omega) (by omega) he)
        unfold flC; rw [he]; subst yn; subst yd; (first | (simp; done) | (simp; omega) | omega)
      · refine go 0 ?_ (fl30_47 n d nm A k c w (by omega) (by omega) he)
        unfold flC; rw [he]; subst yd; (first | (simp; done) | (simp; omega) | omega)
      · refine go 3 ?_ (fl30_49 n d nm A k c w (by omega) (by omega) he)
        unfold flC; rw [he]; subst yd; (first | (simp; done) | (simp; omega) | omega)
  · refine go 5 ?_ (fl30_41 n d nm A k c w he)
    unfold flC; rw [he]; (first | (simp; done) | (simp; omega) | omega)
set_option maxHeartbeats 1000000 in
theorem fx30_9 (n d : Int) (nm : ByteArray) (A : Option Addr) (k c : Nat) (w : World) :
    Calls Tryz.prog 46 #[.agg #[.int .i64 9, .slice A k c, .int .i64 n, .int .i64 d, .string nm]] w fun e w' => e = .returned (.int .i64 (flC 9 n d nm.toList.isEmpty)) ∧ Below w.heap.size w w' := by
  have go : ∀ r : Int, flC 9 n d nm.toList.isEmpty = r → (Calls Tryz.prog 46 #[.agg #[.int .i64 9, .slice A k c, .int .i64 n, .int .i64 d, .string nm]] w fun e w' => e = .returned (.int .i64 r) ∧ Below w.heap.size w w') → Calls Tryz.prog 46 #[.agg #[.int .i64 9, .slice A k c, .int .i64 n, .int .i64 d, .string nm]] w fun e w' => e = .returned (.int .i64 (flC 9 n d nm.toList.isEmpty)) ∧ Below w.heap.size w w' := fun r hr h => by rw [hr]; exact h
  rcases tl_b nm with he | he
  · rcases (show (n ≠ 0) ∨ (n = 0) from by omega) with yn | yn
    · refine go 5 ?_ (fl30_50 n d nm A k c w (by omega) he)
      unfold flC; rw [he]; (first | (simp; done) | (simp; omega) | omega)
    · rcases (show (d ≠ 0) ∨ (d = 0) from by omega) with yd | yd
      · refine go 5 ?_ (fl30_51 n d nm A k c w (by omega) (by omega) he)
        unfold flC; rw [he]; subst yn; (first | (simp; done) | (simp; omega) | omega)
      · refine go 0 ?_ (fl30_52 n d nm A k c w (by omega) (by omega) he)
        unfold flC; rw [he]; subst yn; subst yd; (first | (simp; done) | (simp; omega) | omega)
  · rcases (show (n ≠ 0) ∨ (n = 0) from by omega) with yn | yn
    · refine go 5 ?_ (fl30_53 n d nm A k c w (by omega) he)
      unfold flC; rw [he]; (first | (simp; done) | (simp; omega) | omega)
    · rcases (show (d ≠ 0) ∨ (d = 0) from by omega) with yd | yd
      · refine go 5 ?_ (fl30_54 n d nm A k c w (by omega) (by omega) he)
        unfold flC; rw [he]; subst yn; (first | (simp; done) | (simp; omega) | omega)
      · refine go 0 ?_ (fl30_55 n d nm A k c w (by omega) (by omega) he)
        unfold flC; rw [he]; subst yn; subst yd; (first | (simp; done) | (simp; omega) | omega)
set_option maxHeartbeats 1000000 in
theorem fx30_o (op n d : Int) (nm : ByteArray) (A : Option Addr) (k c : Nat) (w : World) (g1 : op ≠ 10) (g2 : op ≠ 12) (g3 : op ≠ 15) (g4 : op ≠ 23) (g5 : op ≠ 9) :
    Calls Tryz.prog 46 #[.agg #[.int .i64 op, .slice A k c, .int .i64 n, .int .i64 d, .string nm]] w fun e w' => e = .returned (.int .i64 (flC op n d nm.toList.isEmpty)) ∧ Below w.heap.size w w' := by
  have go : ∀ r : Int, flC op n d nm.toList.isEmpty = r → (Calls Tryz.prog 46 #[.agg #[.int .i64 op, .slice A k c, .int .i64 n, .int .i64 d, .string nm]] w fun e w' => e = .returned (.int .i64 r) ∧ Below w.heap.size w w') → Calls Tryz.prog 46 #[.agg #[.int .i64 op, .slice A k c, .int .i64 n, .int .i64 d, .string nm]] w fun e w' => e = .returned (.int .i64 (flC op n d nm.toList.isEmpty)) ∧ Below w.heap.size w w' := fun r hr h => by rw [hr]; exact h
  rcases tl_b nm with he | he
  · rcases (show (n ≠ 0) ∨ (n = 0) from by omega) with yn | yn
    · refine go 5 ?_ (fl30_57 op n d nm A k c w (by simpa using g1) (by simpa using g2) (by simpa using g3) (by simpa using g4) (by simpa using g5) (by simpa using g3) (by simpa using g4) (by omega) he)
      unfold flC; rw [he]; (first | (simp; done) | (simp; omega) | omega)
    · rcases (show (d ≠ 0) ∨ (d = 0) from by omega) with yd | yd
      · refine go 5 ?_ (fl30_58 op n d nm A k c w (by simpa using g1) (by simpa using g2) (by simpa using g3) (by simpa using g4) (by simpa using g5) (by simpa using g3) (by simpa using g4) (by omega) (by omega) he)
        unfold flC; rw [he]; subst yn; (first | (simp; done) | (simp; omega) | omega)
      · refine go 0 ?_ (fl30_59 op n d nm A k c w (by simpa using g1) (by simpa using g2) (by simpa using g3) (by simpa using g4) (by simpa using g5) (by simpa using g3) (by simpa using g4) (by omega) (by omega) he)
        unfold flC; rw [he]; subst yn; subst yd; (first | (simp; done) | (simp; omega) | omega)
  · refine go 5 ?_ (fl30_56 op n d nm A k c w (by simpa using g1) (by simpa using g2) (by simpa using g3) (by simpa using g4) (by simpa using g5) (by simpa using g3) (by simpa using g4) he)
    unfold flC; rw [he]; (first | (simp; done) | (simp; omega) | omega)
theorem fieldsfault_any (op n d : Int) (nm : ByteArray) (A : Option Addr) (k c : Nat) (w : World) :
    Calls Tryz.prog 46 #[.agg #[.int .i64 op, .slice A k c, .int .i64 n, .int .i64 d, .string nm]] w fun e w' => e = .returned (.int .i64 (flC op n d nm.toList.isEmpty)) ∧ Below w.heap.size w w' := by
  rcases (show op = 10 ∨ op = 12 ∨ op = 15 ∨ op = 23 ∨ op = 9 ∨ (op ≠ 10 ∧ op ≠ 12 ∧ op ≠ 15 ∧ op ≠ 23 ∧ op ≠ 9) from by omega) with rfl | rfl | rfl | rfl | rfl | ⟨g1, g2, g3, g4, g5⟩
  · exact fx30_10 n d nm A k c w
  · exact fx30_12 n d nm A k c w
  · exact fx30_15 n d nm A k c w
  · exact fx30_23 n d nm A k c w
  · exact fx30_9 n d nm A k c w
  · exact fx30_o op n d nm A k c w g1 g2 g3 g4 g5
end Go.Proofs.YtaodebpogibimaaGreat
namespace Go.Proofs.YtaodebpogibimaaGreat
open Go.RowKit

/-- The letter that a kid at a place must be. -/
def ltAt (s : ByteArray) (k : Nat) : Int := if k < s.size ∧ bs s k ≠ 42 then bs s k else bs s 0
def okK (s : ByteArray) (ks : List Int) (k : Nat) : Bool := ftC (ltAt s k) (nth ks k) && !((ltAt s k == 119) && (nth ks k != nth ks 0))
theorem lt_st {x : UInt8} {s : ByteArray} (hs : s = ⟨#[x, 42]⟩) (k : Nat) : ltAt s k = (x.toNat : Int) := by
  subst hs
  have h0 : bs ⟨#[x, 42]⟩ 0 = (x.toNat : Int) := by
    unfold bs
    rw [dif_pos (by show 0 < 2; omega)]
    rfl
  have h1 : bs ⟨#[x, 42]⟩ 1 = 42 := by
    unfold bs
    rw [dif_pos (by show 1 < 2; omega)]
    rfl
  have hz : (ByteArray.mk #[x, 42]).size = 2 := rfl
  unfold ltAt
  rw [hz]
  match k with
  | 0 => split <;> exact h0
  | 1 => rw [if_neg (fun z => z.2 h1)]; exact h0
  | k + 2 => rw [if_neg (by omega)]; exact h0
theorem len1 {L : List Int} (h : L.length = 1) : ∃ a, L = [a] := by
  match L, h with
  | [a], _ => exact ⟨a, rfl⟩
theorem len2 {L : List Int} (h : L.length = 2) : ∃ a b, L = [a, b] := by
  match L, h with
  | [a, b], _ => exact ⟨a, b, rfl⟩
theorem len3 {L : List Int} (h : L.length = 3) : ∃ a b c, L = [a, b, c] := by
  match L, h with
  | [a, b, c], _ => exact ⟨a, b, c, rfl⟩
theorem wpos (s : Int) : decide (0 < wBits s) = sWd s := by
  cases h : sWd s with
  | true => have := wb_pos h; simp at this; unfold sWd at h; unfold wBits; simp at h; rw [if_pos h]; simp; omega
  | false => rw [wb_nil h]; rfl
/-- The tail of the reference's sort. -/
def refT (op d : Int) (L : List Int) : Int :=
  if op = 7 then (if nth L 1 ≠ nth L 2 ∨ nth L 1 = 5 then 0 else nth L 1)
  else if op = 8 then (if (sNu (nth L 0) && sNu (nth L 1)) = false ∧ (nth L 0 ≠ nth L 1 ∨ (nth L 0 ≠ 4 ∧ wBits (nth L 0) = 0)) then 0 else 1)
  else if op = 10 ∨ op = 11 ∨ op = 12 then (if L.all sIn = true ∧ d ≤ 1 then 2 else 3)
  else if op = 15 then 10 + d
  else if (16 ≤ op ∧ op ≤ 21) ∨ op = 23 then nth L 0
  else if op = 24 then 4 else if op = 25 then 5 else 1
theorem ok_star {op x : Int} {y : UInt8} (h : wtB op = ⟨#[y, 42]⟩) (hx : (y.toNat : Int) = x) (hn : x ≠ 119) (L : List Int) (k : Nat) : okK (wtB op) L k = ftC x (nth L k) := by
  unfold okK
  rw [lt_st h, hx]
  simp [hn]
set_option maxHeartbeats 2000000 in
theorem srt_bad {op d ds : Int} {L : List Int} (h1 : 1 ≤ op) (h2 : op ≤ 25) (h9 : op ≠ 9) (hn : kcN op = -1 ∨ kcN op = (L.length : Int)) {m : Nat} (hm : m < L.length) (h : okK (wtB op) L m = false) : srt op d ds L = 0 := by
  rcases op_cases h1 h2 with rfl | rfl | rfl | rfl | rfl | rfl | rfl | rfl | rfl | rfl | rfl | rfl | rfl | rfl | rfl | rfl | rfl | rfl | rfl | rfl | rfl | rfl | rfl | rfl | rfl
  · exfalso; rw [show kcN 1 = 0 by decide] at hn; omega
  · exfalso; rw [show kcN 2 = 0 by decide] at hn; omega
  · obtain ⟨a, rfl⟩ := len1 (L := L) (by rw [show kcN 3 = 1 by decide] at hn; omega)
    have o0 : okK (wtB 3) [a] 0 = sBo a := by
      unfold okK
      rw [show ltAt (wtB 3) 0 = 98 by decide]
      simp [ftC, nth]
    simp only [List.length_cons, List.length_nil] at hm
    have hmm : m = 0 := by omega
    rcases hmm with rfl
    · rw [o0] at h
      simp [srt, h, whn]
  · rw [ok_star (y := 98) (x := 98) (by decide) (by decide) (by decide)] at h
    have h' : sBo (nth L m) = false := by simpa [ftC] using h
    rw [show srt 4 d ds L = whn (L.all sBo) 1 by simp [srt], not_all hm h']
    rfl
  · rw [ok_star (y := 98) (x := 98) (by decide) (by decide) (by decide)] at h
    have h' : sBo (nth L m) = false := by simpa [ftC] using h
    rw [show srt 5 d ds L = whn (L.all sBo) 1 by simp [srt], not_all hm h']
    rfl
  · obtain ⟨a, b, rfl⟩ := len2 (L := L) (by rw [show kcN 6 = 2 by decide] at hn; omega)
    have o0 : okK (wtB 6) [a, b] 0 = sBo a := by
      unfold okK
      rw [show ltAt (wtB 6) 0 = 98 by decide]
      simp [ftC, nth]
    have o1 : okK (wtB 6) [a, b] 1 = sBo b := by
      unfold okK
      rw [show ltAt (wtB 6) 1 = 98 by decide]
      simp [ftC, nth]
    simp only [List.length_cons, List.length_nil] at hm
    have hmm : m = 0 ∨ m = 1 := by omega
    rcases hmm with rfl | rfl
    · rw [o0] at h
      simp [srt, h, whn]
    · rw [o1] at h
      simp [srt, h, whn]
  · obtain ⟨a, b, c, rfl⟩ := len3 (L := L) (by rw [show kcN 7 = 3 by decide] at hn; omega)
    have o0 : okK (wtB 7) [a, b, c] 0 = sBo a := by
      unfold okK
      rw [show ltAt (wtB 7) 0 = 98 by decide]
      simp [ftC, nth]
    have o1 : okK (wtB 7) [a, b, c] 1 = true := by
      unfold okK
      rw [show ltAt (wtB 7) 1 = 120 by decide]
      simp [ftC, nth]
    have o2 : okK (wtB 7) [a, b, c] 2 = true := by
      unfold okK
      rw [show ltAt (wtB 7) 2 = 121 by decide]
      simp [ftC, nth]
    simp only [List.length_cons, List.length_nil] at hm
    have hmm : m = 0 ∨ m = 1 ∨ m = 2 := by omega
    rcases hmm with rfl | rfl | rfl
    · rw [o0] at h
      simp [srt, whn, nth, h]
    · rw [o1] at h
      cases h
    · rw [o2] at h
      cases h
  · obtain ⟨a, b, rfl⟩ := len2 (L := L) (by rw [show kcN 8 = 2 by decide] at hn; omega)
    have o0 : okK (wtB 8) [a, b] 0 = true := by
      unfold okK
      rw [show ltAt (wtB 8) 0 = 63 by decide]
      simp [ftC, nth]
    have o1 : okK (wtB 8) [a, b] 1 = true := by
      unfold okK
      rw [show ltAt (wtB 8) 1 = 63 by decide]
      simp [ftC, nth]
    simp only [List.length_cons, List.length_nil] at hm
    have hmm : m = 0 ∨ m = 1 := by omega
    rcases hmm with rfl | rfl
    · rw [o0] at h
      cases h
    · rw [o1] at h
      cases h
  · exact absurd rfl h9
  · exfalso; rw [show kcN 10 = 0 by decide] at hn; omega
  · rw [ok_star (y := 110) (x := 110) (by decide) (by decide) (by decide)] at h
    have h' : sNu (nth L m) = false := by simpa [ftC] using h
    rw [show srt 11 d ds L = whn (L.all sNu) (numS 11 d L) by simp [srt], not_all hm h']
    rfl
  · obtain ⟨a, rfl⟩ := len1 (L := L) (by rw [show kcN 12 = 1 by decide] at hn; omega)
    have o0 : okK (wtB 12) [a] 0 = sNu a := by
      unfold okK
      rw [show ltAt (wtB 12) 0 = 110 by decide]
      simp [ftC, nth]
    simp only [List.length_cons, List.length_nil] at hm
    have hmm : m = 0 := by omega
    rcases hmm with rfl
    · rw [o0] at h
      simp [srt, h, whn]
  · obtain ⟨a, b, rfl⟩ := len2 (L := L) (by rw [show kcN 13 = 2 by decide] at hn; omega)
    have o0 : okK (wtB 13) [a, b] 0 = sNu a := by
      unfold okK
      rw [show ltAt (wtB 13) 0 = 110 by decide]
      simp [ftC, nth]
    have o1 : okK (wtB 13) [a, b] 1 = sNu b := by
      unfold okK
      rw [show ltAt (wtB 13) 1 = 110 by decide]
      simp [ftC, nth]
    simp only [List.length_cons, List.length_nil] at hm
    have hmm : m = 0 ∨ m = 1 := by omega
    rcases hmm with rfl | rfl
    · rw [o0] at h
      simp [srt, h, whn]
    · rw [o1] at h
      simp [srt, h, whn]
  · obtain ⟨a, b, rfl⟩ := len2 (L := L) (by rw [show kcN 14 = 2 by decide] at hn; omega)
    have o0 : okK (wtB 14) [a, b] 0 = sNu a := by
      unfold okK
      rw [show ltAt (wtB 14) 0 = 110 by decide]
      simp [ftC, nth]
    have o1 : okK (wtB 14) [a, b] 1 = sNu b := by
      unfold okK
      rw [show ltAt (wtB 14) 1 = 110 by decide]
      simp [ftC, nth]
    simp only [List.length_cons, List.length_nil] at hm
    have hmm : m = 0 ∨ m = 1 := by omega
    rcases hmm with rfl | rfl
    · rw [o0] at h
      simp [srt, h, whn]
    · rw [o1] at h
      simp [srt, h, whn]
  · exfalso; rw [show kcN 15 = 0 by decide] at hn; omega
  · obtain ⟨a, rfl⟩ := len1 (L := L) (by rw [show kcN 16 = 1 by decide] at hn; omega)
    have o0 : okK (wtB 16) [a] 0 = (sWd a && !(a != a)) := by
      unfold okK
      rw [show ltAt (wtB 16) 0 = 119 by decide]
      simp [ftC, nth, wpos]
    simp only [List.length_cons, List.length_nil] at hm
    have hmm : m = 0 := by omega
    rcases hmm with rfl
    · rw [o0] at h
      simp [srt, whn, sSw, nth]; simp at h ⊢; first | (intro q; simp_all; done) | (intro q; intro z; simp_all; done) | simp_all
  · obtain ⟨a, b, rfl⟩ := len2 (L := L) (by rw [show kcN 17 = 2 by decide] at hn; omega)
    have o0 : okK (wtB 17) [a, b] 0 = (sWd a && !(a != a)) := by
      unfold okK
      rw [show ltAt (wtB 17) 0 = 119 by decide]
      simp [ftC, nth, wpos]
    have o1 : okK (wtB 17) [a, b] 1 = (sWd b && !(b != a)) := by
      unfold okK
      rw [show ltAt (wtB 17) 1 = 119 by decide]
      simp [ftC, nth, wpos]
    simp only [List.length_cons, List.length_nil] at hm
    have hmm : m = 0 ∨ m = 1 := by omega
    rcases hmm with rfl | rfl
    · rw [o0] at h
      simp [srt, whn, sSw, nth]; simp at h ⊢; first | (intro q; simp_all; done) | (intro q; intro z; simp_all; done) | simp_all
    · rw [o1] at h
      simp [srt, whn, sSw, nth]; simp at h ⊢; first | (intro q; simp_all; done) | (intro q; intro z; simp_all; done) | simp_all
  · obtain ⟨a, b, rfl⟩ := len2 (L := L) (by rw [show kcN 18 = 2 by decide] at hn; omega)
    have o0 : okK (wtB 18) [a, b] 0 = (sWd a && !(a != a)) := by
      unfold okK
      rw [show ltAt (wtB 18) 0 = 119 by decide]
      simp [ftC, nth, wpos]
    have o1 : okK (wtB 18) [a, b] 1 = (sWd b && !(b != a)) := by
      unfold okK
      rw [show ltAt (wtB 18) 1 = 119 by decide]
      simp [ftC, nth, wpos]
    simp only [List.length_cons, List.length_nil] at hm
    have hmm : m = 0 ∨ m = 1 := by omega
    rcases hmm with rfl | rfl
    · rw [o0] at h
      simp [srt, whn, sSw, nth]; simp at h ⊢; first | (intro q; simp_all; done) | (intro q; intro z; simp_all; done) | simp_all
    · rw [o1] at h
      simp [srt, whn, sSw, nth]; simp at h ⊢; first | (intro q; simp_all; done) | (intro q; intro z; simp_all; done) | simp_all
  · obtain ⟨a, b, rfl⟩ := len2 (L := L) (by rw [show kcN 19 = 2 by decide] at hn; omega)
    have o0 : okK (wtB 19) [a, b] 0 = (sWd a && !(a != a)) := by
      unfold okK
      rw [show ltAt (wtB 19) 0 = 119 by decide]
      simp [ftC, nth, wpos]
    have o1 : okK (wtB 19) [a, b] 1 = (sWd b && !(b != a)) := by
      unfold okK
      rw [show ltAt (wtB 19) 1 = 119 by decide]
      simp [ftC, nth, wpos]
    simp only [List.length_cons, List.length_nil] at hm
    have hmm : m = 0 ∨ m = 1 := by omega
    rcases hmm with rfl | rfl
    · rw [o0] at h
      simp [srt, whn, sSw, nth]; simp at h ⊢; first | (intro q; simp_all; done) | (intro q; intro z; simp_all; done) | simp_all
    · rw [o1] at h
      simp [srt, whn, sSw, nth]; simp at h ⊢; first | (intro q; simp_all; done) | (intro q; intro z; simp_all; done) | simp_all
  · obtain ⟨a, b, rfl⟩ := len2 (L := L) (by rw [show kcN 20 = 2 by decide] at hn; omega)
    have o0 : okK (wtB 20) [a, b] 0 = (sWd a && !(a != a)) := by
      unfold okK
      rw [show ltAt (wtB 20) 0 = 119 by decide]
      simp [ftC, nth, wpos]
    have o1 : okK (wtB 20) [a, b] 1 = (sWd b && !(b != a)) := by
      unfold okK
      rw [show ltAt (wtB 20) 1 = 119 by decide]
      simp [ftC, nth, wpos]
    simp only [List.length_cons, List.length_nil] at hm
    have hmm : m = 0 ∨ m = 1 := by omega
    rcases hmm with rfl | rfl
    · rw [o0] at h
      simp [srt, whn, sSw, nth]; simp at h ⊢; first | (intro q; simp_all; done) | (intro q; intro z; simp_all; done) | simp_all
    · rw [o1] at h
      simp [srt, whn, sSw, nth]; simp at h ⊢; first | (intro q; simp_all; done) | (intro q; intro z; simp_all; done) | simp_all
  · obtain ⟨a, b, rfl⟩ := len2 (L := L) (by rw [show kcN 21 = 2 by decide] at hn; omega)
    have o0 : okK (wtB 21) [a, b] 0 = (sWd a && !(a != a)) := by
      unfold okK
      rw [show ltAt (wtB 21) 0 = 119 by decide]
      simp [ftC, nth, wpos]
    have o1 : okK (wtB 21) [a, b] 1 = (sWd b && !(b != a)) := by
      unfold okK
      rw [show ltAt (wtB 21) 1 = 119 by decide]
      simp [ftC, nth, wpos]
    simp only [List.length_cons, List.length_nil] at hm
    have hmm : m = 0 ∨ m = 1 := by omega
    rcases hmm with rfl | rfl
    · rw [o0] at h
      simp [srt, whn, sSw, nth]; simp at h ⊢; first | (intro q; simp_all; done) | (intro q; intro z; simp_all; done) | simp_all
    · rw [o1] at h
      simp [srt, whn, sSw, nth]; simp at h ⊢; first | (intro q; simp_all; done) | (intro q; intro z; simp_all; done) | simp_all
  · obtain ⟨a, b, rfl⟩ := len2 (L := L) (by rw [show kcN 22 = 2 by decide] at hn; omega)
    have o0 : okK (wtB 22) [a, b] 0 = (sWd a && !(a != a)) := by
      unfold okK
      rw [show ltAt (wtB 22) 0 = 119 by decide]
      simp [ftC, nth, wpos]
    have o1 : okK (wtB 22) [a, b] 1 = (sWd b && !(b != a)) := by
      unfold okK
      rw [show ltAt (wtB 22) 1 = 119 by decide]
      simp [ftC, nth, wpos]
    simp only [List.length_cons, List.length_nil] at hm
    have hmm : m = 0 ∨ m = 1 := by omega
    rcases hmm with rfl | rfl
    · rw [o0] at h
      simp [srt, whn, sSw, nth]; simp at h ⊢; first | (intro q; simp_all; done) | (intro q; intro z; simp_all; done) | simp_all
    · rw [o1] at h
      simp [srt, whn, sSw, nth]; simp at h ⊢; first | (intro q; simp_all; done) | (intro q; intro z; simp_all; done) | simp_all
  · obtain ⟨a, rfl⟩ := len1 (L := L) (by rw [show kcN 23 = 1 by decide] at hn; omega)
    have o0 : okK (wtB 23) [a] 0 = (sWd a && !(a != a)) := by
      unfold okK
      rw [show ltAt (wtB 23) 0 = 119 by decide]
      simp [ftC, nth, wpos]
    simp only [List.length_cons, List.length_nil] at hm
    have hmm : m = 0 := by omega
    rcases hmm with rfl
    · rw [o0] at h
      simp [srt, whn, sSw, nth]; simp at h ⊢; first | (intro q; simp_all; done) | (intro q; intro z; simp_all; done) | simp_all
  · obtain ⟨a, b, rfl⟩ := len2 (L := L) (by rw [show kcN 24 = 2 by decide] at hn; omega)
    have o0 : okK (wtB 24) [a, b] 0 = (a == 5) := by
      unfold okK
      rw [show ltAt (wtB 24) 0 = 97 by decide]
      simp [ftC, nth]
    have o1 : okK (wtB 24) [a, b] 1 = sTh b := by
      unfold okK
      rw [show ltAt (wtB 24) 1 = 116 by decide]
      simp [ftC, nth]
    simp only [List.length_cons, List.length_nil] at hm
    have hmm : m = 0 ∨ m = 1 := by omega
    rcases hmm with rfl | rfl
    · rw [o0] at h
      simp [srt, whn, nth]; first | (simp at h; simp [h]; done) | simp [h]
    · rw [o1] at h
      simp [srt, whn, nth]; first | (simp at h; simp [h]; done) | simp [h]
  · obtain ⟨a, b, c, rfl⟩ := len3 (L := L) (by rw [show kcN 25 = 3 by decide] at hn; omega)
    have o0 : okK (wtB 25) [a, b, c] 0 = (a == 5) := by
      unfold okK
      rw [show ltAt (wtB 25) 0 = 97 by decide]
      simp [ftC, nth]
    have o1 : okK (wtB 25) [a, b, c] 1 = sTh b := by
      unfold okK
      rw [show ltAt (wtB 25) 1 = 116 by decide]
      simp [ftC, nth]
    have o2 : okK (wtB 25) [a, b, c] 2 = sTh c := by
      unfold okK
      rw [show ltAt (wtB 25) 2 = 116 by decide]
      simp [ftC, nth]
    simp only [List.length_cons, List.length_nil] at hm
    have hmm : m = 0 ∨ m = 1 ∨ m = 2 := by omega
    rcases hmm with rfl | rfl | rfl
    · rw [o0] at h
      simp [srt, whn, nth]; first | (simp at h; simp [h]; done) | simp [h]
    · rw [o1] at h
      simp [srt, whn, nth]; first | (simp at h; simp [h]; done) | simp [h]
    · rw [o2] at h
      simp [srt, whn, nth]; first | (simp at h; simp [h]; done) | simp [h]
theorem snu_iff (a : Int) : sNu a = true ↔ a = 2 ∨ a = 3 := by unfold sNu; simp
theorem snu_not (a : Int) : sNu a = false ↔ ¬ (a = 2 ∨ a = 3) := by unfold sNu; simp
theorem sth_iff (a : Int) : sTh a = true ↔ a = 4 := by unfold sTh; simp
theorem swd_iff (a : Int) : sWd a = true ↔ 10 < a ∧ a ≤ 18 := by unfold sWd; simp
theorem wb_iff (a : Int) : wBits a = 0 ↔ ¬ (10 < a ∧ a ≤ 18) := by unfold wBits; split <;> omega
theorem same8 (a b : Int) : (if (sNu a = true ∧ sNu b = true ∨ sTh a = true ∧ sTh b = true) ∨ sWd a = true ∧ b = a then (1 : Int) else 0) = if (sNu a = true → sNu b = false) ∧ (¬a = b ∨ ¬a = 4 ∧ wBits a = 0) then 0 else 1 := by
  simp only [snu_iff, snu_not, sth_iff, swd_iff, wb_iff]
  split <;> split <;> first | rfl | (exfalso; omega)
set_option maxHeartbeats 2000000 in
theorem srt_good {op d ds : Int} {L : List Int} (h1 : 1 ≤ op) (h2 : op ≤ 25) (h9 : op ≠ 9) (hn : kcN op = -1 ∨ kcN op = (L.length : Int)) (hd : op = 10 ∨ op = 12 → 1 ≤ d) (hd2 : op = 11 → d = 0) (h : ∀ m, m < L.length → okK (wtB op) L m = true) : srt op d ds L = refT op d L := by
  rcases op_cases h1 h2 with rfl | rfl | rfl | rfl | rfl | rfl | rfl | rfl | rfl | rfl | rfl | rfl | rfl | rfl | rfl | rfl | rfl | rfl | rfl | rfl | rfl | rfl | rfl | rfl | rfl
  · have hl : L = [] := List.eq_nil_of_length_eq_zero (by rw [show kcN 1 = 0 by decide] at hn; omega)
    subst hl
    rfl
  · have hl : L = [] := List.eq_nil_of_length_eq_zero (by rw [show kcN 2 = 0 by decide] at hn; omega)
    subst hl
    rfl
  · obtain ⟨a, rfl⟩ := len1 (L := L) (by rw [show kcN 3 = 1 by decide] at hn; omega)
    have o0 : okK (wtB 3) [a] 0 = sBo a := by
      unfold okK
      rw [show ltAt (wtB 3) 0 = 98 by decide]
      simp [ftC, nth]
    have p0 := h 0 (by simp)
    rw [o0] at p0
    simp [srt, refT, whn, p0]
  · have ha : L.all sBo = true := all_of fun m hm => by
      have := h m hm
      rw [ok_star (y := 98) (x := 98) (by decide) (by decide) (by decide)] at this
      simpa [ftC] using this
    rw [show srt 4 d ds L = whn (L.all sBo) 1 by simp [srt], ha]
    rfl
  · have ha : L.all sBo = true := all_of fun m hm => by
      have := h m hm
      rw [ok_star (y := 98) (x := 98) (by decide) (by decide) (by decide)] at this
      simpa [ftC] using this
    rw [show srt 5 d ds L = whn (L.all sBo) 1 by simp [srt], ha]
    rfl
  · obtain ⟨a, b, rfl⟩ := len2 (L := L) (by rw [show kcN 6 = 2 by decide] at hn; omega)
    have o0 : okK (wtB 6) [a, b] 0 = sBo a := by
      unfold okK
      rw [show ltAt (wtB 6) 0 = 98 by decide]
      simp [ftC, nth]
    have o1 : okK (wtB 6) [a, b] 1 = sBo b := by
      unfold okK
      rw [show ltAt (wtB 6) 1 = 98 by decide]
      simp [ftC, nth]
    have p0 := h 0 (by simp)
    rw [o0] at p0
    have p1 := h 1 (by simp)
    rw [o1] at p1
    simp [srt, refT, whn, p0, p1]
  · obtain ⟨a, b, c, rfl⟩ := len3 (L := L) (by rw [show kcN 7 = 3 by decide] at hn; omega)
    have o0 : okK (wtB 7) [a, b, c] 0 = sBo a := by
      unfold okK
      rw [show ltAt (wtB 7) 0 = 98 by decide]
      simp [ftC, nth]
    have o1 : okK (wtB 7) [a, b, c] 1 = true := by
      unfold okK
      rw [show ltAt (wtB 7) 1 = 120 by decide]
      simp [ftC, nth]
    have o2 : okK (wtB 7) [a, b, c] 2 = true := by
      unfold okK
      rw [show ltAt (wtB 7) 2 = 121 by decide]
      simp [ftC, nth]
    have p0 := h 0 (by simp)
    rw [o0] at p0
    have p1 := h 1 (by simp)
    rw [o1] at p1
    have p2 := h 2 (by simp)
    rw [o2] at p2
    simp [srt, refT, whn, nth, p0]; by_cases q1 : b = c <;> by_cases q2 : b = 5 <;> simp [q1, q2] <;> simp_all
  · obtain ⟨a, b, rfl⟩ := len2 (L := L) (by rw [show kcN 8 = 2 by decide] at hn; omega)
    have o0 : okK (wtB 8) [a, b] 0 = true := by
      unfold okK
      rw [show ltAt (wtB 8) 0 = 63 by decide]
      simp [ftC, nth]
    have o1 : okK (wtB 8) [a, b] 1 = true := by
      unfold okK
      rw [show ltAt (wtB 8) 1 = 63 by decide]
      simp [ftC, nth]
    have p0 := h 0 (by simp)
    rw [o0] at p0
    have p1 := h 1 (by simp)
    rw [o1] at p1
    simp only [srt, refT, whn, nth, sSw]; simp; exact same8 a b
  · exact absurd rfl h9
  · have hl : L = [] := List.eq_nil_of_length_eq_zero (by rw [show kcN 10 = 0 by decide] at hn; omega)
    subst hl
    have := hd (.inl rfl)
    simp [srt, refT, whn, numS]; split <;> split <;> first | rfl | omega
  · have ha : L.all sNu = true := all_of fun m hm => by
      have := h m hm
      rw [ok_star (y := 110) (x := 110) (by decide) (by decide) (by decide)] at this
      simpa [ftC] using this
    rw [show srt 11 d ds L = whn (L.all sNu) (numS 11 d L) by simp [srt], ha]
    have hd0 := hd2 rfl; subst hd0; unfold refT whn numS; cases hq : L.all sIn <;> simp
  · obtain ⟨a, rfl⟩ := len1 (L := L) (by rw [show kcN 12 = 1 by decide] at hn; omega)
    have o0 : okK (wtB 12) [a] 0 = sNu a := by
      unfold okK
      rw [show ltAt (wtB 12) 0 = 110 by decide]
      simp [ftC, nth]
    have p0 := h 0 (by simp)
    rw [o0] at p0
    have hd0 := hd (.inr rfl); simp [srt, refT, whn, numS, p0]; by_cases q : d = 1 <;> cases r : sIn a <;> simp [q] <;> omega
  · obtain ⟨a, b, rfl⟩ := len2 (L := L) (by rw [show kcN 13 = 2 by decide] at hn; omega)
    have o0 : okK (wtB 13) [a, b] 0 = sNu a := by
      unfold okK
      rw [show ltAt (wtB 13) 0 = 110 by decide]
      simp [ftC, nth]
    have o1 : okK (wtB 13) [a, b] 1 = sNu b := by
      unfold okK
      rw [show ltAt (wtB 13) 1 = 110 by decide]
      simp [ftC, nth]
    have p0 := h 0 (by simp)
    rw [o0] at p0
    have p1 := h 1 (by simp)
    rw [o1] at p1
    simp [srt, refT, whn, p0, p1]
  · obtain ⟨a, b, rfl⟩ := len2 (L := L) (by rw [show kcN 14 = 2 by decide] at hn; omega)
    have o0 : okK (wtB 14) [a, b] 0 = sNu a := by
      unfold okK
      rw [show ltAt (wtB 14) 0 = 110 by decide]
      simp [ftC, nth]
    have o1 : okK (wtB 14) [a, b] 1 = sNu b := by
      unfold okK
      rw [show ltAt (wtB 14) 1 = 110 by decide]
      simp [ftC, nth]
    have p0 := h 0 (by simp)
    rw [o0] at p0
    have p1 := h 1 (by simp)
    rw [o1] at p1
    simp [srt, refT, whn, p0, p1]
  · have hl : L = [] := List.eq_nil_of_length_eq_zero (by rw [show kcN 15 = 0 by decide] at hn; omega)
    subst hl
    simp [srt, refT]
  · obtain ⟨a, rfl⟩ := len1 (L := L) (by rw [show kcN 16 = 1 by decide] at hn; omega)
    have o0 : okK (wtB 16) [a] 0 = (sWd a && !(a != a)) := by
      unfold okK
      rw [show ltAt (wtB 16) 0 = 119 by decide]
      simp [ftC, nth, wpos]
    have p0 := h 0 (by simp)
    rw [o0] at p0
    simp at p0; simp [srt, refT, whn, sSw, nth, p0]
  · obtain ⟨a, b, rfl⟩ := len2 (L := L) (by rw [show kcN 17 = 2 by decide] at hn; omega)
    have o0 : okK (wtB 17) [a, b] 0 = (sWd a && !(a != a)) := by
      unfold okK
      rw [show ltAt (wtB 17) 0 = 119 by decide]
      simp [ftC, nth, wpos]
    have o1 : okK (wtB 17) [a, b] 1 = (sWd b && !(b != a)) := by
      unfold okK
      rw [show ltAt (wtB 17) 1 = 119 by decide]
      simp [ftC, nth, wpos]
    have p0 := h 0 (by simp)
    rw [o0] at p0
    have p1 := h 1 (by simp)
    rw [o1] at p1
    simp at p0 p1; simp [srt, refT, whn, sSw, nth, p0, p1]
  · obtain ⟨a, b, rfl⟩ := len2 (L := L) (by rw [show kcN 18 = 2 by decide] at hn; omega)
    have o0 : okK (wtB 18) [a, b] 0 = (sWd a && !(a != a)) := by
      unfold okK
      rw [show ltAt (wtB 18) 0 = 119 by decide]
      simp [ftC, nth, wpos]
    have o1 : okK (wtB 18) [a, b] 1 = (sWd b && !(b != a)) := by
      unfold okK
      rw [show ltAt (wtB 18) 1 = 119 by decide]
      simp [ftC, nth, wpos]
    have p0 := h 0 (by simp)
    rw [o0] at p0
    have p1 := h 1 (by simp)
    rw [o1] at p1
    simp at p0 p1; simp [srt, refT, whn, sSw, nth, p0, p1]
  · obtain ⟨a, b, rfl⟩ := len2 (L := L) (by rw [show kcN 19 = 2 by decide] at hn; omega)
    have o0 : okK (wtB 19) [a, b] 0 = (sWd a && !(a != a)) := by
      unfold okK
      rw [show ltAt (wtB 19) 0 = 119 by decide]
      simp [ftC, nth, wpos]
    have o1 : okK (wtB 19) [a, b] 1 = (sWd b && !(b != a)) := by
      unfold okK
      rw [show ltAt (wtB 19) 1 = 119 by decide]
      simp [ftC, nth, wpos]
    have p0 := h 0 (by simp)
    rw [o0] at p0
    have p1 := h 1 (by simp)
    rw [o1] at p1
    simp at p0 p1; simp [srt, refT, whn, sSw, nth, p0, p1]
  · obtain ⟨a, b, rfl⟩ := len2 (L := L) (by rw [show kcN 20 = 2 by decide] at hn; omega)
    have o0 : okK (wtB 20) [a, b] 0 = (sWd a && !(a != a)) := by
      unfold okK
      rw [show ltAt (wtB 20) 0 = 119 by decide]
      simp [ftC, nth, wpos]
    have o1 : okK (wtB 20) [a, b] 1 = (sWd b && !(b != a)) := by
      unfold okK
      rw [show ltAt (wtB 20) 1 = 119 by decide]
      simp [ftC, nth, wpos]
    have p0 := h 0 (by simp)
    rw [o0] at p0
    have p1 := h 1 (by simp)
    rw [o1] at p1
    simp at p0 p1; simp [srt, refT, whn, sSw, nth, p0, p1]
  · obtain ⟨a, b, rfl⟩ := len2 (L := L) (by rw [show kcN 21 = 2 by decide] at hn; omega)
    have o0 : okK (wtB 21) [a, b] 0 = (sWd a && !(a != a)) := by
      unfold okK
      rw [show ltAt (wtB 21) 0 = 119 by decide]
      simp [ftC, nth, wpos]
    have o1 : okK (wtB 21) [a, b] 1 = (sWd b && !(b != a)) := by
      unfold okK
      rw [show ltAt (wtB 21) 1 = 119 by decide]
      simp [ftC, nth, wpos]
    have p0 := h 0 (by simp)
    rw [o0] at p0
    have p1 := h 1 (by simp)
    rw [o1] at p1
    simp at p0 p1; simp [srt, refT, whn, sSw, nth, p0, p1]
  · obtain ⟨a, b, rfl⟩ := len2 (L := L) (by rw [show kcN 22 = 2 by decide] at hn; omega)
    have o0 : okK (wtB 22) [a, b] 0 = (sWd a && !(a != a)) := by
      unfold okK
      rw [show ltAt (wtB 22) 0 = 119 by decide]
      simp [ftC, nth, wpos]
    have o1 : okK (wtB 22) [a, b] 1 = (sWd b && !(b != a)) := by
      unfold okK
      rw [show ltAt (wtB 22) 1 = 119 by decide]
      simp [ftC, nth, wpos]
    have p0 := h 0 (by simp)
    rw [o0] at p0
    have p1 := h 1 (by simp)
    rw [o1] at p1
    simp at p0 p1; simp [srt, refT, whn, sSw, nth, p0, p1]
  · obtain ⟨a, rfl⟩ := len1 (L := L) (by rw [show kcN 23 = 1 by decide] at hn; omega)
    have o0 : okK (wtB 23) [a] 0 = (sWd a && !(a != a)) := by
      unfold okK
      rw [show ltAt (wtB 23) 0 = 119 by decide]
      simp [ftC, nth, wpos]
    have p0 := h 0 (by simp)
    rw [o0] at p0
    simp at p0; simp [srt, refT, whn, sSw, nth, p0]
  · obtain ⟨a, b, rfl⟩ := len2 (L := L) (by rw [show kcN 24 = 2 by decide] at hn; omega)
    have o0 : okK (wtB 24) [a, b] 0 = (a == 5) := by
      unfold okK
      rw [show ltAt (wtB 24) 0 = 97 by decide]
      simp [ftC, nth]
    have o1 : okK (wtB 24) [a, b] 1 = sTh b := by
      unfold okK
      rw [show ltAt (wtB 24) 1 = 116 by decide]
      simp [ftC, nth]
    have p0 := h 0 (by simp)
    rw [o0] at p0
    have p1 := h 1 (by simp)
    rw [o1] at p1
    simp at p0; simp [srt, refT, whn, nth, p0, p1]
  · obtain ⟨a, b, c, rfl⟩ := len3 (L := L) (by rw [show kcN 25 = 3 by decide] at hn; omega)
    have o0 : okK (wtB 25) [a, b, c] 0 = (a == 5) := by
      unfold okK
      rw [show ltAt (wtB 25) 0 = 97 by decide]
      simp [ftC, nth]
    have o1 : okK (wtB 25) [a, b, c] 1 = sTh b := by
      unfold okK
      rw [show ltAt (wtB 25) 1 = 116 by decide]
      simp [ftC, nth]
    have o2 : okK (wtB 25) [a, b, c] 2 = sTh c := by
      unfold okK
      rw [show ltAt (wtB 25) 2 = 116 by decide]
      simp [ftC, nth]
    have p0 := h 0 (by simp)
    rw [o0] at p0
    have p1 := h 1 (by simp)
    rw [o1] at p1
    have p2 := h 2 (by simp)
    rw [o2] at p2
    simp at p0; simp [srt, refT, whn, nth, p0, p1, p2]
end Go.Proofs.YtaodebpogibimaaGreat
namespace Go.Proofs.YtaodebpogibimaaGreat
open Go.RowKit

theorem r7a {d : Int} {L : List Int} (h : (nth L 1 != nth L 2) = true) : refT 7 d L = 0 := by
  have : nth L 1 ≠ nth L 2 := by simpa using h
  unfold refT
  rw [if_pos rfl, if_pos (.inl this)]
theorem r7b {d : Int} {L : List Int} (h : (nth L 1 == 5) = true) : refT 7 d L = 0 := by
  have : nth L 1 = 5 := by simpa using h
  unfold refT
  rw [if_pos rfl, if_pos (.inr this)]
theorem r7c {d : Int} {L : List Int} (h : (nth L 1 != nth L 2) = false) (h2 : (nth L 1 == 5) = false) : refT 7 d L = nth L 1 := by
  have h1 : nth L 1 = nth L 2 := by simpa using h
  have h3 : ¬ nth L 1 = 5 := by simpa using h2
  unfold refT
  rw [if_pos rfl, if_neg (by rintro (z | z); exact z h1; exact h3 z)]
theorem r8 {d : Int} {L : List Int} : refT 8 d L = if (sNu (nth L 0) && sNu (nth L 1)) = false ∧ (nth L 0 ≠ nth L 1 ∨ (nth L 0 ≠ 4 ∧ wBits (nth L 0) = 0)) then 0 else 1 := by
  unfold refT
  rw [if_neg (by decide), if_pos rfl]
theorem r8a {d : Int} {L : List Int} (h : (sNu (nth L 0) && sNu (nth L 1)) = false) (q : (nth L 0 != nth L 1) = true) : refT 8 d L = 0 := by
  have : nth L 0 ≠ nth L 1 := by simpa using q
  rw [r8, if_pos ⟨h, .inl this⟩]
theorem r8b {d : Int} {L : List Int} (q : (nth L 0 != nth L 1) = false) (q2 : (nth L 0 != 4) = false) : refT 8 d L = 1 := by
  have h1 : nth L 0 = nth L 1 := by simpa using q
  have h2 : nth L 0 = 4 := by simpa using q2
  rw [r8, if_neg (by rintro ⟨_, z | z⟩; exact z h1; exact z.1 h2)]
theorem r8c {d : Int} {L : List Int} (h : (sNu (nth L 0) && sNu (nth L 1)) = false) (q2 : (nth L 0 != 4) = true) (q3 : wBits (nth L 0) = 0) : refT 8 d L = 0 := by
  have h2 : ¬ nth L 0 = 4 := by simpa using q2
  rw [r8, if_pos ⟨h, .inr ⟨h2, q3⟩⟩]
theorem r8d {d : Int} {L : List Int} (q : (nth L 0 != nth L 1) = false) (q3 : ¬ wBits (nth L 0) = 0) : refT 8 d L = 1 := by
  have h1 : nth L 0 = nth L 1 := by simpa using q
  rw [r8, if_neg (by rintro ⟨_, z | z⟩; exact z h1; exact q3 z.2)]
theorem r8e {d : Int} {L : List Int} (h : (sNu (nth L 0) && sNu (nth L 1)) = true) : refT 8 d L = 1 := by
  rw [r8, if_neg (by rintro ⟨z, _⟩; rw [h] at z; cases z)]
theorem rA {op d : Int} {L : List Int} (ho : op = 10 ∨ op = 11 ∨ op = 12) (h : L.all sIn = false ∨ ¬ d ≤ 1) : refT op d L = 3 := by
  have h7 : ¬ op = 7 := by omega
  have h8 : ¬ op = 8 := by omega
  unfold refT
  rw [if_neg h7, if_neg h8, if_pos ho, if_neg]
  rintro ⟨z1, z2⟩
  rcases h with h | h
  · rw [h] at z1; cases z1
  · exact h z2
theorem rB {op d : Int} {L : List Int} (ho : op = 10 ∨ op = 11 ∨ op = 12) (h : L.all sIn = true) (hd : d ≤ 1) : refT op d L = 2 := by
  have h7 : ¬ op = 7 := by omega
  have h8 : ¬ op = 8 := by omega
  unfold refT
  rw [if_neg h7, if_neg h8, if_pos ho, if_pos ⟨h, hd⟩]
end Go.Proofs.YtaodebpogibimaaGreat
namespace Go.Proofs.YtaodebpogibimaaGreat
open Go.RowKit

set_option maxRecDepth 100000 in
set_option maxHeartbeats 4000000 in
theorem samevalue_any (q : Vl) (A B : Option Addr) (c d : Nat) (hl : q.cells.length ≤ maxLen) (w : World) (ha : CsAt w A q.cells) (hb : CsAt w B q.cells) :
    Calls Tryz.prog 19 #[.agg #[.int .i64 q.num, .int .i64 q.den, .slice A q.cells.length c, .int .i64 q.rest], .agg #[.int .i64 q.num, .int .i64 q.den, .slice B q.cells.length d, .int .i64 q.rest]] w fun e w' => e = .returned (.bool true) ∧ Below w.heap.size w w' := by
  have HA := Lib.hid ha
  have HB1 := Lib.hid hb
  have N0 := Lib.hid ((HB.new w 47 #[.int .i64 q.num, .int .i64 q.den, .slice A q.cells.length c, .int .i64 q.rest]).alloc (.cells #[.int .i64 q.num, .int .i64 q.den, .slice B q.cells.length d, .int .i64 q.rest] 47))
  have N1 := Lib.hid (HB.new1 w (.cells #[.int .i64 q.num, .int .i64 q.den, .slice A q.cells.length c, .int .i64 q.rest] 47) 47 #[.int .i64 q.num, .int .i64 q.den, .slice B q.cells.length d, .int .i64 q.rest])
  have B0 : Hid (Below w.heap.size w ((w.alloc (.cells #[.int .i64 q.num, .int .i64 q.den, .slice A q.cells.length c, .int .i64 q.rest] 47)).alloc (.cells #[.int .i64 q.num, .int .i64 q.den, .slice B q.cells.length d, .int .i64 q.rest] 47))) := Lib.hid (by go_grown)
  clear ha hb
  unfold maxLen at hl
  generalize hL : q.cells.length = L at *
  have HL := Lib.hid hL
  clear hL
  go_enter Tryz.func19, Tryz.ntmps19
  go_wp2_with fail
  generalize ((w.alloc (.cells #[.int .i64 q.num, .int .i64 q.den, .slice A L c, .int .i64 q.rest] 47)).alloc (.cells #[.int .i64 q.num, .int .i64 q.den, .slice B L d, .int .i64 q.rest] 47)) = w1 at *
  go_loopw [5] (fun k wr => ∃ i : Nat, i ≤ L ∧ k = .int .i64 i ∧ Hid (Below w1.heap.size w1 wr)) (fun k _ => L - (intOf k).toNat)
  case atStart => exact ⟨0, by omega, rfl, Lib.hid (Below.refl _ _)⟩
  case round =>
    obtain ⟨i, hi, rfl, HK⟩ := hrel
    obtain ⟨n0, n1, n2, n3, -⟩ := (N0.out.below HK.out).four
    obtain ⟨m0, m1, m2, m3, -⟩ := (N1.out.below HK.out).four
    have BK := Lib.hid (below_after B0.out HK.out)
    by_cases hlt : i < L
    · have t3 : decide ((i : Int) < L) = true := by simpa using hlt
      have l0 : (i : Int) < L := by omega
      obtain ⟨ba, oa, rfl, la, a0, a1⟩ := cs_at (i := i) (HA.out.below BK.out) (by rw [HL.out]; exact hlt)
      obtain ⟨bb, ob, rfl, lb, b0, b1⟩ := cs_at (i := i) (HB1.out.below BK.out) (by rw [HL.out]; exact hlt)
      generalize cn q.cells i = ci at *
      obtain ⟨q0, q1⟩ := ci
      dsimp only at a0 a1 b0 b1
      go_wp2_with fail
      go_quiet (fail)
      go_wp2_with fail
      go_round
      case rel => exact ⟨i + 1, by omega, by go_num, Lib.hid ⟨HK.out.os, HK.out.tape, HK.out.output, HK.out.size, HK.out.block⟩⟩
      case measure => simp [intOf]; omega
    · obtain rfl : i = L := by omega
      have t3 : decide ((i : Int) < i) = false := by simp
      go_wp2_with fail
      go_ret
      exact ⟨rfl, BK.out⟩
end Go.Proofs.YtaodebpogibimaaGreat
namespace Go.Proofs.YtaodebpogibimaaGreat
open Go.RowKit

/-- Two elements' cells. -/
@[reducible] def SvE (b1 o1 b2 o2 : Nat) (x0 x1 x2 x3 y2 : Value) (W : World) : Prop := W.cell? ⟨b1, o1, none⟩ = some x0 ∧ W.cell? ⟨b1, o1 + 1, none⟩ = some x1 ∧ W.cell? ⟨b1, o1 + 2, none⟩ = some x2 ∧ W.cell? ⟨b1, o1 + 3, none⟩ = some x3 ∧ W.cell? ⟨b2, o2, none⟩ = some x0 ∧ W.cell? ⟨b2, o2 + 1, none⟩ = some x1 ∧ W.cell? ⟨b2, o2 + 2, none⟩ = some y2 ∧ W.cell? ⟨b2, o2 + 3, none⟩ = some x3
set_option maxRecDepth 100000 in
set_option maxHeartbeats 4000000 in
theorem samevalues_any (vs : List Vl) (A B : Option Addr) (c d : Nat) (hl : vs.length ≤ maxLen) (hc : ∀ i, i < vs.length → (vn vs i).cells.length ≤ maxLen) (w : World) (ha : VsAt w A vs) (hb : VsAt w B vs) :
    Calls Tryz.prog 7 #[.slice A vs.length c, .slice B vs.length d] w fun e w' => e = .returned (.bool true) ∧ Below w.heap.size w w' := by
  have HA := Lib.hid ha
  have HB1 := Lib.hid hb
  have HC := Lib.hid hc
  clear ha hb hc
  unfold maxLen at hl
  generalize hL : vs.length = L at *
  have HL := Lib.hid hL
  clear hL
  go_enter Tryz.func7, Tryz.ntmps7
  go_wp2_with fail
  go_loopw [5] (fun k wr => ∃ i : Nat, i ≤ L ∧ k = .int .i64 i ∧ Hid (Below w.heap.size w wr)) (fun k _ => L - (intOf k).toNat)
  case atStart => exact ⟨0, by omega, rfl, Lib.hid (Below.refl _ _)⟩
  case round =>
    obtain ⟨i, hi, rfl, HK⟩ := hrel
    by_cases hlt : i < L
    · have t3 : decide ((i : Int) < L) = true := by simpa using hlt
      have l0 : (i : Int) < L := by omega
      obtain ⟨b1, o1, rfl, l1, a0, a1, a3, A1, c1, a2, z1⟩ := vs_at (i := i) (HA.out.below HK.out) (by rw [HL.out]; exact hlt)
      obtain ⟨b2, o2, rfl, l2, e0, e1, e3, A2, c2, e2, z2⟩ := vs_at (i := i) (HB1.out.below HK.out) (by rw [HL.out]; exact hlt)
      have CA := Lib.hid z1.2.2
      have CB := Lib.hid z2.2.2
      have XG := Lib.hid (fun (W : World) (k : Below wr.heap.size wr W) => samevalue_any (vn vs i) A1 A2 c1 c2 (HC.out i hlt) W (CA.out.below k) (CB.out.below k))
      simp only [Nat.add_zero, Nat.zero_add] at a0 a1 a2 a3 e0 e1 e2 e3
      have KG : Hid (∀ W, Below wr.heap.size wr W → SvE b1 (o1 + i * 4) b2 (o2 + i * 4) (.int .i64 (vn vs i).num) (.int .i64 (vn vs i).den) (.slice A1 (vn vs i).cells.length c1) (.int .i64 (vn vs i).rest) (.slice A2 (vn vs i).cells.length c2) W) := Lib.hid (fun W k => ⟨(k.cell (p := ⟨b1, o1 + i * 4, none⟩) l1).trans a0, (k.cell (p := ⟨b1, o1 + i * 4 + 1, none⟩) l1).trans a1, (k.cell (p := ⟨b1, o1 + i * 4 + 2, none⟩) l1).trans a2, (k.cell (p := ⟨b1, o1 + i * 4 + 3, none⟩) l1).trans a3, (k.cell (p := ⟨b2, o2 + i * 4, none⟩) l2).trans e0, (k.cell (p := ⟨b2, o2 + i * 4 + 1, none⟩) l2).trans e1, (k.cell (p := ⟨b2, o2 + i * 4 + 2, none⟩) l2).trans e2, (k.cell (p := ⟨b2, o2 + i * 4 + 3, none⟩) l2).trans e3⟩)
      have DR2 := Lib.hid ((Below.refl wr.heap.size wr).drew)
      clear z1 z2 CA CB a0 a1 a2 a3 e0 e1 e2 e3 HA HB1 HC
      generalize (vn vs i).num = q0 at *
      generalize (vn vs i).den = q1 at *
      generalize (vn vs i).cells.length = q2 at *
      generalize (vn vs i).rest = q3 at *
      go_wp2_with fail
      go_region_held3 (fun W => SvE b1 (o1 + i * 4) b2 (o2 + i * 4) (.int .i64 q0) (.int .i64 q1) (.slice A1 q2 c1) (.int .i64 q3) (.slice A2 q2 c2) W)
        ((first | (with_reducible exact KG.out _ DR2.out) | (with_reducible exact KG.out _ F8.out)))
        (first
          | (go_at_call 19; refine (XG.out _ DR2.out).mono ?_; rintro e w8 ⟨rfl, hb8⟩; have F8 := Lib.hid (below_after DR2.out hb8); clear hb8))
      all_goals
        have B8 := Lib.hid (below_after HK.out F8.out)
        clear KG XG DR2
        go_wp2_with fail
        go_round
        case rel => exact ⟨i + 1, by omega, by go_num, B8⟩
        case measure => simp [intOf]; omega
    · obtain rfl : i = L := by omega
      have t3 : decide ((i : Int) < i) = false := by simp
      go_wp2_with fail
      go_ret
      exact ⟨rfl, HK.out⟩
end Go.Proofs.YtaodebpogibimaaGreat
