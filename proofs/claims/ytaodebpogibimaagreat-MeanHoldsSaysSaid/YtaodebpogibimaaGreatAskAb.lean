/-
  Asks: the sorts, by the reference.
-/
import Derived.Test.YtaodebpogibimaaGreatG10
import Derived.Test.YtaodebpogibimaaGreatG12
import Derived.Test.YtaodebpogibimaaGreatAskY
namespace Go.Proofs.YtaodebpogibimaaGreat
open Go.RowKit

set_option maxRecDepth 100000 in
set_option maxHeartbeats 16000000 in
theorem refsorts_any (qs : List Dc) (ns : List Nd) (hs : List Int) (Ad An Ah : Option Addr) (dc nc hc : Nat) (h1 : qs.length ≤ dc) (h2 : dc ≤ maxLen) (h3 : ns.length ≤ maxLen) (h4 : hs.length ≤ maxLen) (w : World) (hd : DsAt w Ad qs) (hn : NsAt w An ns) (hh : Is w Ah hs) :
    Calls Tryz.prog 17 #[.agg #[.slice Ad qs.length dc, .slice An ns.length nc, .slice Ah hs.length hc]] w (GivesS (akL qs ns hs) (akC qs ns hs) (akA qs ns hs) w) := by
  have HD := Lib.hid hd
  have HN := Lib.hid hn
  have HH := Lib.hid hh
  have K1 := Lib.hid (fun (c a : Int) h hc => ak1 (qs := qs) (ns := ns) (hs := hs) (c := c) (a := a) h hc)
  have K2 := Lib.hid (fun (c a : Int) h0 h hc => ak2 (qs := qs) (ns := ns) (hs := hs) (c := c) (a := a) h0 h hc)
  have K3 := Lib.hid (fun (c a : Int) h0 h1 h hc => ak3 (qs := qs) (ns := ns) (hs := hs) (c := c) (a := a) h0 h1 h hc)
  have K4 := Lib.hid (fun h0 h1 h => ak4 (qs := qs) (ns := ns) (hs := hs) h0 h1 h)
  have HDF := Lib.hid (fun (i : Nat) (W : World) (hi : i < qs.length) (hW : DsAt W Ad qs) => declfault_any qs Ad dc i hi h1 h2 W hW)
  have HDO := Lib.hid (fun (i : Nat) (W : World) (hW : DsAt W Ad qs) => declof_any qs Ad dc (nn ns i).name (Nat.le_trans h1 h2) W hW)
  have HKF := Lib.hid (fun (i : Nat) (W : World) (hi : i < ns.length) (hW : DsAt W Ad qs) (hN : NsAt W An ns) (a1 : 1 ≤ (nn ns i).op) (a2 : (nn ns i).op ≤ 25) (a3 : (nn ns i).op = 9 → ¬ fdZ qs (nn ns i).name < 0) =>
    kidsfault_any qs ns Ad An Ah dc nc hs.length hc i (Nat.le_trans h1 h2) hi h3 W hW hN a1 a2 a3)
  have HSL := Lib.hid (fun i => srtL_len qs ns i)
  have HSR := Lib.hid (fun (i : Nat) (W : World) (A' S : Option Addr) (c' sc : Nat) (hi : i ≤ 200) (h8 : (nn ns i).kids.length ≤ 8) (hW : DsAt W Ad qs) (hX : Is W A' (nn ns i).kids) (hS : Is W S (srtL qs ns i)) (a1 : 1 ≤ (nn ns i).op) (a2 : (nn ns i).op ≤ 25) (a3 : (nn ns i).op = 9 → ¬ fdZ qs (nn ns i).name < 0)
      (a4 : kIn i (nn ns i).kids = true) (a5 : (nn ns i).op ≠ 9 → kcN (nn ns i).op = -1 ∨ kcN (nn ns i).op = (nn ns i).kids.length) (a6 : flC (nn ns i).op (nn ns i).n (nn ns i).d (nn ns i).name.toList.isEmpty = 0) =>
    (by have := sortref_any qs (nn ns i) (srtL qs ns i) Ad A' S dc c' sc ns.length nc hs.length hc 0 0 An Ah (Nat.le_trans h1 h2) (by rw [srtL_len]; unfold maxLen; omega) h8 W hW hX hS a1 a2 a3 (by rw [srtL_len]; exact a4) a5 a6
        rw [srtL_len] at this; exact this : Calls Tryz.prog 47 #[.agg #[.slice Ad qs.length dc, .slice An ns.length nc, .slice Ah hs.length hc], .agg #[.int .i64 (nn ns i).op, .slice A' (nn ns i).kids.length c', .int .i64 (nn ns i).n, .int .i64 (nn ns i).d, .string (nn ns i).name], .slice S i sc] W fun e w' => e = .returned (.int .i64 (ndT qs (nn ns i) (srtL qs ns i))) ∧ Below W.heap.size W w'))
  have HNA := Lib.hid (fun (i : Nat) (W : World) (hi : i < ns.length) (hW : NsAt W An ns) => ns_at hW hi)
  unfold GivesS
  generalize akL qs ns hs = L at *
  generalize akC qs ns hs = C at *
  generalize akA qs ns hs = A at *
  unfold maxLen at h2 h3 h4
  clear hd hn hh
  generalize hql : qs.length = ql at *
  generalize hnl : ns.length = nl at *
  generalize hhl : hs.length = hl at *
  have HQL := Lib.hid hql
  have HNL := Lib.hid hnl
  have HHL := Lib.hid hhl
  clear hql hnl hhl
  have N1 : Hid (HB ((w.alloc (.cells #[.slice Ad ql dc, .slice An nl nc, .slice Ah hl hc] 26)).alloc (.cells #[.int .i64 0, .int .i64 0] 32)) w.heap.size 26 #[.slice Ad ql dc, .slice An nl nc, .slice Ah hl hc]) := Lib.hid ((HB.new _ _ _).alloc _)
  have R1 : Hid (HB ((w.alloc (.cells #[.slice Ad ql dc, .slice An nl nc, .slice Ah hl hc] 26)).alloc (.cells #[.int .i64 0, .int .i64 0] 32)) (w.heap.size + 1) 32 #[.int .i64 0, .int .i64 0]) := Lib.hid (HB.new1 _ _ _ _)
  have G1 : Hid (Below w.heap.size w ((w.alloc (.cells #[.slice Ad ql dc, .slice An nl nc, .slice Ah hl hc] 26)).alloc (.cells #[.int .i64 0, .int .i64 0] 32))) := Lib.hid (by go_grown)
  by_cases hq30 : 30 < ql
  · have HK := Lib.hid (K1.out 2 0 (fs_many hq30) (by decide))
    have t1 : decide ((30 : Int) < ql) = true := by simp; omega
    clear hq30
    go_enter Tryz.func17, Tryz.ntmps17
    go_wp2_with fail
    refine bodyPost_ret (v := .tuple #[.slice none 0 0, .agg #[.int .i64 2, .int .i64 0]]) (by simp [results, Tryz.results17, go_sem]) rfl ⟨none, 0, by rw [HK.out.2.2, HK.out.1, HK.out.2.1]; rfl, by rw [HK.out.2.2]; exact isb_nil _ _ _, by rw [HK.out.2.2]; exact Nat.le_refl _, Nat.zero_le _, ?_⟩
    go_grown
  · have t1 : decide ((30 : Int) < ql) = false := by simp; omega
    go_enter Tryz.func17, Tryz.ntmps17
    go_wp2_with fail
    go_loopw [4, 5] (fun k _ wr => ∃ i : Nat, i ≤ ql ∧ k = .int .i64 i ∧ Hid (∀ j, j < i → dcC qs j = 0) ∧ Hid (HB wr w.heap.size 26 #[.slice Ad ql dc, .slice An nl nc, .slice Ah hl hc]) ∧ Hid (HB wr (w.heap.size + 1) 32 #[.int .i64 0, .int .i64 0]) ∧ Hid (Below w.heap.size w wr)) (fun k _ _ => ql - (intOf k).toNat)
    case atStart => exact ⟨0, by omega, rfl, fun j hj => absurd hj (by omega), N1, R1, G1⟩
    case round =>
      obtain ⟨i, hi, rfl, HP, N2, R2, G2⟩ := hrel
      clear N1 R1 G1
      obtain ⟨x0, x1, x2, _⟩ := N2.out.three
      by_cases hlt : i < ql
      · have t3 : decide ((i : Int) < ql) = true := by simpa using hlt
        have HX := Lib.hid (HDF.out i _ hlt (HD.out.below G2.out))
        by_cases hc0 : dcC qs i = 0
        · have H0 := Lib.hid hc0
          rw [hc0] at HX
          clear hc0
          go_wp2_with fail
          refine HX.out.mono ?_
          rintro e w1 ⟨rfl, hb1⟩
          have G3 : Hid (Below w.heap.size w w1) := bw_below (Nat.le_refl _) G2.out hb1
          have N3 := Lib.hid (N2.out.below hb1)
          have R3 := Lib.hid (R2.out.below hb1)
          clear hb1
          go_wp2_with fail
          go_round
          case rel => exact ⟨i + 1, by omega, by go_num, fun p hp => by
            rcases Nat.lt_or_ge p i with z | z
            · exact HP.out p z
            · obtain rfl : p = i := by omega
              exact H0.out, N3, R3, G3⟩
          case measure => simp [intOf]; omega
        · have tc : (dcC qs i != 0) = true := by simpa using hc0
          have HK := Lib.hid (K1.out (dcC qs i) i (fs_at (by omega) hlt HP.out hc0) hc0)
          clear hc0
          generalize dcC qs i = ci at *
          go_wp2_with fail
          refine HX.out.mono ?_
          rintro e w1 ⟨rfl, hb1⟩
          have G3 : Hid (Below w.heap.size w w1) := bw_below (Nat.le_refl _) G2.out hb1
          have N3 := Lib.hid (N2.out.below hb1)
          have R3 := Lib.hid (R2.out.below hb1)
          clear hb1
          have RR := hb_set2 (n := .int .i64 ci) (d := .int .i64 i) R3.out
          have FF := bw_far G3.out (Nat.le_succ _) (far2 _ (w.heap.size + 1) (.int .i64 ci) (.int .i64 i))
          obtain ⟨r0, r1, r2, r3⟩ := R3.out.two
          have lr := R3.out.lt
          obtain ⟨y0, y1, _, _⟩ := RR.two
          go_wp2_with fail
          refine bodyPost_ret (v := .tuple #[.slice none 0 0, .agg #[.int .i64 ci, .int .i64 i]]) (by simp [results, Tryz.results17, go_sem, y0, y1]) rfl ⟨none, 0, by rw [HK.out.2.2, HK.out.1, HK.out.2.1]; rfl, by rw [HK.out.2.2]; exact isb_nil _ _ _, by rw [HK.out.2.2]; exact Nat.le_refl _, Nat.zero_le _, FF⟩
      · obtain rfl : ql = i := by omega
        have t3 : decide ((ql : Int) < ql) = false := by simp
        have Z1 := Lib.hid (fs_ok (code := dcC qs) (lim := 30) (by omega) HP.out).1
        clear hlt
        by_cases hn200 : 200 < nl
        · have HK := Lib.hid (K2.out 2 0 Z1.out (fs_many hn200) (by decide))
          have t5 : decide ((200 : Int) < nl) = true := by simp; omega
          clear hn200
          have RR := hb_set2 (n := .int .i64 2) (d := .int .i64 0) R2.out
          have FF := bw_far G2.out (Nat.le_succ _) (far2 _ (w.heap.size + 1) (.int .i64 2) (.int .i64 0))
          obtain ⟨r0, r1, r2, r3⟩ := R2.out.two
          have lr := R2.out.lt
          obtain ⟨y0, y1, _, _⟩ := RR.two
          go_wp2_with fail
          refine bodyPost_ret (v := .tuple #[.slice none 0 0, .agg #[.int .i64 2, .int .i64 0]]) (by simp [results, Tryz.results17, go_sem, y0, y1]) rfl ⟨none, 0, by rw [HK.out.2.2, HK.out.1, HK.out.2.1]; rfl, by rw [HK.out.2.2]; exact isb_nil _ _ _, by rw [HK.out.2.2]; exact Nat.le_refl _, Nat.zero_le _, FF⟩
        · have t5 : decide ((200 : Int) < nl) = false := by simp; omega
          go_wp2_with fail
          go_loopw [6, 7, 8, 9, 10] (fun v k _ _ _ wx => ∃ (n : Nat) (Ak : Option Addr) (ck : Nat), n ≤ nl ∧ k = .int .i64 n ∧ v = .slice Ak n ck ∧ Hid (∀ j, j < n → nC qs ns j = 0) ∧ Hid (wx.ownsRow w.heap.size 3 1 (.slice Ak n ck) n (intV (srtL qs ns n))) ∧ Hid (HB wx w.heap.size 26 #[.slice Ad ql dc, .slice An nl nc, .slice Ah hl hc]) ∧ Hid (HB wx (w.heap.size + 1) 32 #[.int .i64 0, .int .i64 0]) ∧ Hid (Below w.heap.size w wx)) (fun _ k _ _ _ _ => nl - (intOf k).toNat)
          case atStart => exact ⟨0, none, 0, by omega, rfl, rfl, fun j hj => absurd hj (by omega), Lib.hid (by simpa [intV, srtL] using own_nil _ w.heap.size 3 1), N2, R2, G2⟩
          case round =>
            obtain ⟨n, Ak, ck, hn, rfl, rfl, HP2, HO, N3, R3, G3⟩ := hrel
            clear HP N2 R2 G2 x0 x1 x2
            obtain ⟨x0, x1, x2, _⟩ := N3.out.three
            by_cases hltn : n < nl
            · have t6 : decide ((n : Int) < nl) = true := by simpa using hltn
              obtain ⟨bn, on, A', c', rfl, hbn, c0, c1, c2, c3, c4, _, hkk, hX⟩ := HNA.out n _ hltn (HN.out.below G3.out)
              have HX := Lib.hid (hX.below (new_below wr (.cells #[.int .i64 (nn ns n).op, .slice A' (nn ns n).kids.length c', .int .i64 (nn ns n).n, .int .i64 (nn ns n).d, .string (nn ns n).name] 56)))
              have lw3 := N3.out.lt
              have HKK := Lib.hid hkk
              have his := own_isb HO.out (HSL.out n)
              have HIS := Lib.hid his.1.is
              clear hX hkk his
              have N4 := Lib.hid (N3.out.alloc (.cells #[.int .i64 (nn ns n).op, .slice A' (nn ns n).kids.length c', .int .i64 (nn ns n).n, .int .i64 (nn ns n).d, .string (nn ns n).name] 56))
              have R4 := Lib.hid (R3.out.alloc (.cells #[.int .i64 (nn ns n).op, .slice A' (nn ns n).kids.length c', .int .i64 (nn ns n).n, .int .i64 (nn ns n).d, .string (nn ns n).name] 56))
              have M4 := Lib.hid (HB.new wr 56 #[.int .i64 (nn ns n).op, .slice A' (nn ns n).kids.length c', .int .i64 (nn ns n).n, .int .i64 (nn ns n).d, .string (nn ns n).name])
              have O4 := Lib.hid (own_alloc HO.out (.cells #[.int .i64 (nn ns n).op, .slice A' (nn ns n).kids.length c', .int .i64 (nn ns n).n, .int .i64 (nn ns n).d, .string (nn ns n).name] 56))
              have G4 := Lib.hid (Below.alloc G3.out G3.out.size (.cells #[.int .i64 (nn ns n).op, .slice A' (nn ns n).kids.length c', .int .i64 (nn ns n).n, .int .i64 (nn ns n).d, .string (nn ns n).name] 56))
              have HFA : Hid (∀ c : Int, c ≠ 0 → nC qs ns n = c → C = c ∧ A = n ∧ L = []) := Lib.hid (fun c hc hN => K2.out c n Z1.out (by
                have := fs_at (code := nC qs ns) (lim := 200) (by omega) hltn HP2.out (by rw [hN]; exact hc)
                rw [hN] at this
                exact this) hc)
              clear HIS
              by_cases b1 : (nn ns n).op < 1
              · have HK := Lib.hid (HFA.out 4 (by decide) (by unfold nC ndC; rw [if_pos (.inl b1)]))
                have d1 : decide ((nn ns n).op < 1) = true := by simpa using b1
                clear b1
                have RR := hb_set2 (n := .int .i64 4) (d := .int .i64 n) R4.out
                have FF := bw_far G4.out (Nat.le_succ _) (far2 _ (w.heap.size + 1) (.int .i64 4) (.int .i64 n))
                obtain ⟨r0, r1, r2, r3⟩ := R4.out.two
                have lr := R4.out.lt
                obtain ⟨y0, y1, _, _⟩ := RR.two
                go_wp2_with fail
                refine bodyPost_ret (v := .tuple #[.slice none 0 0, .agg #[.int .i64 4, .int .i64 n]]) (by simp [results, Tryz.results17, go_sem, y0, y1]) rfl ⟨none, 0, by rw [HK.out.2.2, HK.out.1, HK.out.2.1]; rfl, by rw [HK.out.2.2]; exact isb_nil _ _ _, by rw [HK.out.2.2]; exact Nat.le_refl _, Nat.zero_le _, FF⟩
              · have d1 : decide ((nn ns n).op < 1) = false := by simpa using b1
                by_cases b2 : 25 < (nn ns n).op
                · have HK := Lib.hid (HFA.out 4 (by decide) (by unfold nC ndC; rw [if_pos (.inr b2)]))
                  have d2 : decide (25 < (nn ns n).op) = true := by simpa using b2
                  clear b2
                  have RR := hb_set2 (n := .int .i64 4) (d := .int .i64 n) R4.out
                  have FF := bw_far G4.out (Nat.le_succ _) (far2 _ (w.heap.size + 1) (.int .i64 4) (.int .i64 n))
                  obtain ⟨r0, r1, r2, r3⟩ := R4.out.two
                  have lr := R4.out.lt
                  obtain ⟨y0, y1, _, _⟩ := RR.two
                  go_wp2_with fail
                  refine bodyPost_ret (v := .tuple #[.slice none 0 0, .agg #[.int .i64 4, .int .i64 n]]) (by simp [results, Tryz.results17, go_sem, y0, y1]) rfl ⟨none, 0, by rw [HK.out.2.2, HK.out.1, HK.out.2.1]; rfl, by rw [HK.out.2.2]; exact isb_nil _ _ _, by rw [HK.out.2.2]; exact Nat.le_refl _, Nat.zero_le _, FF⟩
                · have d2 : decide (25 < (nn ns n).op) = false := by simpa using b2
                  have HO1 := Lib.hid (show 1 ≤ (nn ns n).op by omega)
                  have HO2 := Lib.hid (show (nn ns n).op ≤ 25 by omega)
                  have B12 := Lib.hid (show ¬ ((nn ns n).op < 1 ∨ 25 < (nn ns n).op) by omega)
                  clear b1 b2
                  obtain ⟨m0, m1, m2, m3, m4⟩ := ag5 M4.out
                  by_cases h9 : (nn ns n).op = 9
                  · have t9 : ((nn ns n).op == 9) = true := by simpa using h9
                    have H9 := Lib.hid h9
                    have XD := Lib.hid (HDO.out n _ (HD.out.below G4.out))
                    clear h9
                    by_cases hf : fdZ qs (nn ns n).name < 0
                    · have HK := Lib.hid (HFA.out 6 (by decide) (by unfold nC ndC; rw [if_neg B12.out, if_pos ⟨H9.out, hf⟩]))
                      have tf : decide (fdZ qs (nn ns n).name < 0) = true := by simpa using hf
                      clear hf
                      go_wp2_with fail
                      refine XD.out.mono ?_
                      rintro e w1 ⟨rfl, rfl⟩
                      have RR := hb_set2 (n := .int .i64 6) (d := .int .i64 n) R4.out
                      have FF := bw_far G4.out (Nat.le_succ _) (far2 _ (w.heap.size + 1) (.int .i64 6) (.int .i64 n))
                      obtain ⟨r0, r1, r2, r3⟩ := R4.out.two
                      have lr := R4.out.lt
                      obtain ⟨y0, y1, _, _⟩ := RR.two
                      go_wp2_with fail
                      refine bodyPost_ret (v := .tuple #[.slice none 0 0, .agg #[.int .i64 6, .int .i64 n]]) (by simp [results, Tryz.results17, go_sem, y0, y1]) rfl ⟨none, 0, by rw [HK.out.2.2, HK.out.1, HK.out.2.1]; rfl, by rw [HK.out.2.2]; exact isb_nil _ _ _, by rw [HK.out.2.2]; exact Nat.le_refl _, Nat.zero_le _, FF⟩
                    · have tf : decide (fdZ qs (nn ns n).name < 0) = false := by simpa using hf
                      have HF9 : Hid ((nn ns n).op = 9 → ¬ fdZ qs (nn ns n).name < 0) := Lib.hid (fun _ => hf)
                      have HSP := Lib.hid (nd_split (qs := qs) (i := n) (sorts := srtL qs ns n) B12.out (fun z => hf z.2))
                      clear hf
                      go_wp2_with fail
                      refine XD.out.mono ?_
                      rintro e w1 ⟨rfl, rfl⟩
                      go_wp2_with fail
                      have X1 := Lib.hid (HKF.out n _ hltn (HD.out.below G4.out) (HN.out.below G4.out) HO1.out HO2.out HF9.out)
                      by_cases hk0 : kdC qs (nn ns n) n = 0
                      · obtain ⟨k8, kn, ki⟩ := kd_zero hk0
                        have HK8 := Lib.hid k8
                        have HKN := Lib.hid kn
                        have HKI := Lib.hid ki
                        have HK0 := Lib.hid hk0
                        rw [hk0] at X1
                        clear k8 kn ki hk0
                        refine X1.out.mono ?_
                        rintro e w1 ⟨rfl, hb1⟩
                        have N5 := Lib.hid (N4.out.below hb1)
                        have HX5 := Lib.hid (HX.out.below hb1)
                        have R5 := Lib.hid (R4.out.below hb1)
                        have M5 := Lib.hid (M4.out.below hb1)
                        have O5 := Lib.hid (own_below O4.out hb1)
                        have G5 : Hid (Below w.heap.size w w1) := bw_below (Nat.le_refl _) G4.out hb1
                        clear hb1 m0 m1 m2 m3 m4 x0 x1 x2 N4 R4 M4 O4 G4 X1 c0 c1 c2 c3 c4 hbn N3 R3 G3 lw3
                        obtain ⟨m0, m1, m2, m3, m4⟩ := ag5 M5.out
                        have lm := M5.out.lt
                        obtain ⟨x0, x1, x2, _⟩ := N5.out.three
                        go_wp2_with fail
                        refine (fieldsfault_any (nn ns n).op (nn ns n).n (nn ns n).d (nn ns n).name A' (nn ns n).kids.length c' _).mono ?_
                        rintro e w2 ⟨rfl, hb2⟩
                        have N6 := Lib.hid (N5.out.below hb2)
                        have HX6 := Lib.hid (HX5.out.below hb2)
                        have R6 := Lib.hid (R5.out.below hb2)
                        have M6 := Lib.hid (M5.out.below hb2)
                        have O6 := Lib.hid (own_below O5.out hb2)
                        have G6 : Hid (Below w.heap.size w w2) := bw_below (Nat.le_refl _) G5.out hb2
                        clear hb2 m0 m1 m2 m3 m4 lm x0 x1 x2 N5 R5 M5 O5 G5
                        obtain ⟨m0, m1, m2, m3, m4⟩ := ag5 M6.out
                        have lm := M6.out.lt
                        obtain ⟨x0, x1, x2, _⟩ := N6.out.three
                        by_cases hf0 : flC (nn ns n).op (nn ns n).n (nn ns n).d (nn ns n).name.toList.isEmpty = 0
                        · have HF0 := Lib.hid hf0
                          rw [hf0]
                          clear hf0
                          have XS := Lib.hid (HSR.out n _ A' Ak c' ck (by omega) HK8.out (HD.out.below G6.out) HX6.out (own_isb O6.out (HSL.out n)).1.is HO1.out HO2.out HF9.out HKI.out HKN.out HF0.out)
                          go_wp2_with fail
                          by_cases hT : ndT qs (nn ns n) (srtL qs ns n) = 0
                          · have HK := Lib.hid (HFA.out 8 (by decide) (by unfold nC; rw [HSP.out, HK0.out, HF0.out, if_neg (by simp), if_neg (by simp), if_pos hT]))
                            rw [hT] at XS
                            clear hT
                            refine XS.out.mono ?_
                            rintro e w3 ⟨rfl, hb3⟩
                            have R7 := Lib.hid (R6.out.below hb3)
                            have G7 : Hid (Below w.heap.size w w3) := bw_below (Nat.le_refl _) G6.out hb3
                            clear hb3
                            have RR := hb_set2 (n := .int .i64 8) (d := .int .i64 n) R7.out
                            have FF := bw_far G7.out (Nat.le_succ _) (far2 _ (w.heap.size + 1) (.int .i64 8) (.int .i64 n))
                            obtain ⟨r0, r1, r2, r3⟩ := R7.out.two
                            have lr := R7.out.lt
                            obtain ⟨y0, y1, _, _⟩ := RR.two
                            go_wp2_with fail
                            refine bodyPost_ret (v := .tuple #[.slice none 0 0, .agg #[.int .i64 8, .int .i64 n]]) (by simp [results, Tryz.results17, go_sem, y0, y1]) rfl ⟨none, 0, by rw [HK.out.2.2, HK.out.1, HK.out.2.1]; rfl, by rw [HK.out.2.2]; exact isb_nil _ _ _, by rw [HK.out.2.2]; exact Nat.le_refl _, Nat.zero_le _, FF⟩
                          · have tT : (ndT qs (nn ns n) (srtL qs ns n) == 0) = false := by simpa using hT
                            have HN0 : Hid (nC qs ns n = 0) := Lib.hid (by unfold nC; rw [HSP.out, HK0.out, HF0.out, if_neg (by simp), if_neg (by simp), if_neg hT])
                            have HNS : Hid (srtL qs ns (n + 1) = srtL qs ns n ++ [ndT qs (nn ns n) (srtL qs ns n)]) := Lib.hid (by
                              rw [show srtL qs ns (n + 1) = srtL qs ns n ++ [ndS qs (nn ns n) n (srtL qs ns n)] from rfl]
                              have := HN0.out
                              unfold nC at this
                              unfold ndS
                              rw [if_pos this])
                            clear hT
                            generalize ndT qs (nn ns n) (srtL qs ns n) = so at *
                            refine XS.out.mono ?_
                            rintro e w3 ⟨rfl, hb3⟩
                            have R7 := Lib.hid (R6.out.below hb3)
                            have N7 := Lib.hid (N6.out.below hb3)
                            have O7 := Lib.hid (own_below O6.out hb3)
                            have G7 : Hid (Below w.heap.size w w3) := bw_below (Nat.le_refl _) G6.out hb3
                            have lw3 := G7.out.size
                            clear hb3 m0 m1 m2 m3 m4 lm x0 x1 x2 N6 R6 M6 O6 G6 XS
                            go_wp2_with (at_builtin; refine wpl_app 24 3 Tryz.underlying24 (.int .i64 0) 1 8 info3' rfl (by decide) rfl _ _ rfl w.heap.size (.slice Ak n ck) n (intV (srtL qs ns n)) rfl (own_alloc O7.out _) w3.heap.size #[.int .i64 so] rfl (HB.new _ _ _) rfl (by simp [Value.oneCell']) (by omega) (by unfold maxLen; omega) (by simp; omega) ?_)
                            intro g4 cap4 w4 hown4 hkp4 hbw4
                            have O8 : Hid (w4.ownsRow w.heap.size 3 1 (.slice (some ⟨g4, 0, none⟩) (n + 1) cap4) (n + 1) (intV (srtL qs ns (n + 1)))) := Lib.hid (by rw [HNS.out, intV_snoc]; exact hown4.out)
                            have N8 := Lib.hid (hkp4 _ _ _ (own_ne O7.out N7.out (by decide)) (N7.out.alloc (.cells #[.int .i64 so] 3)))
                            have R8 := Lib.hid (hkp4 _ _ _ (own_ne O7.out R7.out (by decide)) (R7.out.alloc (.cells #[.int .i64 so] 3)))
                            have G8 : Hid (Below w.heap.size w w4) := Lib.hid (hbw4 w (Below.alloc G7.out (by omega) _))
                            clear hown4 hkp4 hbw4
                            go_wp2_with fail
                            go_round
                            case rel => exact ⟨n + 1, some ⟨g4, 0, none⟩, cap4, by omega, by go_num, by simp, fun p hp => by
                              rcases Nat.lt_or_ge p n with z | z
                              · exact HP2.out p z
                              · obtain rfl : p = n := by omega
                                exact HN0.out, O8, N8, R8, G8⟩
                            case measure => simp [intOf]; omega
                        · have tf0 : (flC (nn ns n).op (nn ns n).n (nn ns n).d (nn ns n).name.toList.isEmpty != 0) = true := by simpa using hf0
                          have HK := Lib.hid (HFA.out _ hf0 (by unfold nC; rw [HSP.out, HK0.out, if_neg (by simp), if_pos hf0]))
                          clear hf0
                          generalize flC (nn ns n).op (nn ns n).n (nn ns n).d (nn ns n).name.toList.isEmpty = fl at *
                          have RR := hb_set2 (n := .int .i64 fl) (d := .int .i64 n) R6.out
                          have FF := bw_far G6.out (Nat.le_succ _) (far2 _ (w.heap.size + 1) (.int .i64 fl) (.int .i64 n))
                          obtain ⟨r0, r1, r2, r3⟩ := R6.out.two
                          have lr := R6.out.lt
                          obtain ⟨y0, y1, _, _⟩ := RR.two
                          go_wp2_with fail
                          refine bodyPost_ret (v := .tuple #[.slice none 0 0, .agg #[.int .i64 fl, .int .i64 n]]) (by simp [results, Tryz.results17, go_sem, y0, y1]) rfl ⟨none, 0, by rw [HK.out.2.2, HK.out.1, HK.out.2.1]; rfl, by rw [HK.out.2.2]; exact isb_nil _ _ _, by rw [HK.out.2.2]; exact Nat.le_refl _, Nat.zero_le _, FF⟩
                      · have tk0 : (kdC qs (nn ns n) n == 0) = false := by simpa using hk0
                        have tk1 : (kdC qs (nn ns n) n != 0) = true := by simpa using hk0
                        have HK := Lib.hid (HFA.out _ hk0 (by unfold nC; rw [HSP.out, if_pos hk0]))
                        clear hk0
                        generalize kdC qs (nn ns n) n = kd at *
                        refine X1.out.mono ?_
                        rintro e w1 ⟨rfl, hb1⟩
                        have R5 := Lib.hid (R4.out.below hb1)
                        have G5 : Hid (Below w.heap.size w w1) := bw_below (Nat.le_refl _) G4.out hb1
                        clear hb1
                        have RR := hb_set2 (n := .int .i64 kd) (d := .int .i64 n) R5.out
                        have FF := bw_far G5.out (Nat.le_succ _) (far2 _ (w.heap.size + 1) (.int .i64 kd) (.int .i64 n))
                        obtain ⟨r0, r1, r2, r3⟩ := R5.out.two
                        have lr := R5.out.lt
                        obtain ⟨y0, y1, _, _⟩ := RR.two
                        go_wp2_with fail
                        refine bodyPost_ret (v := .tuple #[.slice none 0 0, .agg #[.int .i64 kd, .int .i64 n]]) (by simp [results, Tryz.results17, go_sem, y0, y1]) rfl ⟨none, 0, by rw [HK.out.2.2, HK.out.1, HK.out.2.1]; rfl, by rw [HK.out.2.2]; exact isb_nil _ _ _, by rw [HK.out.2.2]; exact Nat.le_refl _, Nat.zero_le _, FF⟩
                  · have t9 : ((nn ns n).op == 9) = false := by simpa using h9
                    have HF9 : Hid ((nn ns n).op = 9 → ¬ fdZ qs (nn ns n).name < 0) := Lib.hid (fun z => absurd z h9)
                    have HSP := Lib.hid (nd_split (qs := qs) (i := n) (sorts := srtL qs ns n) B12.out (fun z => h9 z.1))
                    clear h9
                    go_wp2_with fail
                    have X1 := Lib.hid (HKF.out n _ hltn (HD.out.below G4.out) (HN.out.below G4.out) HO1.out HO2.out HF9.out)
                    by_cases hk0 : kdC qs (nn ns n) n = 0
                    · obtain ⟨k8, kn, ki⟩ := kd_zero hk0
                      have HK8 := Lib.hid k8
                      have HKN := Lib.hid kn
                      have HKI := Lib.hid ki
                      have HK0 := Lib.hid hk0
                      rw [hk0] at X1
                      clear k8 kn ki hk0
                      refine X1.out.mono ?_
                      rintro e w1 ⟨rfl, hb1⟩
                      have N5 := Lib.hid (N4.out.below hb1)
                      have HX5 := Lib.hid (HX.out.below hb1)
                      have R5 := Lib.hid (R4.out.below hb1)
                      have M5 := Lib.hid (M4.out.below hb1)
                      have O5 := Lib.hid (own_below O4.out hb1)
                      have G5 : Hid (Below w.heap.size w w1) := bw_below (Nat.le_refl _) G4.out hb1
                      clear hb1 m0 m1 m2 m3 m4 x0 x1 x2 N4 R4 M4 O4 G4 X1 c0 c1 c2 c3 c4 hbn N3 R3 G3 lw3
                      obtain ⟨m0, m1, m2, m3, m4⟩ := ag5 M5.out
                      have lm := M5.out.lt
                      obtain ⟨x0, x1, x2, _⟩ := N5.out.three
                      go_wp2_with fail
                      refine (fieldsfault_any (nn ns n).op (nn ns n).n (nn ns n).d (nn ns n).name A' (nn ns n).kids.length c' _).mono ?_
                      rintro e w2 ⟨rfl, hb2⟩
                      have N6 := Lib.hid (N5.out.below hb2)
                      have HX6 := Lib.hid (HX5.out.below hb2)
                      have R6 := Lib.hid (R5.out.below hb2)
                      have M6 := Lib.hid (M5.out.below hb2)
                      have O6 := Lib.hid (own_below O5.out hb2)
                      have G6 : Hid (Below w.heap.size w w2) := bw_below (Nat.le_refl _) G5.out hb2
                      clear hb2 m0 m1 m2 m3 m4 lm x0 x1 x2 N5 R5 M5 O5 G5
                      obtain ⟨m0, m1, m2, m3, m4⟩ := ag5 M6.out
                      have lm := M6.out.lt
                      obtain ⟨x0, x1, x2, _⟩ := N6.out.three
                      by_cases hf0 : flC (nn ns n).op (nn ns n).n (nn ns n).d (nn ns n).name.toList.isEmpty = 0
                      · have HF0 := Lib.hid hf0
                        rw [hf0]
                        clear hf0
                        have XS := Lib.hid (HSR.out n _ A' Ak c' ck (by omega) HK8.out (HD.out.below G6.out) HX6.out (own_isb O6.out (HSL.out n)).1.is HO1.out HO2.out HF9.out HKI.out HKN.out HF0.out)
                        go_wp2_with fail
                        by_cases hT : ndT qs (nn ns n) (srtL qs ns n) = 0
                        · have HK := Lib.hid (HFA.out 8 (by decide) (by unfold nC; rw [HSP.out, HK0.out, HF0.out, if_neg (by simp), if_neg (by simp), if_pos hT]))
                          rw [hT] at XS
                          clear hT
                          refine XS.out.mono ?_
                          rintro e w3 ⟨rfl, hb3⟩
                          have R7 := Lib.hid (R6.out.below hb3)
                          have G7 : Hid (Below w.heap.size w w3) := bw_below (Nat.le_refl _) G6.out hb3
                          clear hb3
                          have RR := hb_set2 (n := .int .i64 8) (d := .int .i64 n) R7.out
                          have FF := bw_far G7.out (Nat.le_succ _) (far2 _ (w.heap.size + 1) (.int .i64 8) (.int .i64 n))
                          obtain ⟨r0, r1, r2, r3⟩ := R7.out.two
                          have lr := R7.out.lt
                          obtain ⟨y0, y1, _, _⟩ := RR.two
                          go_wp2_with fail
                          refine bodyPost_ret (v := .tuple #[.slice none 0 0, .agg #[.int .i64 8, .int .i64 n]]) (by simp [results, Tryz.results17, go_sem, y0, y1]) rfl ⟨none, 0, by rw [HK.out.2.2, HK.out.1, HK.out.2.1]; rfl, by rw [HK.out.2.2]; exact isb_nil _ _ _, by rw [HK.out.2.2]; exact Nat.le_refl _, Nat.zero_le _, FF⟩
                        · have tT : (ndT qs (nn ns n) (srtL qs ns n) == 0) = false := by simpa using hT
                          have HN0 : Hid (nC qs ns n = 0) := Lib.hid (by unfold nC; rw [HSP.out, HK0.out, HF0.out, if_neg (by simp), if_neg (by simp), if_neg hT])
                          have HNS : Hid (srtL qs ns (n + 1) = srtL qs ns n ++ [ndT qs (nn ns n) (srtL qs ns n)]) := Lib.hid (by
                            rw [show srtL qs ns (n + 1) = srtL qs ns n ++ [ndS qs (nn ns n) n (srtL qs ns n)] from rfl]
                            have := HN0.out
                            unfold nC at this
                            unfold ndS
                            rw [if_pos this])
                          clear hT
                          generalize ndT qs (nn ns n) (srtL qs ns n) = so at *
                          refine XS.out.mono ?_
                          rintro e w3 ⟨rfl, hb3⟩
                          have R7 := Lib.hid (R6.out.below hb3)
                          have N7 := Lib.hid (N6.out.below hb3)
                          have O7 := Lib.hid (own_below O6.out hb3)
                          have G7 : Hid (Below w.heap.size w w3) := bw_below (Nat.le_refl _) G6.out hb3
                          have lw3 := G7.out.size
                          clear hb3 m0 m1 m2 m3 m4 lm x0 x1 x2 N6 R6 M6 O6 G6 XS
                          go_wp2_with (at_builtin; refine wpl_app 24 3 Tryz.underlying24 (.int .i64 0) 1 8 info3' rfl (by decide) rfl _ _ rfl w.heap.size (.slice Ak n ck) n (intV (srtL qs ns n)) rfl (own_alloc O7.out _) w3.heap.size #[.int .i64 so] rfl (HB.new _ _ _) rfl (by simp [Value.oneCell']) (by omega) (by unfold maxLen; omega) (by simp; omega) ?_)
                          intro g4 cap4 w4 hown4 hkp4 hbw4
                          have O8 : Hid (w4.ownsRow w.heap.size 3 1 (.slice (some ⟨g4, 0, none⟩) (n + 1) cap4) (n + 1) (intV (srtL qs ns (n + 1)))) := Lib.hid (by rw [HNS.out, intV_snoc]; exact hown4.out)
                          have N8 := Lib.hid (hkp4 _ _ _ (own_ne O7.out N7.out (by decide)) (N7.out.alloc (.cells #[.int .i64 so] 3)))
                          have R8 := Lib.hid (hkp4 _ _ _ (own_ne O7.out R7.out (by decide)) (R7.out.alloc (.cells #[.int .i64 so] 3)))
                          have G8 : Hid (Below w.heap.size w w4) := Lib.hid (hbw4 w (Below.alloc G7.out (by omega) _))
                          clear hown4 hkp4 hbw4
                          go_wp2_with fail
                          go_round
                          case rel => exact ⟨n + 1, some ⟨g4, 0, none⟩, cap4, by omega, by go_num, by simp, fun p hp => by
                            rcases Nat.lt_or_ge p n with z | z
                            · exact HP2.out p z
                            · obtain rfl : p = n := by omega
                              exact HN0.out, O8, N8, R8, G8⟩
                          case measure => simp [intOf]; omega
                      · have tf0 : (flC (nn ns n).op (nn ns n).n (nn ns n).d (nn ns n).name.toList.isEmpty != 0) = true := by simpa using hf0
                        have HK := Lib.hid (HFA.out _ hf0 (by unfold nC; rw [HSP.out, HK0.out, if_neg (by simp), if_pos hf0]))
                        clear hf0
                        generalize flC (nn ns n).op (nn ns n).n (nn ns n).d (nn ns n).name.toList.isEmpty = fl at *
                        have RR := hb_set2 (n := .int .i64 fl) (d := .int .i64 n) R6.out
                        have FF := bw_far G6.out (Nat.le_succ _) (far2 _ (w.heap.size + 1) (.int .i64 fl) (.int .i64 n))
                        obtain ⟨r0, r1, r2, r3⟩ := R6.out.two
                        have lr := R6.out.lt
                        obtain ⟨y0, y1, _, _⟩ := RR.two
                        go_wp2_with fail
                        refine bodyPost_ret (v := .tuple #[.slice none 0 0, .agg #[.int .i64 fl, .int .i64 n]]) (by simp [results, Tryz.results17, go_sem, y0, y1]) rfl ⟨none, 0, by rw [HK.out.2.2, HK.out.1, HK.out.2.1]; rfl, by rw [HK.out.2.2]; exact isb_nil _ _ _, by rw [HK.out.2.2]; exact Nat.le_refl _, Nat.zero_le _, FF⟩
                    · have tk0 : (kdC qs (nn ns n) n == 0) = false := by simpa using hk0
                      have tk1 : (kdC qs (nn ns n) n != 0) = true := by simpa using hk0
                      have HK := Lib.hid (HFA.out _ hk0 (by unfold nC; rw [HSP.out, if_pos hk0]))
                      clear hk0
                      generalize kdC qs (nn ns n) n = kd at *
                      refine X1.out.mono ?_
                      rintro e w1 ⟨rfl, hb1⟩
                      have R5 := Lib.hid (R4.out.below hb1)
                      have G5 : Hid (Below w.heap.size w w1) := bw_below (Nat.le_refl _) G4.out hb1
                      clear hb1
                      have RR := hb_set2 (n := .int .i64 kd) (d := .int .i64 n) R5.out
                      have FF := bw_far G5.out (Nat.le_succ _) (far2 _ (w.heap.size + 1) (.int .i64 kd) (.int .i64 n))
                      obtain ⟨r0, r1, r2, r3⟩ := R5.out.two
                      have lr := R5.out.lt
                      obtain ⟨y0, y1, _, _⟩ := RR.two
                      go_wp2_with fail
                      refine bodyPost_ret (v := .tuple #[.slice none 0 0, .agg #[.int .i64 kd, .int .i64 n]]) (by simp [results, Tryz.results17, go_sem, y0, y1]) rfl ⟨none, 0, by rw [HK.out.2.2, HK.out.1, HK.out.2.1]; rfl, by rw [HK.out.2.2]; exact isb_nil _ _ _, by rw [HK.out.2.2]; exact Nat.le_refl _, Nat.zero_le _, FF⟩
            · obtain rfl : nl = n := by omega
              have t6 : decide ((nl : Int) < nl) = false := by simp
              have Z2 := Lib.hid (fs_ok (code := nC qs ns) (lim := 200) (by omega) HP2.out).1
              clear hltn HP2
              by_cases hh200 : 200 < hl
              · have HK := Lib.hid (K3.out 2 0 Z1.out Z2.out (fs_many hh200) (by decide))
                have t7 : decide ((200 : Int) < hl) = true := by simp; omega
                clear hh200
                have RR := hb_set2 (n := .int .i64 2) (d := .int .i64 0) R3.out
                have FF := bw_far G3.out (Nat.le_succ _) (far2 _ (w.heap.size + 1) (.int .i64 2) (.int .i64 0))
                obtain ⟨r0, r1, r2, r3⟩ := R3.out.two
                have lr := R3.out.lt
                obtain ⟨y0, y1, _, _⟩ := RR.two
                go_wp2_with fail
                refine bodyPost_ret (v := .tuple #[.slice none 0 0, .agg #[.int .i64 2, .int .i64 0]]) (by simp [results, Tryz.results17, go_sem, y0, y1]) rfl ⟨none, 0, by rw [HK.out.2.2, HK.out.1, HK.out.2.1]; rfl, by rw [HK.out.2.2]; exact isb_nil _ _ _, by rw [HK.out.2.2]; exact Nat.le_refl _, Nat.zero_le _, FF⟩
              · have t7 : decide ((200 : Int) < hl) = false := by simp; omega
                have his := own_isb HO.out (HSL.out nl)
                have HIS := Lib.hid his.1.is
                have hck := own_cap HO.out
                unfold maxLen at hck
                clear his
                go_wp2_with fail
                go_loopw [11] (fun k wx => ∃ i : Nat, i ≤ hl ∧ k = .int .i64 i ∧ Hid (∀ j, j < i → hC qs ns hs j = 0) ∧ Hid (wr = wx)) (fun k _ => hl - (intOf k).toNat)
                case atStart => exact ⟨0, by omega, rfl, fun j hj => absurd hj (by omega), rfl⟩
                case round =>
                  obtain ⟨i, hi, rfl, HP3, HW⟩ := hrel
                  have HW2 := HW.out
                  subst HW2
                  by_cases hlti : i < hl
                  · have t8 : decide ((i : Int) < hl) = true := by simpa using hlti
                    obtain ⟨bh, oh, rfl, hbh, z0⟩ := is_at (i := i) (HH.out.below G3.out) (by rw [HHL.out]; exact hlti)
                    have HFA : Hid (∀ c : Int, c ≠ 0 → hC qs ns hs i = c → C = c ∧ A = i ∧ L = []) := Lib.hid (fun c hc hN => K3.out c i Z1.out Z2.out (by
                      have := fs_at (code := hC qs ns hs) (lim := 200) (by omega) hlti HP3.out (by rw [hN]; exact hc)
                      rw [hN] at this
                      exact this) hc)
                    have HHC : Hid (hC qs ns hs i = hdC (nth hs i) (srtL qs ns nl)) := Lib.hid (by unfold hC; rw [HNL.out])
                    generalize nth hs i = z at *
                    by_cases z1 : z < 0
                    · have HK := Lib.hid (HFA.out 3 (by decide) (by rw [HHC.out]; unfold hdC; rw [if_pos (.inl z1)]))
                      have u1 : decide (z < 0) = true := by simpa using z1
                      clear z1
                      have RR := hb_set2 (n := .int .i64 3) (d := .int .i64 i) R3.out
                      have FF := bw_far G3.out (Nat.le_succ _) (far2 _ (w.heap.size + 1) (.int .i64 3) (.int .i64 i))
                      obtain ⟨r0, r1, r2, r3⟩ := R3.out.two
                      have lr := R3.out.lt
                      obtain ⟨y0, y1, _, _⟩ := RR.two
                      go_wp2_with fail
                      refine bodyPost_ret (v := .tuple #[.slice none 0 0, .agg #[.int .i64 3, .int .i64 i]]) (by simp [results, Tryz.results17, go_sem, y0, y1]) rfl ⟨none, 0, by rw [HK.out.2.2, HK.out.1, HK.out.2.1]; rfl, by rw [HK.out.2.2]; exact isb_nil _ _ _, by rw [HK.out.2.2]; exact Nat.le_refl _, Nat.zero_le _, FF⟩
                    · have u1 : decide (z < 0) = false := by simpa using z1
                      by_cases z2 : (nl : Int) ≤ z
                      · have HK := Lib.hid (HFA.out 3 (by decide) (by rw [HHC.out]; unfold hdC; rw [HSL.out, if_pos (.inr z2)]))
                        have u2 : decide ((nl : Int) ≤ z) = true := by simpa using z2
                        clear z1 z2
                        have RR := hb_set2 (n := .int .i64 3) (d := .int .i64 i) R3.out
                        have FF := bw_far G3.out (Nat.le_succ _) (far2 _ (w.heap.size + 1) (.int .i64 3) (.int .i64 i))
                        obtain ⟨r0, r1, r2, r3⟩ := R3.out.two
                        have lr := R3.out.lt
                        obtain ⟨y0, y1, _, _⟩ := RR.two
                        go_wp2_with fail
                        refine bodyPost_ret (v := .tuple #[.slice none 0 0, .agg #[.int .i64 3, .int .i64 i]]) (by simp [results, Tryz.results17, go_sem, y0, y1]) rfl ⟨none, 0, by rw [HK.out.2.2, HK.out.1, HK.out.2.1]; rfl, by rw [HK.out.2.2]; exact isb_nil _ _ _, by rw [HK.out.2.2]; exact Nat.le_refl _, Nat.zero_le _, FF⟩
                      · have u2 : decide ((nl : Int) ≤ z) = false := by simpa using z2
                        obtain ⟨bs', os', e5, _, q0⟩ := is_at (i := z.toNat) HIS.out (by rw [HSL.out]; omega)
                        subst e5
                        have hz0 : 0 ≤ z := by omega
                        have hz1 : z < (nl : Int) := by omega
                        have HHD : Hid (hC qs ns hs i = if nth (srtL qs ns nl) z.toNat ≠ 1 then 8 else 0) := Lib.hid (by rw [HHC.out]; unfold hdC; rw [HSL.out, if_neg (by omega)])
                        clear z1 z2
                        generalize nth (srtL qs ns nl) z.toNat = so at *
                        by_cases z3 : so = 1
                        · have H0 : Hid (hC qs ns hs i = 0) := Lib.hid (by rw [HHD.out, if_neg (by simpa using z3)])
                          have u3 : (so != 1) = false := by simpa using z3
                          clear z3
                          go_wp2_with fail
                          go_round
                          case rel => exact ⟨i + 1, by omega, by go_num, fun p hp => by
                            rcases Nat.lt_or_ge p i with y | y
                            · exact HP3.out p y
                            · obtain rfl : p = i := by omega
                              exact H0.out, Lib.hid (by trivial)⟩
                          case measure => simp [intOf]; omega
                        · have HK := Lib.hid (HFA.out 8 (by decide) (by rw [HHD.out, if_pos z3]))
                          have u3 : (so != 1) = true := by simpa using z3
                          clear z3
                          have RR := hb_set2 (n := .int .i64 8) (d := .int .i64 i) R3.out
                          have FF := bw_far G3.out (Nat.le_succ _) (far2 _ (w.heap.size + 1) (.int .i64 8) (.int .i64 i))
                          obtain ⟨r0, r1, r2, r3⟩ := R3.out.two
                          have lr := R3.out.lt
                          obtain ⟨y0, y1, _, _⟩ := RR.two
                          go_wp2_with fail
                          refine bodyPost_ret (v := .tuple #[.slice none 0 0, .agg #[.int .i64 8, .int .i64 i]]) (by simp [results, Tryz.results17, go_sem, y0, y1]) rfl ⟨none, 0, by rw [HK.out.2.2, HK.out.1, HK.out.2.1]; rfl, by rw [HK.out.2.2]; exact isb_nil _ _ _, by rw [HK.out.2.2]; exact Nat.le_refl _, Nat.zero_le _, FF⟩
                  · obtain rfl : hl = i := by omega
                    have t8 : decide ((hl : Int) < hl) = false := by simp
                    have HK := Lib.hid (K4.out Z1.out Z2.out (fs_ok (code := hC qs ns hs) (lim := 200) (by omega) HP3.out))
                    clear hlti
                    have RR := hb_set2 (n := .int .i64 0) (d := .int .i64 0) R3.out
                    have F7 := far2 wr (w.heap.size + 1) (.int .i64 0) (.int .i64 0)
                    have FF := bw_far G3.out (Nat.le_succ _) F7
                    have O7 := Lib.hid (own_far HO.out (own_ne HO.out R3.out (by decide)) F7)
                    obtain ⟨r0, r1, r2, r3⟩ := R3.out.two
                    have lr := R3.out.lt
                    obtain ⟨y0, y1, _, _⟩ := RR.two
                    go_wp2_with fail
                    have his := own_isb O7.out (HSL.out nl)
                    refine bodyPost_ret (v := .tuple #[.slice Ak nl ck, .agg #[.int .i64 0, .int .i64 0]]) (by simp [results, Tryz.results17, go_sem, y0, y1]) rfl ⟨Ak, ck, by rw [HK.out.2.2, HSL.out, HK.out.1, HK.out.2.1], by rw [HK.out.2.2]; exact his.1, by rw [HK.out.2.2, HSL.out]; exact his.2, own_cap O7.out, FF⟩
end Go.Proofs.YtaodebpogibimaaGreat
