/-
  Asks: the sort of a node, as the reference tells it.
-/
import Derived.Test.YtaodebpogibimaaGreatG12
namespace Go.Proofs.YtaodebpogibimaaGreat
open Go.RowKit

theorem lt_here {s : ByteArray} {k : Nat} (h : k < s.size) (hc : ((s[k].toNat : Int) != 42) = true) : ltAt s k = (s[k].toNat : Int) := by
  unfold ltAt
  rw [bs_of h] at hc
  rw [if_pos ⟨h, by simpa using hc⟩, bs_of h]
theorem lt_star {s : ByteArray} {k : Nat} (h : k < s.size) (h0 : 0 < s.size) (hc : ((s[k].toNat : Int) != 42) = false) : ltAt s k = (s[0].toNat : Int) := by
  unfold ltAt
  rw [bs_of h] at hc
  rw [if_neg (fun z => z.2 (by simpa using hc)), bs_of h0]
theorem lt_past {s : ByteArray} {k : Nat} (h : ¬ k < s.size) (h0 : 0 < s.size) : ltAt s k = (s[0].toNat : Int) := by
  unfold ltAt
  rw [if_neg (fun z => h z.1), bs_of h0]
theorem fl_frac {op n d : Int} {e : Bool} (h : flC op n d e = 0) (ho : op = 10 ∨ op = 12) : 1 ≤ d := by
  unfold flC at h
  by_cases hf : isFr n d = true
  · unfold isFr at hf; simp at hf; exact hf.2.2.1
  · exfalso
    have hf' : isFr n d = false := by simpa using hf
    rw [hf'] at h
    rcases ho with rfl | rfl <;> (simp at h; try (split at h <;> omega))
theorem fl_add {op n d : Int} {e : Bool} (h : flC op n d e = 0) (ho : op = 11) : d = 0 := by
  subst ho
  unfold flC at h
  by_cases hd : d = 0
  · exact hd
  · exfalso
    simp [hd] at h
    try (split at h <;> first | omega | (split at h <;> omega))
theorem num_same (s : Int) (b : Bool) (h : sNu s = b) (w : World) (n : Nat) : Calls Tryz.prog 93 #[.int .i64 s] (w.drewN n) fun e w' => e = .returned (.bool b) ∧ w' = w.drewN n := by
  subst h
  exact (isnumber_any s _).mono fun _ _ h => ⟨h.1, h.2.symm⟩
theorem wb_same (s r : Int) (h : wBits s = r) (w : World) (n : Nat) : Calls Tryz.prog 56 #[.int .i64 s] (w.drewN n) fun e w' => e = .returned (.int .i64 r) ∧ w' = w.drewN n := by
  subst h
  exact (wordbits_any s _).mono fun _ _ h => ⟨h.1, h.2.symm⟩
theorem fits_same (c s : Int) (b : Bool) (h : ftC c s = b) (w : World) (n : Nat) : Calls Tryz.prog 92 #[.int .u8 c, .int .i64 s] (w.drewN n) fun e w' => e = .returned (.bool b) ∧ w' = w.drewN n := by
  subst h
  exact (fits_any c s _).mono fun _ _ h => ⟨h.1, h.2.symm⟩
set_option maxRecDepth 100000 in
set_option maxHeartbeats 16000000 in
theorem sortref_any (qs : List Dc) (q : Nd) (sorts : List Int) (Ad A' S : Option Addr) (dc c' sc : Nat) (v1 v2 v3 v4 _v5 _v6 : Nat) (Ax Ay : Option Addr) (hq : qs.length ≤ maxLen) (_hsm : sorts.length ≤ maxLen) (hkl8 : q.kids.length ≤ 8)
    (w : World) (hd : DsAt w Ad qs) (hx : Is w A' q.kids) (hs : Is w S sorts) (ho1 : 1 ≤ q.op) (ho2 : q.op ≤ 25) (ho9 : q.op = 9 → ¬ fdZ qs q.name < 0) (hki : kIn sorts.length q.kids = true) (hkn : q.op ≠ 9 → kcN q.op = -1 ∨ kcN q.op = q.kids.length)
    (hfl : flC q.op q.n q.d q.name.toList.isEmpty = 0) :
    Calls Tryz.prog 47 #[.agg #[.slice Ad qs.length dc, .slice Ax v1 v2, .slice Ay v3 v4], .agg #[.int .i64 q.op, .slice A' q.kids.length c', .int .i64 q.n, .int .i64 q.d, .string q.name], .slice S sorts.length sc] w fun e w' => e = .returned (.int .i64 (ndT qs q sorts)) ∧ Below w.heap.size w w' := by
  have HD := Lib.hid hd
  have HX := Lib.hid hx
  have HSO := Lib.hid hs
  have HKI := Lib.hid hki
  have HKN := Lib.hid hkn
  have HFL := Lib.hid hfl
  have HDEC := Lib.hid (fun (W : World) (n : Nat) (hW : DsAt W Ad qs) => declof_any qs Ad dc q.name hq (W.drewN n) hW)
  have HDA := Lib.hid (fun (W : World) (hW : DsAt W Ad qs) (z : fdI qs q.name < qs.length) => ds_at hW z)
  have HNT : Hid (ndT qs q sorts = srt q.op q.d (kDs qs q) (kSo sorts q.kids)) := Lib.hid rfl
  have HKD : Hid (kDs qs q = if q.op = 9 then (dn qs (fdI qs q.name)).sort else 0) := Lib.hid rfl
  have HLL := Lib.hid (kso_len sorts q.kids)
  unfold maxLen at hq _hsm
  clear hd hx hs hki hkn hfl
  generalize ndT qs q sorts = T at *
  generalize kDs qs q = ds at *
  generalize q.op = op at *
  generalize q.kids = ks at *
  generalize q.n = nv at *
  generalize q.d = dv at *
  generalize q.name = nm at *
  generalize hkl : ks.length = kl at *
  generalize hql : qs.length = ql at *
  generalize hsl : sorts.length = sl at *
  have HQL := Lib.hid hql
  have HKL := Lib.hid hkl
  have HSL := Lib.hid hsl
  clear hql hkl hsl
  have N26 : Hid (HB ((w.alloc (.cells #[.slice Ad ql dc, .slice Ax v1 v2, .slice Ay v3 v4] 26)).alloc (.cells #[.int .i64 op, .slice A' kl c', .int .i64 nv, .int .i64 dv, .string nm] 56)) w.heap.size 26 #[.slice Ad ql dc, .slice Ax v1 v2, .slice Ay v3 v4]) := Lib.hid ((HB.new _ _ _).alloc _)
  have N8 : Hid (HB ((w.alloc (.cells #[.slice Ad ql dc, .slice Ax v1 v2, .slice Ay v3 v4] 26)).alloc (.cells #[.int .i64 op, .slice A' kl c', .int .i64 nv, .int .i64 dv, .string nm] 56)) (w.heap.size + 1) 56 #[.int .i64 op, .slice A' kl c', .int .i64 nv, .int .i64 dv, .string nm]) := Lib.hid (HB.new1 _ _ _ _)
  have GX : Hid (Below w.heap.size w ((w.alloc (.cells #[.slice Ad ql dc, .slice Ax v1 v2, .slice Ay v3 v4] 26)).alloc (.cells #[.int .i64 op, .slice A' kl c', .int .i64 nv, .int .i64 dv, .string nm] 56))) := Lib.hid (by go_grown)
  go_enter Tryz.func47, Tryz.ntmps47
  go_wp2_with fail
  go_loopw [7, 8, 9] (fun v bo k wr => ∃ (j : Nat) (Ak : Option Addr) (ck : Nat), j ≤ kl ∧ k = .int .i64 j ∧ v = .slice Ak j ck ∧ bo = .bool ((kSo sorts (ks.take j)).all sIn) ∧ Hid (wr.ownsRow w.heap.size 3 1 (.slice Ak j ck) j (intV (kSo sorts (ks.take j)))) ∧ Hid (HB wr w.heap.size 26 #[.slice Ad ql dc, .slice Ax v1 v2, .slice Ay v3 v4]) ∧ Hid (HB wr (w.heap.size + 1) 56 #[.int .i64 op, .slice A' kl c', .int .i64 nv, .int .i64 dv, .string nm]) ∧ Hid (Below w.heap.size w wr)) (fun _ _ k _ => kl - (intOf k).toNat)
  case atStart => exact ⟨0, none, 0, by omega, rfl, rfl, by simp [kSo], Lib.hid (by simpa [intV, kSo] using own_nil _ w.heap.size 3 1), N26, N8, GX⟩
  case round =>
    obtain ⟨j, Ak, ck, hj, rfl, rfl, rfl, HO, H26, HN, HBW⟩ := hrel
    clear N26 N8 GX
    obtain ⟨x0, x1, x2, x3, x4⟩ := ag5 HN.out
    have lx := HN.out.lt
    by_cases hlt : j < kl
    · obtain ⟨bk, ok, rfl, hbk, z0⟩ := is_at (i := j) (HX.out.below HBW.out) (by rw [HKL.out]; exact hlt)
      have hin := kin_at HKI.out (by rw [HKL.out]; exact hlt : j < ks.length)
      obtain ⟨bq, oq, rfl, hbq, z1⟩ := is_at (i := (nth ks j).toNat) (HSO.out.below HBW.out) (by rw [HSL.out]; omega)
      have t3 : decide ((j : Int) < kl) = true := by simpa using hlt
      have HNX := Lib.hid (kso_take (sorts := sorts) (ks := ks) (j := j) (by rw [HKL.out]; exact hlt))
      have lwr := HBW.out.size
      have hlj : (kSo sorts (ks.take j)).length = j := by rw [kso_len, List.length_take, HKL.out]; omega
      have HLJ := Lib.hid hlj
      generalize nth sorts (nth ks j).toNat = so at *
      generalize nth ks j = z at *
      generalize hL2 : kSo sorts (ks.take (j + 1)) = L2 at *
      have HL2 := Lib.hid hL2
      generalize kSo sorts (ks.take j) = L1 at *
      clear hlj hL2
      cases hb : L1.all sIn with
      | true =>
        have HB0 := Lib.hid hb
        clear hb
        go_wp2_with (at_builtin; refine wpl_app 24 3 Tryz.underlying24 (.int .i64 0) 1 8 info3' rfl (by decide) rfl _ _ rfl w.heap.size (.slice Ak j ck) j (intV L1) rfl (own_alloc HO.out _) wr.heap.size #[.int .i64 so] rfl (HB.new _ _ _) rfl (by simp [Value.oneCell']) (by omega) (by unfold maxLen; omega) (by simp; omega) ?_)
        intro g4 cap4 w4 hown4 hkp4 hbw4
        have O4 : Hid (w4.ownsRow w.heap.size 3 1 (.slice (some ⟨g4, 0, none⟩) (j + 1) cap4) (j + 1) (intV L2)) := Lib.hid (by rw [HNX.out, intV_snoc]; exact hown4.out)
        have M4 := Lib.hid (hkp4 _ _ _ (own_ne HO.out HN.out (by decide)) (HN.out.alloc (.cells #[.int .i64 so] 3)))
        have M26 := Lib.hid (hkp4 _ _ _ (own_ne HO.out H26.out (by decide)) (H26.out.alloc (.cells #[.int .i64 so] 3)))
        have G4 : Hid (Below w.heap.size w w4) := Lib.hid (hbw4 w (Below.alloc HBW.out (by omega) _))
        clear hown4 hkp4 hbw4
        have his := own_isb O4.out (by rw [HNX.out]; simp [HLJ.out])
        obtain ⟨b5, o5, e5, _, y0⟩ := is_at (i := j) his.1.is (by rw [HNX.out]; simp [HLJ.out])
        injection e5 with e5
        injection e5 with e5 e6 _
        subst e5 e6
        rw [HNX.out, nth_app_eq HLJ.out.symm, Nat.zero_add] at y0
        have HAL : Hid (L2.all sIn = (so == 2)) := Lib.hid (by rw [HNX.out, List.all_append, HB0.out]; simp [sIn])
        clear his
        go_wp2_with fail
        go_round
        case rel => exact ⟨j + 1, some ⟨g4, 0, none⟩, cap4, by omega, by go_num, by simp, by rw [HL2.out, HAL.out], by rw [HL2.out]; exact O4, M26, M4, G4⟩
        case measure => simp [intOf]; omega
      | false =>
        have HB0 := Lib.hid hb
        clear hb
        go_wp2_with (at_builtin; refine wpl_app 24 3 Tryz.underlying24 (.int .i64 0) 1 8 info3' rfl (by decide) rfl _ _ rfl w.heap.size (.slice Ak j ck) j (intV L1) rfl (own_alloc HO.out _) wr.heap.size #[.int .i64 so] rfl (HB.new _ _ _) rfl (by simp [Value.oneCell']) (by omega) (by unfold maxLen; omega) (by simp; omega) ?_)
        intro g4 cap4 w4 hown4 hkp4 hbw4
        have O4 : Hid (w4.ownsRow w.heap.size 3 1 (.slice (some ⟨g4, 0, none⟩) (j + 1) cap4) (j + 1) (intV L2)) := Lib.hid (by rw [HNX.out, intV_snoc]; exact hown4.out)
        have M4 := Lib.hid (hkp4 _ _ _ (own_ne HO.out HN.out (by decide)) (HN.out.alloc (.cells #[.int .i64 so] 3)))
        have M26 := Lib.hid (hkp4 _ _ _ (own_ne HO.out H26.out (by decide)) (H26.out.alloc (.cells #[.int .i64 so] 3)))
        have G4 : Hid (Below w.heap.size w w4) := Lib.hid (hbw4 w (Below.alloc HBW.out (by omega) _))
        clear hown4 hkp4 hbw4
        have HAL : Hid (L2.all sIn = false) := Lib.hid (by rw [HNX.out, List.all_append, HB0.out]; simp)
        go_wp2_with fail
        go_round
        case rel => exact ⟨j + 1, some ⟨g4, 0, none⟩, cap4, by omega, by go_num, by simp, by rw [HL2.out, HAL.out], by rw [HL2.out]; exact O4, M26, M4, G4⟩
        case measure => simp [intOf]; omega
    · obtain rfl : j = kl := by omega
      have t3 : decide ((j : Int) < j) = false := by simp
      clear hlt hj
      rw [List.take_of_length_le (by rw [HKL.out]; exact Nat.le_refl _)] at HO
      rw [List.take_of_length_le (by rw [HKL.out]; exact Nat.le_refl _)]
      generalize hL : kSo sorts ks = L at *
      have his := own_isb HO.out HLL.out
      have HAK : Hid (Is wr Ak L) := Lib.hid his.1.is
      have hcc := his.2
      clear his
      clear HO HX HSO HKI HSL HKL
      by_cases h9 : op = 9
      · have t9 : (op == 9) = true := by simpa using h9
        rw [if_pos h9] at HKD
        have hf := ho9 h9
        have hlt : fdI qs nm < ql := by
          rw [← HQL.out]
          rcases Nat.lt_or_ge (fdI qs nm) qs.length with z | z
          · exact z
          · exfalso; unfold fdZ at hf; rw [if_neg (by omega)] at hf; omega
        have HZ : Hid (fdZ qs nm = (fdI qs nm : Int)) := Lib.hid (by unfold fdZ; rw [if_pos (by rw [HQL.out]; exact hlt)])
        have HDB := Lib.hid (fun W (h : DsAt W Ad qs) => HDA.out W h hlt)
        have HDQ := Lib.hid (fun (W : World) (n : Nat) (hW : DsAt W Ad qs) => ((HDEC.out W n hW).mono fun e w' ⟨h1, h2⟩ => ⟨by rw [h1, HZ.out], h2.symm⟩ : Calls Tryz.prog 44 #[.slice Ad ql dc, .string nm] (W.drewN n) fun e w' => e = .returned (.int .i64 (fdI qs nm : Nat)) ∧ w' = W.drewN n))
        have HNT2 : Hid (T = whn (L.all sTh) ds) := Lib.hid (by rw [HNT.out, h9]; simp [srt])
        have hk1 := HKD.out
        subst hk1
        clear HKD HDA HDEC HZ hf ho9 h9 HNT HKN HFL
        generalize fdI qs nm = f at *
        obtain ⟨bd, od, A2, c2', rfl, hbd, e0, e1, e2, _, hal, _⟩ := HDB.out _ (HD.out.below HBW.out)
        have HDR := Lib.hid (fun n => HDQ.out _ n (HD.out.below HBW.out))
        clear HDB HDQ
        generalize (dn qs f).args.length = al at *
        generalize (dn qs f).sort = ds at *
        generalize (dn qs f).name = nm2 at *
        obtain ⟨y0, y1, y2, _⟩ := H26.out.three
        go_wp2_with fail
        go_loopw [10] (fun k wx => ∃ m : Nat, m ≤ j ∧ k = .int .i64 m ∧ Hid (∀ p, p < m → sTh (nth L p) = true) ∧ Hid (wr = wx)) (fun k _ => j - (intOf k).toNat)
        case atStart => exact ⟨0, by omega, rfl, fun m hm => absurd hm (by omega), rfl⟩
        case round =>
          obtain ⟨m, hm, rfl, HP, HW⟩ := hrel
          have HW2 := HW.out
          subst HW2
          by_cases hlm : m < j
          · obtain ⟨bk, ok, rfl, hbk, z0⟩ := is_at (i := m) HAK.out (by rw [HLL.out]; exact hlm)
            have t4 : decide ((m : Int) < j) = true := by simpa using hlm
            cases d : sTh (nth L m) with
            | true =>
              have HDT := Lib.hid d
              have d2 : (nth L m != 4) = false := by unfold sTh at d; simpa using d
              clear d
              go_wp2_with fail
              go_round
              case rel => exact ⟨m + 1, by omega, by go_num, fun p hp => by
                rcases Nat.lt_or_ge p m with z | z
                · exact HP.out p z
                · obtain rfl : p = m := by omega
                  exact HDT.out, Lib.hid (by trivial)⟩
              case measure => simp [intOf]; omega
            | false =>
              have d2 : (nth L m != 4) = true := by unfold sTh at d; simpa using d
              have HE : Hid (T = 0) := Lib.hid (by rw [HNT2.out, not_all (by rw [HLL.out]; exact hlm) d]; rfl)
              clear d
              go_wp2_with fail
              go_ret
              rw [HE.out]
              exact ⟨rfl, HBW.out⟩
          · obtain rfl : m = j := by omega
            have t4 : decide ((m : Int) < m) = false := by simp
            have HE : Hid (T = ds) := Lib.hid (by rw [HNT2.out, all_of (fun p hp => HP.out p (by rw [HLL.out] at hp; exact hp))]; rfl)
            clear hlm
            go_wp2_with fail
            go_quiet ((go_at_call 44; exact Calls.quiet_of_same (HDR.out _)))
            go_wp2_with fail
            go_ret
            rw [HE.out]
            exact ⟨rfl, below_dn HBW.out _⟩
      · have t9 : (op == 9) = false := by simpa using h9
        have HWA := Lib.hid (fun W => wants_any op ho1 ho2 W)
        have _hsm := wt_small ho1 ho2
        have HO1 := Lib.hid ho1
        have HO2 := Lib.hid ho2
        have H9 := Lib.hid h9
        have HPOS : Hid (0 < j → 0 < (wtB op).size) := Lib.hid (fun z => by
          have a := HKN.out h9
          rcases wt_star ho1 ho2 h9 with ⟨u1, u2⟩ | ⟨u1, u2⟩
          · unfold stB at u1; simp at u1; omega
          · rw [u2] at a; omega)
        clear HKD HDA HDEC ho9 h9 H26 ho1 ho2 hq
        go_wp2_with fail
        refine (HWA.out _).mono ?_
        rintro e w1 ⟨rfl, hb1⟩
        have G1 : Hid (Below w.heap.size w w1) := bw_below (Nat.le_refl _) HBW.out hb1
        have N1 := Lib.hid (HN.out.below hb1)
        have A1 := Lib.hid (HAK.out.below hb1)
        clear hb1 x0 x1 x2 x3 x4 lx HWA HBW HN HAK
        generalize hwt : wtB op = s at *
        have HWT := Lib.hid hwt
        clear hwt
        go_wp2_with fail
        go_loopw [12, 13] (fun k _ wx => ∃ m : Nat, m ≤ j ∧ k = .int .i64 m ∧ Hid (∀ p, p < m → okK s L p = true) ∧ Hid (Is wx Ak L) ∧ Hid (HB wx (w.heap.size + 1) 56 #[.int .i64 op, .slice A' j c', .int .i64 nv, .int .i64 dv, .string nm]) ∧ Hid (Below w.heap.size w wx)) (fun k _ _ => j - (intOf k).toNat)
        case atStart => exact ⟨0, by omega, rfl, fun m hm => absurd hm (by omega), A1, N1, G1⟩
        case round =>
          obtain ⟨m, hm, rfl, HP, HAK, HN, HBW⟩ := hrel
          clear A1 N1 G1
          by_cases hlm : m < j
          · have hs0 : 0 < s.size := HPOS.out (by omega)
            obtain ⟨bk, ok, e5, hbk, z0⟩ := is_at (i := m) HAK.out (by rw [HLL.out]; exact hlm)
            subst e5
            obtain ⟨bk2, ok2, e5, _, zz⟩ := is_at (i := 0) HAK.out (by rw [HLL.out]; omega)
            injection e5 with e5
            injection e5 with e5 e6 _
            subst e5 e6
            rw [Nat.add_zero] at zz
            have t4 : decide ((m : Int) < j) = true := by simpa using hlm
            have lbx := HBW.out.size
            by_cases hms : m < s.size
            · have t5 : decide ((m : Int) < s.size) = true := by simpa using hms
              cases h42 : ((s[m].toNat : Int) != 42) with
              | true =>
                have HLT := Lib.hid (lt_here hms h42)
                have HCC : Hid (okK s L m = (ftC (s[m].toNat : Int) (nth L m) && !(((s[m].toNat : Int) == 119) && (nth L m != nth L 0)))) := Lib.hid (by unfold okK; rw [HLT.out])
                cases hft : ftC (s[m].toNat : Int) (nth L m) with
                | false =>
                  have HE : Hid (T = 0) := Lib.hid (by rw [HNT.out]; exact srt_bad HO1.out HO2.out H9.out (by rw [HLL.out]; exact HKN.out H9.out) (by rw [HLL.out]; exact hlm) (by rw [HWT.out, HCC.out, hft]; rfl))
                  have HFT := Lib.hid (fits_same _ _ false hft)
                  clear hft
                  go_wp2_with fail
                  go_quiet ((go_at_call 92; exact Calls.quiet_of_same (HFT.out _ _)))
                  go_wp2_with fail
                  go_ret
                  rw [HE.out]
                  exact ⟨rfl, below_dn HBW.out _⟩
                | true =>
                  have HFT := Lib.hid (fits_same _ _ true hft)
                  cases h119 : ((s[m].toNat : Int) == 119) with
                  | false =>
                    have HOK : Hid (okK s L m = true) := Lib.hid (by rw [HCC.out, hft, h119]; rfl)
                    clear hft
                    go_wp2_with fail
                    go_quiet ((go_at_call 92; exact Calls.quiet_of_same (HFT.out _ _)))
                    go_wp2_with fail
                    go_round
                    case rel => exact ⟨m + 1, by omega, by go_num, fun p hp => by
                      rcases Nat.lt_or_ge p m with z | z
                      · exact HP.out p z
                      · obtain rfl : p = m := by omega
                        exact HOK.out, Lib.hid (HAK.out.drewN _), Lib.hid (HN.out.drewN _), below_dn HBW.out _⟩
                    case measure => simp [intOf]; omega
                  | true =>
                    cases hne : (nth L m != nth L 0) with
                    | false =>
                      have HOK : Hid (okK s L m = true) := Lib.hid (by rw [HCC.out, hft, h119, hne]; rfl)
                      clear hft
                      go_wp2_with fail
                      go_quiet ((go_at_call 92; exact Calls.quiet_of_same (HFT.out _ _)))
                      go_wp2_with fail
                      go_round
                      case rel => exact ⟨m + 1, by omega, by go_num, fun p hp => by
                        rcases Nat.lt_or_ge p m with z | z
                        · exact HP.out p z
                        · obtain rfl : p = m := by omega
                          exact HOK.out, Lib.hid (HAK.out.drewN _), Lib.hid (HN.out.drewN _), below_dn HBW.out _⟩
                      case measure => simp [intOf]; omega
                    | true =>
                      have HE : Hid (T = 0) := Lib.hid (by rw [HNT.out]; exact srt_bad HO1.out HO2.out H9.out (by rw [HLL.out]; exact HKN.out H9.out) (by rw [HLL.out]; exact hlm) (by rw [HWT.out, HCC.out, hft, h119, hne]; rfl))
                      clear hft
                      go_wp2_with fail
                      go_quiet ((go_at_call 92; exact Calls.quiet_of_same (HFT.out _ _)))
                      go_wp2_with fail
                      go_ret
                      rw [HE.out]
                      exact ⟨rfl, below_dn HBW.out _⟩
              | false =>
                have HLT := Lib.hid (lt_star hms hs0 h42)
                have HCC : Hid (okK s L m = (ftC (s[0].toNat : Int) (nth L m) && !(((s[0].toNat : Int) == 119) && (nth L m != nth L 0)))) := Lib.hid (by unfold okK; rw [HLT.out])
                cases hft : ftC (s[0].toNat : Int) (nth L m) with
                | false =>
                  have HE : Hid (T = 0) := Lib.hid (by rw [HNT.out]; exact srt_bad HO1.out HO2.out H9.out (by rw [HLL.out]; exact HKN.out H9.out) (by rw [HLL.out]; exact hlm) (by rw [HWT.out, HCC.out, hft]; rfl))
                  have HFT := Lib.hid (fits_same _ _ false hft)
                  clear hft
                  go_wp2_with fail
                  go_quiet ((go_at_call 92; exact Calls.quiet_of_same (HFT.out _ _)))
                  go_wp2_with fail
                  go_ret
                  rw [HE.out]
                  exact ⟨rfl, below_dn HBW.out _⟩
                | true =>
                  have HFT := Lib.hid (fits_same _ _ true hft)
                  cases h119 : ((s[0].toNat : Int) == 119) with
                  | false =>
                    have HOK : Hid (okK s L m = true) := Lib.hid (by rw [HCC.out, hft, h119]; rfl)
                    clear hft
                    go_wp2_with fail
                    go_quiet ((go_at_call 92; exact Calls.quiet_of_same (HFT.out _ _)))
                    go_wp2_with fail
                    go_round
                    case rel => exact ⟨m + 1, by omega, by go_num, fun p hp => by
                      rcases Nat.lt_or_ge p m with z | z
                      · exact HP.out p z
                      · obtain rfl : p = m := by omega
                        exact HOK.out, Lib.hid (HAK.out.drewN _), Lib.hid (HN.out.drewN _), below_dn HBW.out _⟩
                    case measure => simp [intOf]; omega
                  | true =>
                    cases hne : (nth L m != nth L 0) with
                    | false =>
                      have HOK : Hid (okK s L m = true) := Lib.hid (by rw [HCC.out, hft, h119, hne]; rfl)
                      clear hft
                      go_wp2_with fail
                      go_quiet ((go_at_call 92; exact Calls.quiet_of_same (HFT.out _ _)))
                      go_wp2_with fail
                      go_round
                      case rel => exact ⟨m + 1, by omega, by go_num, fun p hp => by
                        rcases Nat.lt_or_ge p m with z | z
                        · exact HP.out p z
                        · obtain rfl : p = m := by omega
                          exact HOK.out, Lib.hid (HAK.out.drewN _), Lib.hid (HN.out.drewN _), below_dn HBW.out _⟩
                      case measure => simp [intOf]; omega
                    | true =>
                      have HE : Hid (T = 0) := Lib.hid (by rw [HNT.out]; exact srt_bad HO1.out HO2.out H9.out (by rw [HLL.out]; exact HKN.out H9.out) (by rw [HLL.out]; exact hlm) (by rw [HWT.out, HCC.out, hft, h119, hne]; rfl))
                      clear hft
                      go_wp2_with fail
                      go_quiet ((go_at_call 92; exact Calls.quiet_of_same (HFT.out _ _)))
                      go_wp2_with fail
                      go_ret
                      rw [HE.out]
                      exact ⟨rfl, below_dn HBW.out _⟩
            · have t5 : decide ((m : Int) < s.size) = false := by simpa using hms
              have HLT := Lib.hid (lt_past hms hs0)
              have HCC : Hid (okK s L m = (ftC (s[0].toNat : Int) (nth L m) && !(((s[0].toNat : Int) == 119) && (nth L m != nth L 0)))) := Lib.hid (by unfold okK; rw [HLT.out])
              cases hft : ftC (s[0].toNat : Int) (nth L m) with
              | false =>
                have HE : Hid (T = 0) := Lib.hid (by rw [HNT.out]; exact srt_bad HO1.out HO2.out H9.out (by rw [HLL.out]; exact HKN.out H9.out) (by rw [HLL.out]; exact hlm) (by rw [HWT.out, HCC.out, hft]; rfl))
                have HFT := Lib.hid (fits_same _ _ false hft)
                clear hft
                go_wp2_with fail
                go_quiet ((go_at_call 92; exact Calls.quiet_of_same (HFT.out _ _)))
                go_wp2_with fail
                go_ret
                rw [HE.out]
                exact ⟨rfl, below_dn HBW.out _⟩
              | true =>
                have HFT := Lib.hid (fits_same _ _ true hft)
                cases h119 : ((s[0].toNat : Int) == 119) with
                | false =>
                  have HOK : Hid (okK s L m = true) := Lib.hid (by rw [HCC.out, hft, h119]; rfl)
                  clear hft
                  go_wp2_with fail
                  go_quiet ((go_at_call 92; exact Calls.quiet_of_same (HFT.out _ _)))
                  go_wp2_with fail
                  go_round
                  case rel => exact ⟨m + 1, by omega, by go_num, fun p hp => by
                    rcases Nat.lt_or_ge p m with z | z
                    · exact HP.out p z
                    · obtain rfl : p = m := by omega
                      exact HOK.out, Lib.hid (HAK.out.drewN _), Lib.hid (HN.out.drewN _), below_dn HBW.out _⟩
                  case measure => simp [intOf]; omega
                | true =>
                  cases hne : (nth L m != nth L 0) with
                  | false =>
                    have HOK : Hid (okK s L m = true) := Lib.hid (by rw [HCC.out, hft, h119, hne]; rfl)
                    clear hft
                    go_wp2_with fail
                    go_quiet ((go_at_call 92; exact Calls.quiet_of_same (HFT.out _ _)))
                    go_wp2_with fail
                    go_round
                    case rel => exact ⟨m + 1, by omega, by go_num, fun p hp => by
                      rcases Nat.lt_or_ge p m with z | z
                      · exact HP.out p z
                      · obtain rfl : p = m := by omega
                        exact HOK.out, Lib.hid (HAK.out.drewN _), Lib.hid (HN.out.drewN _), below_dn HBW.out _⟩
                    case measure => simp [intOf]; omega
                  | true =>
                    have HE : Hid (T = 0) := Lib.hid (by rw [HNT.out]; exact srt_bad HO1.out HO2.out H9.out (by rw [HLL.out]; exact HKN.out H9.out) (by rw [HLL.out]; exact hlm) (by rw [HWT.out, HCC.out, hft, h119, hne]; rfl))
                    clear hft
                    go_wp2_with fail
                    go_quiet ((go_at_call 92; exact Calls.quiet_of_same (HFT.out _ _)))
                    go_wp2_with fail
                    go_ret
                    rw [HE.out]
                    exact ⟨rfl, below_dn HBW.out _⟩
          · obtain rfl : m = j := by omega
            have t4 : decide ((m : Int) < m) = false := by simp
            have HG : Hid (T = refT op dv L) := Lib.hid (by
              rw [HNT.out]
              exact srt_good HO1.out HO2.out H9.out (by rw [HLL.out]; exact HKN.out H9.out) (fun z => fl_frac HFL.out z) (fun z => fl_add HFL.out z) (fun p hp => by rw [HWT.out]; exact HP.out p (by rw [HLL.out] at hp; exact hp)))
            have HDL := Lib.hid (fun z => fl_word HFL.out z)
            obtain ⟨x0, x1, x2, x3, x4⟩ := ag5 HN.out
            have lx := HN.out.lt
            have HKM := Lib.hid (HKN.out H9.out)
            have HOC := Lib.hid (op_cases HO1.out HO2.out)
            clear hlm HP HNT HKN HWT HPOS HFL hL _hsm
            rcases HOC.out with rfl | rfl | rfl | rfl | rfl | rfl | rfl | rfl | rfl | rfl | rfl | rfl | rfl | rfl | rfl | rfl | rfl | rfl | rfl | rfl | rfl | rfl | rfl | rfl | rfl
            · go_wp2_with fail
              go_ret
              exact ⟨by rw [HG.out]; simp [refT], HBW.out⟩
            · go_wp2_with fail
              go_ret
              exact ⟨by rw [HG.out]; simp [refT], HBW.out⟩
            · go_wp2_with fail
              go_ret
              exact ⟨by rw [HG.out]; simp [refT], HBW.out⟩
            · go_wp2_with fail
              go_ret
              exact ⟨by rw [HG.out]; simp [refT], HBW.out⟩
            · go_wp2_with fail
              go_ret
              exact ⟨by rw [HG.out]; simp [refT], HBW.out⟩
            · go_wp2_with fail
              go_ret
              exact ⟨by rw [HG.out]; simp [refT], HBW.out⟩
            · obtain rfl : m = 3 := by
                have := HKM.out
                rw [show kcN 7 = 3 by decide] at this
                omega
              obtain ⟨bk, ok, e5, hbk, z0⟩ := is_at (i := 0) HAK.out (by rw [HLL.out]; omega)
              subst e5
              rw [Nat.add_zero] at z0
              obtain ⟨b2, o2, e5, _, z1⟩ := is_at (i := 1) HAK.out (by rw [HLL.out]; omega)
              injection e5 with e5
              injection e5 with e5 e6 _
              subst e5 e6
              obtain ⟨b2, o2, e5, _, z2⟩ := is_at (i := 2) HAK.out (by rw [HLL.out]; omega)
              injection e5 with e5
              injection e5 with e5 e6 _
              subst e5 e6
              cases q1 : (nth L 1 != nth L 2) with
              | true =>
                have HE : Hid (T = 0) := Lib.hid (by rw [HG.out]; exact r7a q1)
                go_wp2_with fail
                go_quiet (fail)
                go_wp2_with fail
                go_ret
                rw [HE.out]
                exact ⟨rfl, below_dn HBW.out _⟩
              | false =>
                cases q2 : (nth L 1 == 5) with
                | true =>
                  have HE : Hid (T = 0) := Lib.hid (by rw [HG.out]; exact r7b q2)
                  go_wp2_with fail
                  go_quiet (fail)
                  go_wp2_with fail
                  go_ret
                  rw [HE.out]
                  exact ⟨rfl, below_dn HBW.out _⟩
                | false =>
                  have HE : Hid (T = nth L 1) := Lib.hid (by rw [HG.out]; exact r7c q1 q2)
                  go_wp2_with fail
                  go_quiet (fail)
                  go_wp2_with fail
                  go_ret
                  rw [HE.out]
                  exact ⟨rfl, below_dn HBW.out _⟩
            · obtain rfl : m = 2 := by
                have := HKM.out
                rw [show kcN 8 = 2 by decide] at this
                omega
              obtain ⟨bk, ok, e5, hbk, z0⟩ := is_at (i := 0) HAK.out (by rw [HLL.out]; omega)
              subst e5
              rw [Nat.add_zero] at z0
              obtain ⟨b2, o2, e5, _, z1⟩ := is_at (i := 1) HAK.out (by rw [HLL.out]; omega)
              injection e5 with e5
              injection e5 with e5 e6 _
              subst e5 e6
              cases q1 : sNu (nth L 0) with
              | false =>
                have Q1 := Lib.hid (num_same _ _ q1)
                cases q3 : (nth L 0 != nth L 1) with
                | true =>
                  have HE : Hid (T = 0) := Lib.hid (by rw [HG.out]; exact r8a (by rw [q1]; rfl) q3)
                  go_wp2_with fail
                  go_quiet ((first | (go_at_call 93; exact Calls.quiet_of_same (Q1.out _ _))))
                  go_wp2_with fail
                  go_ret
                  rw [HE.out]
                  exact ⟨rfl, below_dn HBW.out _⟩
                | false =>
                  cases q4 : (nth L 0 != 4) with
                  | false =>
                    have HE : Hid (T = 1) := Lib.hid (by rw [HG.out]; exact r8b q3 q4)
                    go_wp2_with fail
                    go_quiet ((first | (go_at_call 93; exact Calls.quiet_of_same (Q1.out _ _))))
                    go_wp2_with fail
                    go_ret
                    rw [HE.out]
                    exact ⟨rfl, below_dn HBW.out _⟩
                  | true =>
                    by_cases q5 : wBits (nth L 0) = 0
                    · have Q5 := Lib.hid (wb_same _ _ q5)
                      have HE : Hid (T = 0) := Lib.hid (by rw [HG.out]; exact r8c (by rw [q1]; rfl) q4 q5)
                      go_wp2_with fail
                      go_quiet ((first | (go_at_call 93; exact Calls.quiet_of_same (Q1.out _ _)) | (go_at_call 56; exact Calls.quiet_of_same (Q5.out _ _))))
                      go_wp2_with fail
                      go_ret
                      rw [HE.out]
                      exact ⟨rfl, below_dn HBW.out _⟩
                    · have Q5 := Lib.hid (wb_same (nth L 0) (wBits (nth L 0)) rfl)
                      have q6 : (wBits (nth L 0) == 0) = false := by simpa using q5
                      have HE : Hid (T = 1) := Lib.hid (by rw [HG.out]; exact r8d q3 q5)
                      go_wp2_with fail
                      go_quiet ((first | (go_at_call 93; exact Calls.quiet_of_same (Q1.out _ _)) | (go_at_call 56; exact Calls.quiet_of_same (Q5.out _ _))))
                      go_wp2_with fail
                      go_ret
                      rw [HE.out]
                      exact ⟨rfl, below_dn HBW.out _⟩
              | true =>
                have Q1 := Lib.hid (num_same _ _ q1)
                cases q2 : sNu (nth L 1) with
                | true =>
                  have Q2 := Lib.hid (num_same _ _ q2)
                  have HE : Hid (T = 1) := Lib.hid (by rw [HG.out]; exact r8e (by rw [q1, q2]; rfl))
                  go_wp2_with fail
                  go_quiet ((first | (go_at_call 93; exact Calls.quiet_of_same (Q1.out _ _)) | (go_at_call 93; exact Calls.quiet_of_same (Q2.out _ _))))
                  go_wp2_with fail
                  go_ret
                  rw [HE.out]
                  exact ⟨rfl, below_dn HBW.out _⟩
                | false =>
                  have Q2 := Lib.hid (num_same _ _ q2)
                  cases q3 : (nth L 0 != nth L 1) with
                  | true =>
                    have HE : Hid (T = 0) := Lib.hid (by rw [HG.out]; exact r8a (by rw [q1, q2]; rfl) q3)
                    go_wp2_with fail
                    go_quiet ((first | (go_at_call 93; exact Calls.quiet_of_same (Q1.out _ _)) | (go_at_call 93; exact Calls.quiet_of_same (Q2.out _ _))))
                    go_wp2_with fail
                    go_ret
                    rw [HE.out]
                    exact ⟨rfl, below_dn HBW.out _⟩
                  | false =>
                    cases q4 : (nth L 0 != 4) with
                    | false =>
                      have HE : Hid (T = 1) := Lib.hid (by rw [HG.out]; exact r8b q3 q4)
                      go_wp2_with fail
                      go_quiet ((first | (go_at_call 93; exact Calls.quiet_of_same (Q1.out _ _)) | (go_at_call 93; exact Calls.quiet_of_same (Q2.out _ _))))
                      go_wp2_with fail
                      go_ret
                      rw [HE.out]
                      exact ⟨rfl, below_dn HBW.out _⟩
                    | true =>
                      by_cases q5 : wBits (nth L 0) = 0
                      · have Q5 := Lib.hid (wb_same _ _ q5)
                        have HE : Hid (T = 0) := Lib.hid (by rw [HG.out]; exact r8c (by rw [q1, q2]; rfl) q4 q5)
                        go_wp2_with fail
                        go_quiet ((first | (go_at_call 93; exact Calls.quiet_of_same (Q1.out _ _)) | (go_at_call 93; exact Calls.quiet_of_same (Q2.out _ _)) | (go_at_call 56; exact Calls.quiet_of_same (Q5.out _ _))))
                        go_wp2_with fail
                        go_ret
                        rw [HE.out]
                        exact ⟨rfl, below_dn HBW.out _⟩
                      · have Q5 := Lib.hid (wb_same (nth L 0) (wBits (nth L 0)) rfl)
                        have q6 : (wBits (nth L 0) == 0) = false := by simpa using q5
                        have HE : Hid (T = 1) := Lib.hid (by rw [HG.out]; exact r8d q3 q5)
                        go_wp2_with fail
                        go_quiet ((first | (go_at_call 93; exact Calls.quiet_of_same (Q1.out _ _)) | (go_at_call 93; exact Calls.quiet_of_same (Q2.out _ _)) | (go_at_call 56; exact Calls.quiet_of_same (Q5.out _ _))))
                        go_wp2_with fail
                        go_ret
                        rw [HE.out]
                        exact ⟨rfl, below_dn HBW.out _⟩
            · exact absurd rfl H9.out
            · cases hb : L.all sIn with
              | false =>
                have HE : Hid (T = 3) := Lib.hid (by rw [HG.out]; exact rA (by decide) (.inl hb))
                go_wp2_with fail
                go_ret
                rw [HE.out]
                exact ⟨rfl, HBW.out⟩
              | true =>
                by_cases hdd : dv ≤ 1
                · have dd : decide (dv ≤ 1) = true := by simpa using hdd
                  have HE : Hid (T = 2) := Lib.hid (by rw [HG.out]; exact rB (by decide) hb hdd)
                  go_wp2_with fail
                  go_ret
                  rw [HE.out]
                  exact ⟨rfl, HBW.out⟩
                · have dd : decide (dv ≤ 1) = false := by simpa using hdd
                  have HE : Hid (T = 3) := Lib.hid (by rw [HG.out]; exact rA (by decide) (.inr hdd))
                  go_wp2_with fail
                  go_ret
                  rw [HE.out]
                  exact ⟨rfl, HBW.out⟩
            · cases hb : L.all sIn with
              | false =>
                have HE : Hid (T = 3) := Lib.hid (by rw [HG.out]; exact rA (by decide) (.inl hb))
                go_wp2_with fail
                go_ret
                rw [HE.out]
                exact ⟨rfl, HBW.out⟩
              | true =>
                by_cases hdd : dv ≤ 1
                · have dd : decide (dv ≤ 1) = true := by simpa using hdd
                  have HE : Hid (T = 2) := Lib.hid (by rw [HG.out]; exact rB (by decide) hb hdd)
                  go_wp2_with fail
                  go_ret
                  rw [HE.out]
                  exact ⟨rfl, HBW.out⟩
                · have dd : decide (dv ≤ 1) = false := by simpa using hdd
                  have HE : Hid (T = 3) := Lib.hid (by rw [HG.out]; exact rA (by decide) (.inr hdd))
                  go_wp2_with fail
                  go_ret
                  rw [HE.out]
                  exact ⟨rfl, HBW.out⟩
            · cases hb : L.all sIn with
              | false =>
                have HE : Hid (T = 3) := Lib.hid (by rw [HG.out]; exact rA (by decide) (.inl hb))
                go_wp2_with fail
                go_ret
                rw [HE.out]
                exact ⟨rfl, HBW.out⟩
              | true =>
                by_cases hdd : dv ≤ 1
                · have dd : decide (dv ≤ 1) = true := by simpa using hdd
                  have HE : Hid (T = 2) := Lib.hid (by rw [HG.out]; exact rB (by decide) hb hdd)
                  go_wp2_with fail
                  go_ret
                  rw [HE.out]
                  exact ⟨rfl, HBW.out⟩
                · have dd : decide (dv ≤ 1) = false := by simpa using hdd
                  have HE : Hid (T = 3) := Lib.hid (by rw [HG.out]; exact rA (by decide) (.inr hdd))
                  go_wp2_with fail
                  go_ret
                  rw [HE.out]
                  exact ⟨rfl, HBW.out⟩
            · go_wp2_with fail
              go_ret
              exact ⟨by rw [HG.out]; simp [refT], HBW.out⟩
            · go_wp2_with fail
              go_ret
              exact ⟨by rw [HG.out]; simp [refT], HBW.out⟩
            · have hdl := HDL.out rfl
              go_wp2_with fail
              go_ret
              exact ⟨by rw [HG.out]; simp [refT], HBW.out⟩
            · obtain rfl : m = 1 := by
                have := HKM.out
                rw [show kcN 16 = 1 by decide] at this
                omega
              obtain ⟨bk, ok, e5, hbk, z0⟩ := is_at (i := 0) HAK.out (by rw [HLL.out]; omega)
              subst e5
              rw [Nat.add_zero] at z0
              go_wp2_with fail
              go_ret
              exact ⟨by rw [HG.out]; simp [refT], HBW.out⟩
            · obtain rfl : m = 2 := by
                have := HKM.out
                rw [show kcN 17 = 2 by decide] at this
                omega
              obtain ⟨bk, ok, e5, hbk, z0⟩ := is_at (i := 0) HAK.out (by rw [HLL.out]; omega)
              subst e5
              rw [Nat.add_zero] at z0
              go_wp2_with fail
              go_ret
              exact ⟨by rw [HG.out]; simp [refT], HBW.out⟩
            · obtain rfl : m = 2 := by
                have := HKM.out
                rw [show kcN 18 = 2 by decide] at this
                omega
              obtain ⟨bk, ok, e5, hbk, z0⟩ := is_at (i := 0) HAK.out (by rw [HLL.out]; omega)
              subst e5
              rw [Nat.add_zero] at z0
              go_wp2_with fail
              go_ret
              exact ⟨by rw [HG.out]; simp [refT], HBW.out⟩
            · obtain rfl : m = 2 := by
                have := HKM.out
                rw [show kcN 19 = 2 by decide] at this
                omega
              obtain ⟨bk, ok, e5, hbk, z0⟩ := is_at (i := 0) HAK.out (by rw [HLL.out]; omega)
              subst e5
              rw [Nat.add_zero] at z0
              go_wp2_with fail
              go_ret
              exact ⟨by rw [HG.out]; simp [refT], HBW.out⟩
            · obtain rfl : m = 2 := by
                have := HKM.out
                rw [show kcN 20 = 2 by decide] at this
                omega
              obtain ⟨bk, ok, e5, hbk, z0⟩ := is_at (i := 0) HAK.out (by rw [HLL.out]; omega)
              subst e5
              rw [Nat.add_zero] at z0
              go_wp2_with fail
              go_ret
              exact ⟨by rw [HG.out]; simp [refT], HBW.out⟩
            · obtain rfl : m = 2 := by
                have := HKM.out
                rw [show kcN 21 = 2 by decide] at this
                omega
              obtain ⟨bk, ok, e5, hbk, z0⟩ := is_at (i := 0) HAK.out (by rw [HLL.out]; omega)
              subst e5
              rw [Nat.add_zero] at z0
              go_wp2_with fail
              go_ret
              exact ⟨by rw [HG.out]; simp [refT], HBW.out⟩
            · go_wp2_with fail
              go_ret
              exact ⟨by rw [HG.out]; simp [refT], HBW.out⟩
            · obtain rfl : m = 1 := by
                have := HKM.out
                rw [show kcN 23 = 1 by decide] at this
                omega
              obtain ⟨bk, ok, e5, hbk, z0⟩ := is_at (i := 0) HAK.out (by rw [HLL.out]; omega)
              subst e5
              rw [Nat.add_zero] at z0
              go_wp2_with fail
              go_ret
              exact ⟨by rw [HG.out]; simp [refT], HBW.out⟩
            · go_wp2_with fail
              go_ret
              exact ⟨by rw [HG.out]; simp [refT], HBW.out⟩
            · go_wp2_with fail
              go_ret
              exact ⟨by rw [HG.out]; simp [refT], HBW.out⟩
end Go.Proofs.YtaodebpogibimaaGreat
