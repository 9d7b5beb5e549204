/-
  Asks: the sort of a node, or what is wrong with it, as the program tells it.
-/
import Derived.Test.YtaodebpogibimaaGreatG05
import Derived.Test.YtaodebpogibimaaGreatG06
namespace Go.Proofs.YtaodebpogibimaaGreat
open Go.RowKit

/-- How many kids a node wants, what it is declared to be, its kids' sorts. -/
def kWant (qs : List Dc) (q : Nd) : Int := if q.op = 9 then ((dn qs (fdI qs q.name)).args.length : Int) else kcN q.op
def kDs (qs : List Dc) (q : Nd) : Int := if q.op = 9 then (dn qs (fdI qs q.name)).sort else 0
def kSo (sorts : List Int) (ks : List Int) : List Int := ks.map fun z => nth sorts z.toNat
def kIn (i : Nat) (ks : List Int) : Bool := ks.all fun z => decide (0 ≤ z) && decide (z < i)
def ndT (qs : List Dc) (q : Nd) (sorts : List Int) : Int := srt q.op q.d (kDs qs q) (kSo sorts q.kids)
/-- What is wrong with a node. -/
def ndC (qs : List Dc) (q : Nd) (i : Nat) (sorts : List Int) : Int :=
  if q.op < 1 ∨ 25 < q.op then 4 else if q.op = 9 ∧ fdZ qs q.name < 0 then 6 else
  if 8 < q.kids.length ∨ (kWant qs q ≠ -1 ∧ (q.kids.length : Int) ≠ kWant qs q) then 9 else if kIn i q.kids = false then 3 else
  if flC q.op q.n q.d q.name.toList.isEmpty ≠ 0 then flC q.op q.n q.d q.name.toList.isEmpty else if ndT qs q sorts = 0 then 8 else 0
/-- Its sort; 0: something is wrong. -/
def ndS (qs : List Dc) (q : Nd) (i : Nat) (sorts : List Int) : Int := if ndC qs q i sorts = 0 then ndT qs q sorts else 0
theorem ret2 {a b c d : Int} (h1 : a = c) (h2 : b = d) : Ending.returned (.tuple #[.int .i64 a, .int .i64 b]) = Ending.returned (.tuple #[.int .i64 c, .int .i64 d]) := by rw [h1, h2]
theorem fl_word {op n d : Int} {e : Bool} (h : flC op n d e = 0) (ho : op = 15) : 1 ≤ d ∧ d ≤ 8 ∧ 0 ≤ n ∧ n < 2 ^ d.toNat := by
  subst ho
  unfold flC at h
  by_cases z : 1 ≤ d ∧ d ≤ 8 ∧ 0 ≤ n ∧ n < 2 ^ d.toNat
  · exact z
  · exfalso
    simp only [z] at h
    simp at h
    split at h <;> omega
theorem kso_take {sorts ks : List Int} {j : Nat} (hj : j < ks.length) : kSo sorts (ks.take (j + 1)) = kSo sorts (ks.take j) ++ [nth sorts (nth ks j).toNat] := by
  unfold kSo
  rw [List.take_add_one, List.getElem?_eq_getElem hj, nth_of hj, List.map_append]
  rfl
theorem kso_len (sorts ks : List Int) : (kSo sorts ks).length = ks.length := by unfold kSo; simp
theorem kin_at {i : Nat} {ks : List Int} {j : Nat} (h : kIn i ks = true) (hj : j < ks.length) : 0 ≤ nth ks j ∧ nth ks j < i := by
  unfold kIn at h
  rw [List.all_eq_true] at h
  have := h _ (List.getElem_mem hj)
  rw [nth_of hj]
  simpa using this
theorem own_cap {w : World} {base n c : Nat} {e : TypeId} {A : Option Addr} {xs : List Value} (h : w.ownsRow base e 1 (.slice A n c) n xs) : c ≤ maxLen := by
  rcases h.2 with ⟨h0, _⟩ | ⟨g, cap, cur, h0, _, _, _, hm, _⟩
  · injection h0 with _ _ h2; subst h2; exact Nat.zero_le _
  · injection h0 with _ _ h2; subst h2; exact hm
theorem info3' : (Tryz.prog.info? 3).map (fun i => (i.zero, i.size, i.bytes)) = some (some (.int .i64 0), 1, 8) := by kernel_rfl
set_option maxHeartbeats 8000000 in
theorem nodesort_any (qs : List Dc) (ns : List Nd) (sorts : List Int) (Ad An Ah S : Option Addr) (dc nc hL hc sc i : Nat) (hq : qs.length ≤ maxLen) (hi : i < ns.length) (_hnl : ns.length ≤ maxLen) (hsl : sorts.length = i) (_hsc : i ≤ sc) (_hsm : sc ≤ maxLen) (_hi2 : i ≤ 1000000)
    (w : World) (hd : DsAt w Ad qs) (hn : NsAt w An ns) (hs : Is w S sorts) :
    Calls Tryz.prog 29 #[.agg #[.slice Ad qs.length dc, .slice An ns.length nc, .slice Ah hL hc], .slice S sorts.length sc, .int .i64 i] w fun e w' => e = .returned (.tuple #[.int .i64 (ndS qs (nn ns i) i sorts), .int .i64 (ndC qs (nn ns i) i sorts)]) ∧ Below w.heap.size w w' := by
  obtain ⟨bn, on, A', c', rfl, hb, c0, c1, c2, c3, c4, hns, ha, hx⟩ := ns_at hn hi
  have HS := Lib.hid hns
  have HD := Lib.hid hd
  have HSO := Lib.hid hs
  have HX := Lib.hid hx
  have HQ := Lib.hid hq
  have HDEC := Lib.hid (fun (W : World) (hW : DsAt W Ad qs) => declared_any qs Ad dc (nn ns i).name hq W hW)
  have HDA := Lib.hid (fun (W : World) (hW : DsAt W Ad qs) (z : fdI qs (nn ns i).name < qs.length) => ds_at hW z)
  unfold maxLen at ha _hnl hq _hsm
  rw [hsl]
  have HSL := Lib.hid hsl
  have HE := Lib.hid (show ∀ c s : Int, ndC qs (nn ns i) i sorts = c → ndS qs (nn ns i) i sorts = s → ∀ (e : Ending), e = .returned (.tuple #[.int .i64 s, .int .i64 c]) → e = .returned (.tuple #[.int .i64 (ndS qs (nn ns i) i sorts), .int .i64 (ndC qs (nn ns i) i sorts)]) from fun c s h1 h2 e h => by rw [h1, h2]; exact h)
  have HC : Hid (∀ c : Int, c ≠ 0 → ndC qs (nn ns i) i sorts = c → ∀ (e : Ending), e = .returned (.tuple #[.int .i64 0, .int .i64 c]) → e = .returned (.tuple #[.int .i64 (ndS qs (nn ns i) i sorts), .int .i64 (ndC qs (nn ns i) i sorts)])) := Lib.hid (fun c h0 h1 e h => by
    rw [h1, show ndS qs (nn ns i) i sorts = 0 by unfold ndS; rw [h1, if_neg h0]]; exact h)
  have HND : Hid (ndC qs (nn ns i) i sorts = if (nn ns i).op < 1 ∨ 25 < (nn ns i).op then 4 else if (nn ns i).op = 9 ∧ fdZ qs (nn ns i).name < 0 then 6 else
    if 8 < (nn ns i).kids.length ∨ (kWant qs (nn ns i) ≠ -1 ∧ ((nn ns i).kids.length : Int) ≠ kWant qs (nn ns i)) then 9 else if kIn i (nn ns i).kids = false then 3 else
    if flC (nn ns i).op (nn ns i).n (nn ns i).d (nn ns i).name.toList.isEmpty ≠ 0 then flC (nn ns i).op (nn ns i).n (nn ns i).d (nn ns i).name.toList.isEmpty else if ndT qs (nn ns i) sorts = 0 then 8 else 0) := Lib.hid rfl
  have HNS : Hid (ndC qs (nn ns i) i sorts = 0 → ndS qs (nn ns i) i sorts = ndT qs (nn ns i) sorts) := Lib.hid (fun h => by unfold ndS; rw [if_pos h])
  have HNT : Hid (ndT qs (nn ns i) sorts = srt (nn ns i).op (nn ns i).d (kDs qs (nn ns i)) (kSo sorts (nn ns i).kids)) := Lib.hid rfl
  have HKW : Hid (kWant qs (nn ns i) = if (nn ns i).op = 9 then ((dn qs (fdI qs (nn ns i).name)).args.length : Int) else kcN (nn ns i).op) := Lib.hid rfl
  have HKD : Hid (kDs qs (nn ns i) = if (nn ns i).op = 9 then (dn qs (fdI qs (nn ns i).name)).sort else 0) := Lib.hid rfl
  clear hn hd hs hx hns hsl
  generalize hkc : ndC qs (nn ns i) i sorts = C at *
  generalize hks : ndS qs (nn ns i) i sorts = R at *
  generalize hkt : ndT qs (nn ns i) sorts = T at *
  clear hkc hks hkt
  generalize hkw : kWant qs (nn ns i) = kw at *
  generalize hkd : kDs qs (nn ns i) = ds at *
  clear hkw hkd
  generalize hop : (nn ns i).op = op at *
  generalize hkk : (nn ns i).kids = ks at *
  generalize hnn : (nn ns i).n = nv at *
  generalize hdd : (nn ns i).d = dv at *
  generalize hnm : (nn ns i).name = nm at *
  clear hop hkk hnn hdd hnm
  generalize hkl : ks.length = kl at *
  generalize ns.length = nl at *
  generalize hql : qs.length = ql at *
  have HQL := Lib.hid hql
  have HKL := Lib.hid hkl
  clear hql hkl
  have N26 : Hid (HB (((w.alloc (.cells #[.slice Ad ql dc, .slice (some ⟨bn, on, none⟩) nl nc, .slice Ah hL hc] 26)).alloc (.cells #[.int .i64 i] 3)).alloc (.cells #[.int .i64 op, .slice A' kl c', .int .i64 nv, .int .i64 dv, .string nm] 56)) w.heap.size 26 #[.slice Ad ql dc, .slice (some ⟨bn, on, none⟩) nl nc, .slice Ah hL hc]) := Lib.hid (((HB.new _ _ _).alloc _).alloc _)
  have N3 : Hid (HB (((w.alloc (.cells #[.slice Ad ql dc, .slice (some ⟨bn, on, none⟩) nl nc, .slice Ah hL hc] 26)).alloc (.cells #[.int .i64 i] 3)).alloc (.cells #[.int .i64 op, .slice A' kl c', .int .i64 nv, .int .i64 dv, .string nm] 56)) (w.heap.size + 1) 3 #[.int .i64 i]) := Lib.hid ((HB.new1 _ _ _ _).alloc _)
  have N8 : Hid (HB (((w.alloc (.cells #[.slice Ad ql dc, .slice (some ⟨bn, on, none⟩) nl nc, .slice Ah hL hc] 26)).alloc (.cells #[.int .i64 i] 3)).alloc (.cells #[.int .i64 op, .slice A' kl c', .int .i64 nv, .int .i64 dv, .string nm] 56)) (w.heap.size + 1 + 1) 56 #[.int .i64 op, .slice A' kl c', .int .i64 nv, .int .i64 dv, .string nm]) := Lib.hid (HB.new2 _ _ _ _ _)
  have GX : Hid (Below w.heap.size w (((w.alloc (.cells #[.slice Ad ql dc, .slice (some ⟨bn, on, none⟩) nl nc, .slice Ah hL hc] 26)).alloc (.cells #[.int .i64 i] 3)).alloc (.cells #[.int .i64 op, .slice A' kl c', .int .i64 nv, .int .i64 dv, .string nm] 56))) := Lib.hid (by go_grown)
  by_cases h1 : op < 1
  · rw [if_pos (.inl h1)] at HND
    have d1 : decide (op < 1) = true := by simpa using h1
    clear h1 N26 N3 N8
    go_enter Tryz.func29, Tryz.ntmps29
    go_wp2_with fail
    go_ret2
    exact ⟨HC.out 4 (by decide) HND.out _ rfl, GX.out⟩
  · have d1 : decide (op < 1) = false := by simpa using h1
    by_cases h2 : 25 < op
    · rw [if_pos (.inr h2)] at HND
      have d2 : decide (25 < op) = true := by simpa using h2
      clear h1 h2 N26 N3 N8
      go_enter Tryz.func29, Tryz.ntmps29
      go_wp2_with fail
      go_ret2
      exact ⟨HC.out 4 (by decide) HND.out _ rfl, GX.out⟩
    · have d2 : decide (25 < op) = false := by simpa using h2
      rw [if_neg (by omega)] at HND
      have HKC := Lib.hid (fun W => kidcount_any op (by omega) (by omega) W)
      have HO1 := Lib.hid h1
      have HO2 := Lib.hid h2
      clear h1 h2
      by_cases h9 : op = 9
      · have t9 : (op == 9) = true := by simpa using h9
        have H9 := Lib.hid h9
        rw [if_pos h9] at HKW HKD
        have HD1 := Lib.hid (HDEC.out _ (HD.out.below GX.out))
        by_cases hf : fdZ qs nm < 0
        · rw [if_pos ⟨h9, hf⟩] at HND
          have t6 : decide (fdZ qs nm < 0) = true := by simpa using hf
          clear h9 hf
          go_enter Tryz.func29, Tryz.ntmps29
          go_wp2_with fail
          refine (HKC.out _).mono ?_
          rintro e w1 ⟨rfl, rfl⟩
          go_wp2_with fail
          refine HD1.out.mono ?_
          rintro e w1 ⟨rfl, hb1⟩
          have G1 : Hid (Below w.heap.size w w1) := bw_below (Nat.le_refl _) GX.out hb1
          clear hb1
          go_wp2_with fail
          go_ret2
          exact ⟨HC.out 6 (by decide) HND.out _ rfl, G1.out⟩
        · rw [if_neg (fun z => hf z.2)] at HND
          have hlt : fdI qs nm < ql := by
            rw [← HQL.out]
            rcases Nat.lt_or_ge (fdI qs nm) qs.length with z | z
            · exact z
            · exfalso; apply hf; unfold fdZ; rw [if_neg (by omega)]; decide
          have HZ : Hid (fdZ qs nm = (fdI qs nm : Int)) := Lib.hid (by unfold fdZ; rw [if_pos (by rw [HQL.out]; exact hlt)])
          have HDB := Lib.hid (fun W (h : DsAt W Ad qs) => HDA.out W h hlt)
          generalize fdI qs nm = f at *
          clear h9 hf HDA
          go_enter Tryz.func29, Tryz.ntmps29
          go_wp2_with fail
          refine (HKC.out _).mono ?_
          rintro e w1 ⟨rfl, rfl⟩
          go_wp2_with fail
          refine HD1.out.mono ?_
          rintro e w1 ⟨rfl, hb1⟩
          have G1 : Hid (Below w.heap.size w w1) := bw_below (Nat.le_refl _) GX.out hb1
          have M26 := Lib.hid (N26.out.below hb1)
          have M3 := Lib.hid (N3.out.below hb1)
          have M8 := Lib.hid (N8.out.below hb1)
          clear hb1 GX N26 N3 N8 c0 c1 c2 c3 c4 HD1
          obtain ⟨bd, od, A2, c2, rfl, hbd, e0, e1, e2, _, hal, _⟩ := HDB.out _ (HD.out.below G1.out)
          unfold maxLen at hal
          obtain ⟨y0, y1, y2, _⟩ := M26.out.three
          have ly := M26.out.lt
          rw [HZ.out]
          have tz : decide ((f : Int) < 0) = false := by simp
          clear HDB HDEC
          have hk1 := HKW.out
          have hk2 := HKD.out
          subst hk1 hk2
          generalize (dn qs f).args.length = al at *
          generalize (dn qs f).sort = ds at *
          generalize (dn qs f).name = nm2 at *
          clear HKW HKD HZ
          go_wp2_with fail
          go_quiet (fail)
          have GX : Hid (Below w.heap.size w (w1.drewN nq)) := Lib.hid (below_dn G1.out _)
          have N3 : Hid (HB (w1.drewN nq) (w.heap.size + 1) 3 #[.int .i64 i]) := Lib.hid (M3.out.drewN _)
          have N8 : Hid (HB (w1.drewN nq) (w.heap.size + 1 + 1) 56 #[.int .i64 op, .slice A' kl c', .int .i64 nv, .int .i64 dv, .string nm]) := Lib.hid (M8.out.drewN _)
          clear G1 M26 M3 M8 y0 y1 y2 ly e0 e1 e2 hbd
          generalize w1.drewN nq = wx at *
          have HKS : Hid (op ≠ 9 → kcN op = -1 ∨ kcN op = ks.length) := Lib.hid (fun z => absurd H9.out z)
          have tw : ((al : Int) != -1) = true := by first | (simp; done) | (simp; omega)
          clear t9 tz hlt
          by_cases h8 : 8 < kl
          · rw [if_pos (.inl h8)] at HND
            have t8 : decide ((8 : Int) < kl) = true := by simp; omega
            obtain ⟨x0, x1, x2, x3, x4⟩ := ag5 N8.out
            have lx := N8.out.lt
            clear h8
            go_wp2_with fail
            go_ret2
            exact ⟨HC.out 9 (by decide) HND.out _ rfl, GX.out⟩
          · by_cases hn : (kl : Int) = al
            · rw [if_neg (by rintro (z | z); exact h8 z; exact z.2 hn)] at HND
              have t8 : decide ((8 : Int) < kl) = false := by simp; omega
              have hn2 : kl = al := by omega
              subst hn2
              have te : ((kl : Int) != (kl : Int)) = false := by simp
              clear hn
              obtain ⟨x0, x1, x2, x3, x4⟩ := ag5 N8.out
              have lx := N8.out.lt
              have HV : Hid (Calls Tryz.prog 69 #[.slice A' ks.length c', .func (.func 72) #[] #[.pointer (some ⟨w.heap.size + 1, 0, none⟩)]] wx fun e w' => e = .returned (.bool (kIn i ks)) ∧ Below wx.heap.size wx w') := Lib.hid (everykid_any i (w.heap.size + 1) ks A' c' (by rw [HKL.out]; unfold maxLen; omega) wx (HX.out.below GX.out) N3.out)
              rw [HKL.out] at HV
              cases hk : kIn i ks with
              | false =>
                have HK := Lib.hid hk
                rw [if_pos hk] at HND
                clear hk
                go_wp2_with fail
                refine HV.out.mono ?_
                rintro e w1 ⟨rfl, hb1⟩
                have G1 : Hid (Below w.heap.size w w1) := bw_below (Nat.le_refl _) GX.out hb1
                clear hb1
                rw [HK.out]
                go_wp2_with fail
                go_ret2
                exact ⟨HC.out 3 (by decide) HND.out _ rfl, G1.out⟩
              | true =>
                have HK := Lib.hid hk
                rw [if_neg (by rw [hk]; decide)] at HND
                clear hk
                by_cases hf : flC op nv dv nm.toList.isEmpty = 0
                · have HF := Lib.hid hf
                  rw [if_neg (fun z => z hf)] at HND
                  clear hf
                  go_wp2_with fail
                  refine HV.out.mono ?_
                  rintro e w1 ⟨rfl, hb1⟩
                  have G1 : Hid (Below w.heap.size w w1) := bw_below (Nat.le_refl _) GX.out hb1
                  have M8 := Lib.hid (N8.out.below hb1)
                  clear hb1 x0 x1 x2 x3 x4 lx
                  obtain ⟨x0, x1, x2, x3, x4⟩ := ag5 M8.out
                  have lx := M8.out.lt
                  rw [HK.out]
                  go_wp2_with fail
                  refine (wrongnumbers_any op nv dv nm A' kl c' _).mono ?_
                  rintro e w2 ⟨rfl, hb2⟩
                  have G2 : Hid (Below w.heap.size w w2) := bw_below (Nat.le_refl _) G1.out hb2
                  have L8 := Lib.hid (M8.out.below hb2)
                  clear hb2 x0 x1 x2 x3 x4 lx
                  obtain ⟨x0, x1, x2, x3, x4⟩ := ag5 L8.out
                  have lx := L8.out.lt
                  rw [HF.out]
                  clear N3 N8 M8 HV GX G1
                  go_wp2_with fail
                  go_loopw [13, 15, 84] (fun v _ k wr => ∃ (j : Nat) (Ak : Option Addr) (ck : Nat), j ≤ kl ∧ k = .int .i64 j ∧ v = .slice Ak j ck ∧ Hid (wr.ownsRow w.heap.size 3 1 (.slice Ak j ck) j (intV (kSo sorts (ks.take j)))) ∧ Hid (HB wr (w.heap.size + 1 + 1) 56 #[.int .i64 op, .slice A' kl c', .int .i64 nv, .int .i64 dv, .string nm]) ∧ Hid (Below w.heap.size w wr)) (fun _ _ k _ => kl - (intOf k).toNat)
                  case atStart => exact ⟨0, none, 0, by omega, rfl, rfl, Lib.hid (by simpa [intV, kSo] using own_nil w2 w.heap.size 3 1), L8, G2⟩
                  case round =>
                    obtain ⟨j, Ak, ck, hj, rfl, rfl, HO, HN, HBW⟩ := hrel
                    clear x0 x1 x2 x3 x4 lx
                    by_cases hlt : j < kl
                    · obtain ⟨bk, ok, rfl, hbk, z0⟩ := is_at (i := j) (HX.out.below HBW.out) (by rw [HKL.out]; exact hlt)
                      have hin := kin_at HK.out (by rw [HKL.out]; exact hlt : j < ks.length)
                      obtain ⟨bq, oq, rfl, hbq, z1⟩ := is_at (i := (nth ks j).toNat) (HSO.out.below HBW.out) (by rw [HSL.out]; omega)
                      have t3 : decide ((j : Int) < kl) = true := by simpa using hlt
                      have HNX := Lib.hid (kso_take (sorts := sorts) (ks := ks) (j := j) (by rw [HKL.out]; exact hlt))
                      have lwr := HBW.out.size
                      have hkl8 : kl ≤ 8 := by have := t8; simp at this; omega
                      generalize nth sorts (nth ks j).toNat = so at *
                      generalize nth ks j = z at *
                      go_wp2_with (at_builtin; refine wpl_app 24 3 Tryz.underlying24 (.int .i64 0) 1 8 info3' rfl (by decide) rfl _ _ rfl w.heap.size (.slice Ak j ck) j (intV (kSo sorts (ks.take j))) rfl (own_alloc HO.out _) wr.heap.size #[.int .i64 so] rfl (HB.new _ _ _) rfl (by simp [Value.oneCell']) (by omega) (by unfold maxLen; omega) (by simp; omega) ?_)
                      intro g4 cap4 w4 hown4 hkp4 hbw4
                      have O4 : Hid (w4.ownsRow w.heap.size 3 1 (.slice (some ⟨g4, 0, none⟩) (j + 1) cap4) (j + 1) (intV (kSo sorts (ks.take (j + 1))))) := Lib.hid (by rw [HNX.out, intV_snoc]; exact hown4.out)
                      have M4 := Lib.hid (hkp4 _ _ _ (own_ne HO.out HN.out (by decide)) (HN.out.alloc (.cells #[.int .i64 so] 3)))
                      have G4 : Hid (Below w.heap.size w w4) := Lib.hid (hbw4 w (Below.alloc HBW.out (by omega) _))
                      clear hown4 hkp4 hbw4
                      go_wp2_with fail
                      go_round
                      case rel => exact ⟨j + 1, some ⟨g4, 0, none⟩, cap4, by omega, by go_num, by simp, O4, M4, G4⟩
                      case measure => simp [intOf]; omega
                    · obtain rfl : j = kl := by omega
                      have t3 : decide ((j : Int) < j) = false := by simp
                      obtain ⟨x0, x1, x2, x3, x4⟩ := ag5 HN.out
                      have lx := HN.out.lt
                      have hlen : (kSo sorts ks).length = j := by rw [kso_len]; exact HKL.out
                      have HOW := HO.out
                      rw [List.take_of_length_le (by rw [HKL.out]; exact Nat.le_refl _)] at HOW
                      have HIS := own_isb HOW hlen
                      have HSX := Lib.hid (sortof_any op nv dv nm A' j c' ds (kSo sorts ks) Ak ck (by rw [hlen]; exact HIS.2) (own_cap HOW) wr HIS.1.is HO1.out HO2.out (fun z => by rw [kso_len]; exact HKS.out z) (fun z => by have := fl_word HF.out z; omega))
                      rw [hlen, ← HNT.out] at HSX
                      clear hlen HOW HIS hlt
                      by_cases hT : T = 0
                      · have tT : (T == 0) = true := by simpa using hT
                        rw [if_pos hT] at HND
                        clear hT
                        go_wp2_with fail
                        refine HSX.out.mono ?_
                        rintro e w5 ⟨rfl, hb5⟩
                        have G5 : Hid (Below w.heap.size w w5) := bw_below (Nat.le_refl _) HBW.out hb5
                        clear hb5
                        go_wp2_with fail
                        go_ret2
                        exact ⟨HC.out 8 (by decide) HND.out _ rfl, G5.out⟩
                      · have tT : (T == 0) = false := by simpa using hT
                        rw [if_neg hT] at HND
                        clear hT
                        go_wp2_with fail
                        refine HSX.out.mono ?_
                        rintro e w5 ⟨rfl, hb5⟩
                        have G5 : Hid (Below w.heap.size w w5) := bw_below (Nat.le_refl _) HBW.out hb5
                        clear hb5
                        go_wp2_with fail
                        go_ret2
                        exact ⟨HE.out 0 T HND.out (HNS.out HND.out) _ rfl, G5.out⟩
                · rw [if_pos hf] at HND
                  have tf : (flC op nv dv nm.toList.isEmpty != 0) = true := by simpa using hf
                  have HF := Lib.hid hf
                  clear hf
                  go_wp2_with fail
                  refine HV.out.mono ?_
                  rintro e w1 ⟨rfl, hb1⟩
                  have G1 : Hid (Below w.heap.size w w1) := bw_below (Nat.le_refl _) GX.out hb1
                  have M8 := Lib.hid (N8.out.below hb1)
                  clear hb1 x0 x1 x2 x3 x4 lx
                  obtain ⟨x0, x1, x2, x3, x4⟩ := ag5 M8.out
                  have lx := M8.out.lt
                  rw [HK.out]
                  go_wp2_with fail
                  refine (wrongnumbers_any op nv dv nm A' kl c' _).mono ?_
                  rintro e w2 ⟨rfl, hb2⟩
                  have G2 : Hid (Below w.heap.size w w2) := bw_below (Nat.le_refl _) G1.out hb2
                  clear hb2
                  go_wp2_with fail
                  go_ret2
                  exact ⟨HC.out _ HF.out HND.out _ rfl, G2.out⟩
            · rw [if_pos (.inr ⟨by omega, hn⟩)] at HND
              have t8 : decide ((8 : Int) < kl) = false := by simp; omega
              have te : ((kl : Int) != (al : Int)) = true := by simpa using hn
              obtain ⟨x0, x1, x2, x3, x4⟩ := ag5 N8.out
              have lx := N8.out.lt
              clear h8 hn
              go_wp2_with fail
              go_ret2
              exact ⟨HC.out 9 (by decide) HND.out _ rfl, GX.out⟩
      · have t9 : (op == 9) = false := by simpa using h9
        have H9 := Lib.hid h9
        rw [if_neg h9] at HKW HKD
        rw [if_neg (fun z => h9 z.1)] at HND
        have hk1 := HKW.out
        have hk2 := HKD.out
        subst hk1 hk2
        clear HKW HKD HDEC HDA
        go_enter Tryz.func29, Tryz.ntmps29
        go_wp2_with fail
        refine (HKC.out _).mono ?_
        rintro e w1 ⟨rfl, rfl⟩
        generalize ((w.alloc (.cells #[.slice Ad ql dc, .slice (some ⟨bn, on, none⟩) nl nc, .slice Ah hL hc] 26)).alloc (.cells #[.int .i64 i] 3)).alloc (.cells #[.int .i64 op, .slice A' kl c', .int .i64 nv, .int .i64 dv, .string nm] 56) = wx at *
        clear N26 c0 c1 c2 c3 c4 hb h9
        generalize hkw : kcN op = kw at *
        by_cases hm : kw = -1
        · have tw : (kw != -1) = false := by simpa using hm
          have HKE := Lib.hid hkw
          have HKS : Hid (op ≠ 9 → kcN op = -1 ∨ kcN op = ks.length) := Lib.hid (fun _ => by rw [hkw]; exact .inl hm)
          clear hkw
          by_cases h8 : 8 < kl
          · rw [if_pos (.inl h8)] at HND
            have t8 : decide ((8 : Int) < kl) = true := by simp; omega
            obtain ⟨x0, x1, x2, x3, x4⟩ := ag5 N8.out
            have lx := N8.out.lt
            clear h8
            go_wp2_with fail
            go_ret2
            exact ⟨HC.out 9 (by decide) HND.out _ rfl, GX.out⟩
          · rw [if_neg (by rintro (z | z); exact h8 z; exact z.1 hm)] at HND
            clear hm
            have t8 : decide ((8 : Int) < kl) = false := by simp; omega
            obtain ⟨x0, x1, x2, x3, x4⟩ := ag5 N8.out
            have lx := N8.out.lt
            have HV : Hid (Calls Tryz.prog 69 #[.slice A' ks.length c', .func (.func 72) #[] #[.pointer (some ⟨w.heap.size + 1, 0, none⟩)]] wx fun e w' => e = .returned (.bool (kIn i ks)) ∧ Below wx.heap.size wx w') := Lib.hid (everykid_any i (w.heap.size + 1) ks A' c' (by rw [HKL.out]; unfold maxLen; omega) wx (HX.out.below GX.out) N3.out)
            rw [HKL.out] at HV
            cases hk : kIn i ks with
            | false =>
              have HK := Lib.hid hk
              rw [if_pos hk] at HND
              clear hk
              go_wp2_with fail
              refine HV.out.mono ?_
              rintro e w1 ⟨rfl, hb1⟩
              have G1 : Hid (Below w.heap.size w w1) := bw_below (Nat.le_refl _) GX.out hb1
              clear hb1
              rw [HK.out]
              go_wp2_with fail
              go_ret2
              exact ⟨HC.out 3 (by decide) HND.out _ rfl, G1.out⟩
            | true =>
              have HK := Lib.hid hk
              rw [if_neg (by rw [hk]; decide)] at HND
              clear hk
              by_cases hf : flC op nv dv nm.toList.isEmpty = 0
              · have HF := Lib.hid hf
                rw [if_neg (fun z => z hf)] at HND
                clear hf
                go_wp2_with fail
                refine HV.out.mono ?_
                rintro e w1 ⟨rfl, hb1⟩
                have G1 : Hid (Below w.heap.size w w1) := bw_below (Nat.le_refl _) GX.out hb1
                have M8 := Lib.hid (N8.out.below hb1)
                clear hb1 x0 x1 x2 x3 x4 lx
                obtain ⟨x0, x1, x2, x3, x4⟩ := ag5 M8.out
                have lx := M8.out.lt
                rw [HK.out]
                go_wp2_with fail
                refine (wrongnumbers_any op nv dv nm A' kl c' _).mono ?_
                rintro e w2 ⟨rfl, hb2⟩
                have G2 : Hid (Below w.heap.size w w2) := bw_below (Nat.le_refl _) G1.out hb2
                have L8 := Lib.hid (M8.out.below hb2)
                clear hb2 x0 x1 x2 x3 x4 lx
                obtain ⟨x0, x1, x2, x3, x4⟩ := ag5 L8.out
                have lx := L8.out.lt
                rw [HF.out]
                clear N3 N8 M8 HV GX G1
                go_wp2_with fail
                go_loopw [13, 15, 84] (fun v _ k wr => ∃ (j : Nat) (Ak : Option Addr) (ck : Nat), j ≤ kl ∧ k = .int .i64 j ∧ v = .slice Ak j ck ∧ Hid (wr.ownsRow w.heap.size 3 1 (.slice Ak j ck) j (intV (kSo sorts (ks.take j)))) ∧ Hid (HB wr (w.heap.size + 1 + 1) 56 #[.int .i64 op, .slice A' kl c', .int .i64 nv, .int .i64 dv, .string nm]) ∧ Hid (Below w.heap.size w wr)) (fun _ _ k _ => kl - (intOf k).toNat)
                case atStart => exact ⟨0, none, 0, by omega, rfl, rfl, Lib.hid (by simpa [intV, kSo] using own_nil w2 w.heap.size 3 1), L8, G2⟩
                case round =>
                  obtain ⟨j, Ak, ck, hj, rfl, rfl, HO, HN, HBW⟩ := hrel
                  clear x0 x1 x2 x3 x4 lx
                  by_cases hlt : j < kl
                  · obtain ⟨bk, ok, rfl, hbk, z0⟩ := is_at (i := j) (HX.out.below HBW.out) (by rw [HKL.out]; exact hlt)
                    have hin := kin_at HK.out (by rw [HKL.out]; exact hlt : j < ks.length)
                    obtain ⟨bq, oq, rfl, hbq, z1⟩ := is_at (i := (nth ks j).toNat) (HSO.out.below HBW.out) (by rw [HSL.out]; omega)
                    have t3 : decide ((j : Int) < kl) = true := by simpa using hlt
                    have HNX := Lib.hid (kso_take (sorts := sorts) (ks := ks) (j := j) (by rw [HKL.out]; exact hlt))
                    have lwr := HBW.out.size
                    have hkl8 : kl ≤ 8 := by have := t8; simp at this; omega
                    generalize nth sorts (nth ks j).toNat = so at *
                    generalize nth ks j = z at *
                    go_wp2_with (at_builtin; refine wpl_app 24 3 Tryz.underlying24 (.int .i64 0) 1 8 info3' rfl (by decide) rfl _ _ rfl w.heap.size (.slice Ak j ck) j (intV (kSo sorts (ks.take j))) rfl (own_alloc HO.out _) wr.heap.size #[.int .i64 so] rfl (HB.new _ _ _) rfl (by simp [Value.oneCell']) (by omega) (by unfold maxLen; omega) (by simp; omega) ?_)
                    intro g4 cap4 w4 hown4 hkp4 hbw4
                    have O4 : Hid (w4.ownsRow w.heap.size 3 1 (.slice (some ⟨g4, 0, none⟩) (j + 1) cap4) (j + 1) (intV (kSo sorts (ks.take (j + 1))))) := Lib.hid (by rw [HNX.out, intV_snoc]; exact hown4.out)
                    have M4 := Lib.hid (hkp4 _ _ _ (own_ne HO.out HN.out (by decide)) (HN.out.alloc (.cells #[.int .i64 so] 3)))
                    have G4 : Hid (Below w.heap.size w w4) := Lib.hid (hbw4 w (Below.alloc HBW.out (by omega) _))
                    clear hown4 hkp4 hbw4
                    go_wp2_with fail
                    go_round
                    case rel => exact ⟨j + 1, some ⟨g4, 0, none⟩, cap4, by omega, by go_num, by simp, O4, M4, G4⟩
                    case measure => simp [intOf]; omega
                  · obtain rfl : j = kl := by omega
                    have t3 : decide ((j : Int) < j) = false := by simp
                    obtain ⟨x0, x1, x2, x3, x4⟩ := ag5 HN.out
                    have lx := HN.out.lt
                    have hlen : (kSo sorts ks).length = j := by rw [kso_len]; exact HKL.out
                    have HOW := HO.out
                    rw [List.take_of_length_le (by rw [HKL.out]; exact Nat.le_refl _)] at HOW
                    have HIS := own_isb HOW hlen
                    have HSX := Lib.hid (sortof_any op nv dv nm A' j c' 0 (kSo sorts ks) Ak ck (by rw [hlen]; exact HIS.2) (own_cap HOW) wr HIS.1.is HO1.out HO2.out (fun z => by rw [kso_len]; exact HKS.out z) (fun z => by have := fl_word HF.out z; omega))
                    rw [hlen, ← HNT.out] at HSX
                    clear hlen HOW HIS hlt
                    by_cases hT : T = 0
                    · have tT : (T == 0) = true := by simpa using hT
                      rw [if_pos hT] at HND
                      clear hT
                      go_wp2_with fail
                      refine HSX.out.mono ?_
                      rintro e w5 ⟨rfl, hb5⟩
                      have G5 : Hid (Below w.heap.size w w5) := bw_below (Nat.le_refl _) HBW.out hb5
                      clear hb5
                      go_wp2_with fail
                      go_ret2
                      exact ⟨HC.out 8 (by decide) HND.out _ rfl, G5.out⟩
                    · have tT : (T == 0) = false := by simpa using hT
                      rw [if_neg hT] at HND
                      clear hT
                      go_wp2_with fail
                      refine HSX.out.mono ?_
                      rintro e w5 ⟨rfl, hb5⟩
                      have G5 : Hid (Below w.heap.size w w5) := bw_below (Nat.le_refl _) HBW.out hb5
                      clear hb5
                      go_wp2_with fail
                      go_ret2
                      exact ⟨HE.out 0 T HND.out (HNS.out HND.out) _ rfl, G5.out⟩
              · rw [if_pos hf] at HND
                have tf : (flC op nv dv nm.toList.isEmpty != 0) = true := by simpa using hf
                have HF := Lib.hid hf
                clear hf
                go_wp2_with fail
                refine HV.out.mono ?_
                rintro e w1 ⟨rfl, hb1⟩
                have G1 : Hid (Below w.heap.size w w1) := bw_below (Nat.le_refl _) GX.out hb1
                have M8 := Lib.hid (N8.out.below hb1)
                clear hb1 x0 x1 x2 x3 x4 lx
                obtain ⟨x0, x1, x2, x3, x4⟩ := ag5 M8.out
                have lx := M8.out.lt
                rw [HK.out]
                go_wp2_with fail
                refine (wrongnumbers_any op nv dv nm A' kl c' _).mono ?_
                rintro e w2 ⟨rfl, hb2⟩
                have G2 : Hid (Below w.heap.size w w2) := bw_below (Nat.le_refl _) G1.out hb2
                clear hb2
                go_wp2_with fail
                go_ret2
                exact ⟨HC.out _ HF.out HND.out _ rfl, G2.out⟩
        · have tw : (kw != -1) = true := by simpa using hm
          have HKE := Lib.hid hkw
          clear hkw
          by_cases h8 : 8 < kl
          · rw [if_pos (.inl h8)] at HND
            have t8 : decide ((8 : Int) < kl) = true := by simp; omega
            obtain ⟨x0, x1, x2, x3, x4⟩ := ag5 N8.out
            have lx := N8.out.lt
            clear h8
            go_wp2_with fail
            go_ret2
            exact ⟨HC.out 9 (by decide) HND.out _ rfl, GX.out⟩
          · by_cases hn : (kl : Int) = kw
            · rw [if_neg (by rintro (z | z); exact h8 z; exact z.2 hn)] at HND
              have HKS : Hid (op ≠ 9 → kcN op = -1 ∨ kcN op = ks.length) := Lib.hid (fun _ => by rw [HKE.out, HKL.out]; exact .inr hn.symm)
              have t8 : decide ((8 : Int) < kl) = false := by simp; omega
              have te : ((kl : Int) != kw) = false := by simpa using hn
              clear hm hn
              obtain ⟨x0, x1, x2, x3, x4⟩ := ag5 N8.out
              have lx := N8.out.lt
              have HV : Hid (Calls Tryz.prog 69 #[.slice A' ks.length c', .func (.func 72) #[] #[.pointer (some ⟨w.heap.size + 1, 0, none⟩)]] wx fun e w' => e = .returned (.bool (kIn i ks)) ∧ Below wx.heap.size wx w') := Lib.hid (everykid_any i (w.heap.size + 1) ks A' c' (by rw [HKL.out]; unfold maxLen; omega) wx (HX.out.below GX.out) N3.out)
              rw [HKL.out] at HV
              cases hk : kIn i ks with
              | false =>
                have HK := Lib.hid hk
                rw [if_pos hk] at HND
                clear hk
                go_wp2_with fail
                refine HV.out.mono ?_
                rintro e w1 ⟨rfl, hb1⟩
                have G1 : Hid (Below w.heap.size w w1) := bw_below (Nat.le_refl _) GX.out hb1
                clear hb1
                rw [HK.out]
                go_wp2_with fail
                go_ret2
                exact ⟨HC.out 3 (by decide) HND.out _ rfl, G1.out⟩
              | true =>
                have HK := Lib.hid hk
                rw [if_neg (by rw [hk]; decide)] at HND
                clear hk
                by_cases hf : flC op nv dv nm.toList.isEmpty = 0
                · have HF := Lib.hid hf
                  rw [if_neg (fun z => z hf)] at HND
                  clear hf
                  go_wp2_with fail
                  refine HV.out.mono ?_
                  rintro e w1 ⟨rfl, hb1⟩
                  have G1 : Hid (Below w.heap.size w w1) := bw_below (Nat.le_refl _) GX.out hb1
                  have M8 := Lib.hid (N8.out.below hb1)
                  clear hb1 x0 x1 x2 x3 x4 lx
                  obtain ⟨x0, x1, x2, x3, x4⟩ := ag5 M8.out
                  have lx := M8.out.lt
                  rw [HK.out]
                  go_wp2_with fail
                  refine (wrongnumbers_any op nv dv nm A' kl c' _).mono ?_
                  rintro e w2 ⟨rfl, hb2⟩
                  have G2 : Hid (Below w.heap.size w w2) := bw_below (Nat.le_refl _) G1.out hb2
                  have L8 := Lib.hid (M8.out.below hb2)
                  clear hb2 x0 x1 x2 x3 x4 lx
                  obtain ⟨x0, x1, x2, x3, x4⟩ := ag5 L8.out
                  have lx := L8.out.lt
                  rw [HF.out]
                  clear N3 N8 M8 HV GX G1
                  go_wp2_with fail
                  go_loopw [13, 15, 84] (fun v _ k wr => ∃ (j : Nat) (Ak : Option Addr) (ck : Nat), j ≤ kl ∧ k = .int .i64 j ∧ v = .slice Ak j ck ∧ Hid (wr.ownsRow w.heap.size 3 1 (.slice Ak j ck) j (intV (kSo sorts (ks.take j)))) ∧ Hid (HB wr (w.heap.size + 1 + 1) 56 #[.int .i64 op, .slice A' kl c', .int .i64 nv, .int .i64 dv, .string nm]) ∧ Hid (Below w.heap.size w wr)) (fun _ _ k _ => kl - (intOf k).toNat)
                  case atStart => exact ⟨0, none, 0, by omega, rfl, rfl, Lib.hid (by simpa [intV, kSo] using own_nil w2 w.heap.size 3 1), L8, G2⟩
                  case round =>
                    obtain ⟨j, Ak, ck, hj, rfl, rfl, HO, HN, HBW⟩ := hrel
                    clear x0 x1 x2 x3 x4 lx
                    by_cases hlt : j < kl
                    · obtain ⟨bk, ok, rfl, hbk, z0⟩ := is_at (i := j) (HX.out.below HBW.out) (by rw [HKL.out]; exact hlt)
                      have hin := kin_at HK.out (by rw [HKL.out]; exact hlt : j < ks.length)
                      obtain ⟨bq, oq, rfl, hbq, z1⟩ := is_at (i := (nth ks j).toNat) (HSO.out.below HBW.out) (by rw [HSL.out]; omega)
                      have t3 : decide ((j : Int) < kl) = true := by simpa using hlt
                      have HNX := Lib.hid (kso_take (sorts := sorts) (ks := ks) (j := j) (by rw [HKL.out]; exact hlt))
                      have lwr := HBW.out.size
                      have hkl8 : kl ≤ 8 := by have := t8; simp at this; omega
                      generalize nth sorts (nth ks j).toNat = so at *
                      generalize nth ks j = z at *
                      go_wp2_with (at_builtin; refine wpl_app 24 3 Tryz.underlying24 (.int .i64 0) 1 8 info3' rfl (by decide) rfl _ _ rfl w.heap.size (.slice Ak j ck) j (intV (kSo sorts (ks.take j))) rfl (own_alloc HO.out _) wr.heap.size #[.int .i64 so] rfl (HB.new _ _ _) rfl (by simp [Value.oneCell']) (by omega) (by unfold maxLen; omega) (by simp; omega) ?_)
                      intro g4 cap4 w4 hown4 hkp4 hbw4
                      have O4 : Hid (w4.ownsRow w.heap.size 3 1 (.slice (some ⟨g4, 0, none⟩) (j + 1) cap4) (j + 1) (intV (kSo sorts (ks.take (j + 1))))) := Lib.hid (by rw [HNX.out, intV_snoc]; exact hown4.out)
                      have M4 := Lib.hid (hkp4 _ _ _ (own_ne HO.out HN.out (by decide)) (HN.out.alloc (.cells #[.int .i64 so] 3)))
                      have G4 : Hid (Below w.heap.size w w4) := Lib.hid (hbw4 w (Below.alloc HBW.out (by omega) _))
                      clear hown4 hkp4 hbw4
                      go_wp2_with fail
                      go_round
                      case rel => exact ⟨j + 1, some ⟨g4, 0, none⟩, cap4, by omega, by go_num, by simp, O4, M4, G4⟩
                      case measure => simp [intOf]; omega
                    · obtain rfl : j = kl := by omega
                      have t3 : decide ((j : Int) < j) = false := by simp
                      obtain ⟨x0, x1, x2, x3, x4⟩ := ag5 HN.out
                      have lx := HN.out.lt
                      have hlen : (kSo sorts ks).length = j := by rw [kso_len]; exact HKL.out
                      have HOW := HO.out
                      rw [List.take_of_length_le (by rw [HKL.out]; exact Nat.le_refl _)] at HOW
                      have HIS := own_isb HOW hlen
                      have HSX := Lib.hid (sortof_any op nv dv nm A' j c' 0 (kSo sorts ks) Ak ck (by rw [hlen]; exact HIS.2) (own_cap HOW) wr HIS.1.is HO1.out HO2.out (fun z => by rw [kso_len]; exact HKS.out z) (fun z => by have := fl_word HF.out z; omega))
                      rw [hlen, ← HNT.out] at HSX
                      clear hlen HOW HIS hlt
                      by_cases hT : T = 0
                      · have tT : (T == 0) = true := by simpa using hT
                        rw [if_pos hT] at HND
                        clear hT
                        go_wp2_with fail
                        refine HSX.out.mono ?_
                        rintro e w5 ⟨rfl, hb5⟩
                        have G5 : Hid (Below w.heap.size w w5) := bw_below (Nat.le_refl _) HBW.out hb5
                        clear hb5
                        go_wp2_with fail
                        go_ret2
                        exact ⟨HC.out 8 (by decide) HND.out _ rfl, G5.out⟩
                      · have tT : (T == 0) = false := by simpa using hT
                        rw [if_neg hT] at HND
                        clear hT
                        go_wp2_with fail
                        refine HSX.out.mono ?_
                        rintro e w5 ⟨rfl, hb5⟩
                        have G5 : Hid (Below w.heap.size w w5) := bw_below (Nat.le_refl _) HBW.out hb5
                        clear hb5
                        go_wp2_with fail
                        go_ret2
                        exact ⟨HE.out 0 T HND.out (HNS.out HND.out) _ rfl, G5.out⟩
                · rw [if_pos hf] at HND
                  have tf : (flC op nv dv nm.toList.isEmpty != 0) = true := by simpa using hf
                  have HF := Lib.hid hf
                  clear hf
                  go_wp2_with fail
                  refine HV.out.mono ?_
                  rintro e w1 ⟨rfl, hb1⟩
                  have G1 : Hid (Below w.heap.size w w1) := bw_below (Nat.le_refl _) GX.out hb1
                  have M8 := Lib.hid (N8.out.below hb1)
                  clear hb1 x0 x1 x2 x3 x4 lx
                  obtain ⟨x0, x1, x2, x3, x4⟩ := ag5 M8.out
                  have lx := M8.out.lt
                  rw [HK.out]
                  go_wp2_with fail
                  refine (wrongnumbers_any op nv dv nm A' kl c' _).mono ?_
                  rintro e w2 ⟨rfl, hb2⟩
                  have G2 : Hid (Below w.heap.size w w2) := bw_below (Nat.le_refl _) G1.out hb2
                  clear hb2
                  go_wp2_with fail
                  go_ret2
                  exact ⟨HC.out _ HF.out HND.out _ rfl, G2.out⟩
            · rw [if_pos (.inr ⟨hm, hn⟩)] at HND
              have t8 : decide ((8 : Int) < kl) = false := by simp; omega
              have te : ((kl : Int) != kw) = true := by simpa using hn
              obtain ⟨x0, x1, x2, x3, x4⟩ := ag5 N8.out
              have lx := N8.out.lt
              clear h8 hn
              go_wp2_with fail
              go_ret2
              exact ⟨HC.out 9 (by decide) HND.out _ rfl, GX.out⟩
end Go.Proofs.YtaodebpogibimaaGreat
