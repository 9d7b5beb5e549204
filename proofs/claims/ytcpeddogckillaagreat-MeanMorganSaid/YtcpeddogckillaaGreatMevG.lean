/-
  Values of nodes: the law that each is of its node's sort.
-/
import Derived.Test.YtcpeddogckillaaGreatMevF
import Derived.Test.YtcpeddogckillaaGreatMeaJ
import Derived.Test.YtcpeddogckillaaGreatAskCq
namespace Go.Proofs.YtcpeddogckillaaGreat
open Go.RowKit

theorem srt_ok {op d ds : Int} {ks : List Int} (hs : srt op d ds ks ≠ 0) (h1 : 1 ≤ op) (h2 : op ≤ 25) (hd : op = 9 → okSo ds) (hk : ∀ j, j < ks.length → okSo (nth ks j)) (hkc : op ≠ 9 → kcN op ≠ -1 → (ks.length : Int) = kcN op) (h15 : op = 15 → 1 ≤ d ∧ d ≤ 8) : okSo (srt op d ds ks) := by
  rcases op_cases6 h1 h2 with ho | rfl | rfl | ho | ho | rfl | rfl
  · rw [(srt_tru ho hs).1]
    exact .inl (by omega)
  · rw [(srt_7 hs).1]
    have hl : (ks.length : Int) = 3 := hkc (by decide) (by decide)
    exact hk 1 (by omega)
  · have e : srt 9 d ds ks = ds := (whn_ne hs).2
    rw [e]
    exact hd rfl
  · rw [(srt_num ho hs).1]
    rcases nums_sort op d ks with z | ⟨z, _⟩ <;> (rw [z]; exact .inl (by omega))
  · by_cases z : op = 15
    · subst z
      have := h15 rfl
      have e : srt 15 d ds ks = 10 + d := rfl
      rw [e]
      exact .inr (by omega)
    · obtain ⟨e1, e2⟩ := srt_wrd (by omega) hs
      rw [e1]
      exact .inr (swd_iff.1 (sw_all e2).1)
  · rw [(srt_24 hs).1]
    exact .inl (by omega)
  · rw [(srt_25 hs).1]
    exact .inl (by omega)
theorem sorts_ok {qs : List Dc} {ns : List Nd} {hs : List Int} {ms : List Mg} (h : meC qs ns hs ms = 0) : ∀ i, i < ns.length → okSo (nth (srtL qs ns ns.length) i) := by
  intro i
  induction i using Nat.strongRecOn with
  | _ i ih =>
    intro hi
    have hk := (nd_known h).2 i hi
    obtain ⟨a1, a2, a3, a4, a5, a6, a7⟩ := ndc_zero hk.c
    rw [hk.s]
    refine srt_ok a7 a1.1 a1.2 (fun z => ?_) (fun j hj => ?_) (fun o1 o2 => ?_) (fun z => ?_)
    · obtain ⟨k, _, _, k3, _, k5, _⟩ := hk.m z
      rw [k5]
      exact (dc_ok ((ak_a0 (mec_zero h).1).2.1.2 k k3)).1
    · rw [kSo_len] at hj
      have b := a5 _ (List.getElem_mem hj)
      rw [← nth_of hj] at b
      rw [kSo_at hj, srtL_pre (n := ns.length) (by omega) (by omega)]
      exact ih _ (by omega) (by omega)
    · rw [kSo_len]
      unfold kWant at a4
      rw [if_neg o1] at a4
      rcases a4 with z | z
      · exact absurd z o2
      · exact z
    · have := fl_word (e := (nn ns i).name.toList.isEmpty) a6 z
      omega
theorem world_fine {ns : List Nd} {ss hs : List Int} {ms : List Mg} (h : Ok ns ss) (h1 : ns.length ≤ 200) (h2 : hs.length ≤ 200) (h3 : ∀ i, i < hs.length → 0 ≤ nth hs i ∧ nth hs i < ss.length ∧ nth ss (nth hs i).toNat = 1) (hm : ms.length = 14) (hg : ∀ i, i < 14 → mcF dqs ms i = 0) : meC dqs ns hs ms = 0 := by
  unfold meC
  rw [if_pos (ask_fine h h1 h2 h3).1, if_pos (by rw [hm]; rfl)]
  exact (fs_ok (by decide) hg).1
/-- Values that are good. -/
def SrtQ (ss : List Int) (nl : Nat) (w : World) (e : Ending) (w' : World) : Prop := ∃ (A : Option Addr) (c pn : Nat) (ps : List (Vl × Value)), e = .returned (.tuple #[.slice A pn c, .bool true]) ∧ Hid (ps.length = pn) ∧ Hid (VMk w.heap.size w.heap.size (.slice A pn c) w' ps) ∧ Hid (∀ (j : Nat) (p : Vl × Value), ps[j]? = some p → gdV (nth ss j) p.1 = true ∧ okSo (nth ss j)) ∧ pn ≤ nl ∧ Below w.heap.size w w'
theorem vald_srt {ns : List Nd} {ss hs : List Int} {ms : List Mg} (hok : Ok ns ss) (h0 : meC dqs ns hs ms = 0) {w : World} {e : Ending} {w' : World} (h : ValdQ (valsE (evOf dqs ns ms) ns.length) w e w') : SrtQ ss ns.length w e w' := by
  obtain ⟨A, c, ps, h1, h2, h3, h4⟩ := h
  refine ⟨A, c, ps.length, ps, h1, Lib.hid rfl, Lib.hid h2, Lib.hid (fun j p hp => ?_), ?_, h4⟩
  · rcases h3 with rfl | h3
    · cases hp
    · have hl := valsE_len h3
      rw [List.length_map] at hl
      have hj : j < ps.length := by
        rcases Nat.lt_or_ge j ps.length with z | z
        · exact z
        · rw [List.getElem?_eq_none z] at hp; cases hp
      have g := vals_good (nd_known h0).2 (Nat.le_refl _) h3 j (by omega)
      rw [hok.1, show vn (ps.map (·.1)) j = p.1 by simp [vn, List.getD, hp]] at g
      have o := sorts_ok h0 j (by omega)
      rw [hok.1] at o
      exact ⟨g, o⟩
  · rcases h3 with rfl | h3
    · exact Nat.zero_le _
    · have hl := valsE_len h3
      rw [List.length_map] at hl
      omega
@[reducible] def AskE (g : Nat) (a0 a1 a2 : Value) (W : World) : Prop := W.cell? ⟨g, 0, none⟩ = some a0 ∧ W.cell? ⟨g, 1, none⟩ = some a1 ∧ W.cell? ⟨g, 2, none⟩ = some a2
@[reducible] def GvE (bs os bv k : Nat) (x s0 s1 s2 s3 : Value) (W : World) : Prop := W.cell? ⟨bs, os, none⟩ = some x ∧ W.cell? ⟨bv, k, none⟩ = some s0 ∧ W.cell? ⟨bv, k + 1, none⟩ = some s1 ∧ W.cell? ⟨bv, k + 2, none⟩ = some s2 ∧ W.cell? ⟨bv, k + 3, none⟩ = some s3
set_option maxRecDepth 100000 in
set_option maxHeartbeats 8000000 in
theorem meansorts_any (zs ys : List Int) (A B : Option Addr) (c1 c2 : Nat) (hz : zs.length ≤ maxLen) (hy : ys.length ≤ maxLen) (w : World) (h1 : Is w A zs) (h2 : Is w B ys) :
    Calls Tryz.prog 4 #[.slice A zs.length c1, .slice B ys.length c2] w fun e w' => e = .returned (.bool true) ∧ Below w.heap.size w w' := by
  have XA := Lib.hid (askof_any zs A c1 30 (by decide) hz w h1)
  have XW := Lib.hid (fun (W : World) (k : Below w.heap.size w W) => worldof_any ys B c2 hy W (h2.below k))
  clear h1 h2 hz hy
  generalize zs.length = zl at *
  generalize ys.length = yl at *
  go_enter Tryz.func4, Tryz.ntmps4
  go_wp2_with fail
  refine XA.out.mono ?_
  rintro e w1 ⟨Ad, An, Ah, nc, hc, ns, ss, hs, rfl, hd, hn, hh, hnc, hnm, hok, n120, h200, hho, hb1⟩
  have n200 : ns.length ≤ 200 := Nat.le_trans n120 (by decide)
  have G1 : Hid (Below w.heap.size w w1) := Lib.hid hb1
  have XS : Hid (∀ W, Below w1.heap.size w1 W → Calls Tryz.prog 15 #[.agg #[.slice Ad 14 14, .slice An ns.length nc, .slice Ah hs.length hc]] W (GivesS ss 0 0 W)) := Lib.hid (fun W k => by
    have := sorts_any dqs ns hs Ad An Ah 14 nc hc (by decide) (by decide) (by unfold maxLen; omega) (by unfold maxLen; omega) W (hd.below k) (hn.below k) (hh.below k)
    obtain ⟨a, b, c⟩ := ask_fine hok n200 h200 hho
    rw [a, b, c] at this
    exact this)
  have XV : Hid (∀ (W : World) (Am : Option Addr) (mc : Nat) (ms : List Mg), Below w1.heap.size w1 W → ms.length = 14 → 14 ≤ mc → mc ≤ maxLen → MsAt W Am ms → (∀ i, i < 14 → mcF dqs ms i = 0) → (∀ q ∈ ms, q.wf) → Calls Tryz.prog 14 #[.agg #[.slice Ad 14 14, .slice An ns.length nc, .slice Ah hs.length hc], .agg #[.slice Am 14 mc]] W (SrtQ ss ns.length W)) := Lib.hid (fun W Am mc ms k q1 q2 q3 q4 q5 q6 => by
    have h0 := world_fine (ms := ms) hok n200 h200 hho q1 q5
    have := valued_any dqs ns hs ms Ad An Ah Am 14 nc hc mc W ⟨Nat.le_refl _, by decide, hnc, hnm, by unfold maxLen; omega, trivial, by rw [q1]; exact q2, q3, hd.below k, hn.below k, hh.below k, q4, q6⟩ h0
    rw [q1] at this
    exact this.mono fun e w' hx => vald_srt hok h0 hx)
  have HSL := Lib.hid (ok_len hok)
  have BN := Lib.hid (new_below w1 (.cells #[.slice Ad 14 14, .slice An ns.length nc, .slice Ah hs.length hc] 26))
  have HN := Lib.hid (HB.new w1 26 #[.slice Ad 14 14, .slice An ns.length nc, .slice Ah hs.length hc])
  clear hd hn hh hok hho hb1 h200 XA
  unfold maxLen at hnm
  generalize hnl : ns.length = nl at *
  clear hnl
  generalize hs.length = hl at *
  have BD := Lib.hid (below_dn BN.out 1)
  have BWD := Lib.hid (bw_below (Nat.le_refl _) G1.out (below_dn BN.out 1))
  have KA : Hid (∀ W, Below (w1.alloc (.cells #[.slice Ad 14 14, .slice An nl nc, .slice Ah hl hc] 26)).heap.size (w1.alloc (.cells #[.slice Ad 14 14, .slice An nl nc, .slice Ah hl hc] 26)) W → AskE w1.heap.size (.slice Ad 14 14) (.slice An nl nc) (.slice Ah hl hc) W) := Lib.hid (fun W k => ⟨(HN.out.below k).cell 0, (HN.out.below k).cell 1, (HN.out.below k).cell 2⟩)
  have DR : Hid (Below (w1.alloc (.cells #[.slice Ad 14 14, .slice An nl nc, .slice Ah hl hc] 26)).heap.size (w1.alloc (.cells #[.slice Ad 14 14, .slice An nl nc, .slice Ah hl hc] 26)) (w1.alloc (.cells #[.slice Ad 14 14, .slice An nl nc, .slice Ah hl hc] 26)).drew) := Lib.hid ((Below.refl _ _).drew)
  go_wp2_with fail
  go_region_held3 (fun W => AskE w1.heap.size (.slice Ad 14 14) (.slice An nl nc) (.slice Ah hl hc) W)
    ((first | (with_reducible exact KA.out _ DR.out) | (with_reducible exact KA.out _ F3.out) | (with_reducible exact KA.out _ F4.out)))
    (first
      | (go_at_call 12; refine (XW.out _ (bw_below (Nat.le_refl _) (bw_below (Nat.le_refl _) G1.out BN.out) DR.out)).mono ?_; rintro e w3 ⟨Am, mc, ms, rfl, hml, hm1, hm2, hms, hmg, hmw, hb3⟩; have F3 := Lib.hid (below_after DR.out hb3); have MS3 := hms; have MG3 := hmg; have MW3 := hmw; have HML := Lib.hid hml; clear hb3 hms hmg hmw hml)
      | (go_at_call 14; refine (XV.out _ Am mc ms (below_after BN.out F3.out) HML.out hm1 hm2 MS3.out MG3.out MW3.out).mono ?_; rintro e w4 ⟨A4, c4, pn, ps, rfl, HPN, VM4, GD4, hpl, hb4⟩; have F4 := Lib.hid (below_after F3.out hb4); clear hb4))
  all_goals
    have B4 := Lib.hid (below_after BN.out F4.out)
    have W4 := Lib.hid (bw_below (Nat.le_refl _) G1.out B4.out)
    have N4 := Lib.hid (HN.out.below F4.out)
    have X4 := Lib.hid (XS.out _ B4.out)
    unfold GivesS at X4
    obtain ⟨a0, a1, a2, -⟩ := N4.out.three
    clear XS XV XW KA DR BD BWD BN HN
    go_wp2_with fail
    refine X4.out.mono ?_
    rintro e w5 ⟨S, sc, rfl, is1, l1, m1, hb5⟩
    rw [HSL.out] at l1 ⊢
    have B5 := Lib.hid (below_after W4.out hb5)
    have VM5 := Lib.hid ((VM4.out.below hb5).below (new_below w5 (.cells #[.int .i64 0, .int .i64 0] 30)))
    have IS5 := Lib.hid (is1.is.below (new_below w5 (.cells #[.int .i64 0, .int .i64 0] 30)))
    have N5 := Lib.hid ((N4.out.below hb5).alloc (.cells #[.int .i64 0, .int .i64 0] 30))
    have B6 := Lib.hid (below_after B5.out (new_below w5 (.cells #[.int .i64 0, .int .i64 0] 30)))
    clear is1 hb5 X4 N4 W4 B4 a0 a1 a2 VM4 B5
    obtain ⟨a0, a1, a2, -⟩ := N5.out.three
    go_wp2_with fail
    generalize hX5 : w5.alloc (.cells #[.int .i64 0, .int .i64 0] 30) = X5 at *
    clear hX5
    go_loopw [10] (fun k wr => ∃ i : Nat, i ≤ pn ∧ k = .int .i64 i ∧ Hid (Below X5.heap.size X5 wr)) (fun k _ => pn - (intOf k).toNat)
    case atStart => exact ⟨0, by omega, rfl, Lib.hid (Below.refl _ _)⟩
    case round =>
      obtain ⟨i, hi, rfl, HB7⟩ := hrel
      by_cases hlt : i < pn
      · have t3 : decide ((i : Int) < pn) = true := by simpa using hlt
        obtain ⟨p, hp⟩ : ∃ p, ps[i]? = some p := ⟨_, List.getElem?_eq_getElem (by rw [HPN.out]; exact hlt)⟩
        obtain ⟨bv, hbv, lbv, v0, v1, v2, v3⟩ := vm_at (VM5.out.below HB7.out) hp
        have HOW := (VM5.out.below HB7.out).2 p (List.mem_of_getElem? hp)
        obtain ⟨Ac, cc, hp2⟩ := own_val HOW
        have CSV := Lib.hid (own_cs (by rw [hp2] at HOW; exact HOW) rfl)
        obtain ⟨gd, so⟩ := GD4.out i p hp
        obtain ⟨bs, os, rfl, lbs, s0⟩ := is_at (i := i) (IS5.out.below HB7.out) (by rw [HSL.out]; omega)
        rw [hp2] at v2
        subst hbv
        have hcl := gd_cells gd
        have XG := Lib.hid (fun (W : World) (k : Below wr.heap.size wr W) => goodvalue_any (nth ss i) p.1 Ac cc so (by unfold maxLen; omega) W (CSV.out.below k))
        rw [gd] at XG
        have KG : Hid (∀ W, Below wr.heap.size wr W → GvE bs (os + i) bv (i * 4) (.int .i64 (nth ss i)) (.int .i64 p.1.num) (.int .i64 p.1.den) (.slice Ac p.1.cells.length cc) (.int .i64 p.1.rest) W) := Lib.hid (fun W k => ⟨(k.cell (p := ⟨bs, os + i, none⟩) lbs).trans s0, (k.cell (p := ⟨bv, i * 4, none⟩) lbv).trans v0, (k.cell (p := ⟨bv, i * 4 + 1, none⟩) lbv).trans v1, (k.cell (p := ⟨bv, i * 4 + 2, none⟩) lbv).trans v2, (k.cell (p := ⟨bv, i * 4 + 3, none⟩) lbv).trans v3⟩)
        have DR2 := Lib.hid ((Below.refl wr.heap.size wr).drew)
        have lnl : i < nl := by omega
        have lnlz : (i : Int) < nl := by omega
        have lpz : (i : Int) < pn := by omega
        clear gd so hcl hp hp2 HOW CSV v0 v1 v2 v3 s0
        generalize p.1.num = q0 at *
        generalize p.1.den = q1 at *
        generalize p.1.cells.length = q2 at *
        generalize p.1.rest = q3 at *
        generalize nth ss i = so at *
        go_wp2_with fail
        go_region_held3 (fun W => GvE bs (os + i) bv (i * 4) (.int .i64 so) (.int .i64 q0) (.int .i64 q1) (.slice Ac q2 cc) (.int .i64 q3) W)
          ((first | (with_reducible exact KG.out _ DR2.out) | (with_reducible exact KG.out _ F8.out)))
          (first
            | (go_at_call 16; refine (XG.out _ DR2.out).mono ?_; rintro e w8 ⟨rfl, hb8⟩; have F8 := Lib.hid (below_after DR2.out hb8); clear hb8))
        all_goals
          have B8 := Lib.hid (below_after HB7.out F8.out)
          clear KG XG DR2
          go_wp2_with fail
          go_round
          case rel => exact ⟨i + 1, by omega, by go_num, B8⟩
          case measure => simp [intOf]; omega
      · obtain rfl : i = pn := by omega
        have t3 : decide ((i : Int) < i) = false := by simp
        have FIN := Lib.hid (below_after B6.out HB7.out)
        go_wp2_with fail
        go_ret
        exact ⟨rfl, FIN.out⟩
end Go.Proofs.YtcpeddogckillaaGreat
