/-
  The law MeanUsed.
-/
import Derived.Test.YtcpeddogckillaaGreatMevO
import Derived.Test.YtcpeddogckillaaGreatAskCi
import Derived.Test.YtcpeddogckillaaGreatAskBb
import Derived.Test.YtcpeddogckillaaGreatAskCq
namespace Go.Proofs.YtcpeddogckillaaGreat
open Go.RowKit

/-- Which meanings have been taken over. -/
def Tk (ns : List Nd) (b : Nat → Bool) (fv fw f : Nat → Mt) (d i : Nat) : Prop :=
  (∀ k, k < 14 → f k = fw k ∨ f k = fv k) ∧ (∀ k j, (k < d ∧ j < ns.length) ∨ (k = d ∧ j < i) → k < 14 → b j = true → (nn ns j).op = 9 → ((nn ns j).name.toList == (dn dqs k).name.toList) = true → f k = fv k)
theorem tk_skip {ns : List Nd} {b : Nat → Bool} {fv fw f : Nat → Mt} {d i : Nat} (h : Tk ns b fv fw f d i) (hn : ¬ (b i = true ∧ (nn ns i).op = 9 ∧ ((nn ns i).name.toList == (dn dqs d).name.toList) = true)) : Tk ns b fv fw f d (i + 1) := by
  refine ⟨h.1, fun k j hkj hk hb ho hs => ?_⟩
  by_cases e : k = d ∧ j = i
  · obtain ⟨rfl, rfl⟩ := e
    exact absurd ⟨hb, ho, hs⟩ hn
  · exact h.2 k j (by omega) hk hb ho hs
theorem tk_take {ns : List Nd} {b : Nat → Bool} {fv fw f : Nat → Mt} {d i : Nat} (h : Tk ns b fv fw f d i) : Tk ns b fv fw (up f d (fv d)) d (i + 1) := by
  refine ⟨fun k hk => ?_, fun k j hkj hk hb ho hs => ?_⟩
  · by_cases e : k = d
    · subst e; exact .inr (by simp [up])
    · rw [show up f d (fv d) k = f k by simp [up, e]]
      exact h.1 k hk
  · by_cases e : k = d
    · subst e; simp [up]
    · rw [show up f d (fv d) k = f k by simp [up, e]]
      exact h.2 k j (by omega) hk hb ho hs
theorem tk_next {ns : List Nd} {b : Nat → Bool} {fv fw f : Nat → Mt} {d : Nat} (h : Tk ns b fv fw f d ns.length) : Tk ns b fv fw f (d + 1) 0 := by
  refine ⟨h.1, fun k j hkj hk hb ho hs => ?_⟩
  exact h.2 k j (by omega) hk hb ho hs
theorem tk_same {ns : List Nd} {hs : List Int} {b : Nat → Bool} {fv fw f : Nat → Mt} (h : Tk ns b fv fw f 14 0) (hb : ∀ j, j < ns.length → (b j = true ↔ Rch ns hs j)) (hk : ∀ j, j < ns.length → (nn ns j).op = 9 → fdI dqs (nn ns j).name < 14) :
    ∀ j, j < ns.length → Rch ns hs j → (nn ns j).op = 9 → mn (msF fv) (fdI dqs (nn ns j).name) = mn (msF f) (fdI dqs (nn ns j).name) := fun j hj hr ho => by
  have h14 := hk j hj ho
  have hs : ((dn dqs (fdI dqs (nn ns j).name)).name.toList == (nn ns j).name.toList) = true := by
    have h14' : List.findIdx (fun q : Dc => q.name.toList == (nn ns j).name.toList) dqs < dqs.length := h14
    have := List.findIdx_getElem (w := h14')
    rw [← dn_el (qs := dqs) (i := fdI dqs (nn ns j).name) h14]
    exact this
  rw [msf_at h14, msf_at h14, h.2 _ j (by omega) h14 ((hb j hj).2 hr) ho (by rw [beq_iff_eq] at hs ⊢; exact hs.symm)]
theorem tk_good {ns : List Nd} {b : Nat → Bool} {fv fw f : Nat → Mt} {d i : Nat} (h : Tk ns b fv fw f d i) (h1 : ∀ i, i < 14 → mgC (dn dqs i).args.length (dn dqs i).sort (fv i).1 = 0) (h2 : ∀ i, i < 14 → mgC (dn dqs i).args.length (dn dqs i).sort (fw i).1 = 0) : ∀ i, i < 14 → mgC (dn dqs i).args.length (dn dqs i).sort (f i).1 = 0 := fun i hi => by
  rcases h.1 i hi with e | e
  · rw [e]; exact h2 i hi
  · rw [e]; exact h1 i hi
theorem ok_nine {ns : List Nd} {ss : List Int} (h : Ok ns ss) : ∀ j, j < ns.length → (nn ns j).op = 9 → fdI dqs (nn ns j).name < 14 := fun j hj ho => by
  have h1 := h.2 j hj
  unfold nC ndC at h1
  by_cases hz : fdZ dqs (nn ns j).name < 0
  · split at h1
    · exact absurd h1 (by decide)
    · rw [if_pos ⟨ho, hz⟩] at h1
      exact absurd h1 (by decide)
  · unfold fdZ at hz
    split at hz
    · rename_i hlt
      exact hlt
    · exact absurd (by decide) hz
set_option maxRecDepth 100000 in
set_option maxHeartbeats 8000000 in
theorem meanused_any (zs ys xs : List Int) (A B C : Option Addr) (c1 c2 c3 : Nat) (hz : zs.length ≤ maxLen) (hy : ys.length ≤ maxLen) (hx : xs.length ≤ maxLen) (w : World) (h1 : Is w A zs) (h2 : Is w B ys) (h3 : Is w C xs) :
    Calls Tryz.prog 3 #[.slice A zs.length c1, .slice B ys.length c2, .slice C xs.length c3] w fun e w' => e = .returned (.bool true) ∧ Below w.heap.size w w' := by
  have XA := Lib.hid (askof_any zs A c1 20 (by decide) hz w h1)
  have XW := Lib.hid (fun (W : World) (k : Below w.heap.size w W) => worldof_own ys B c2 hy W (h2.below k))
  have XX := Lib.hid (fun (W : World) (k : Below w.heap.size w W) => worldof_own xs C c3 hx W (h3.below k))
  clear h1 h2 h3 hz hy hx
  generalize zs.length = zl at *
  generalize ys.length = yl at *
  generalize xs.length = xl at *
  go_enter Tryz.func3, Tryz.ntmps3
  go_wp2_with fail
  refine XA.out.mono ?_
  rintro e w1 ⟨Ad, An, Ah, nc, hc, ns, ss, hs, rfl, hd, hn, hh, hnc, hnm, hok, n120, h200, hho, hb1⟩
  have n200 : ns.length ≤ 200 := Nat.le_trans n120 (by decide)
  have G1 : Hid (Below w.heap.size w w1) := Lib.hid hb1
  have BN := Lib.hid (new_below w1 (.cells #[.slice Ad 14 14, .slice An ns.length nc, .slice Ah hs.length hc] 26))
  have HN := Lib.hid (HB.new w1 26 #[.slice Ad 14 14, .slice An ns.length nc, .slice Ah hs.length hc])
  have XU := Lib.hid (by
    have := used_any dqs ns hs Ad An Ah 14 nc hc (by decide) (by decide) (by unfold maxLen; omega) (by unfold maxLen; omega) _ (hd.below BN.out) (hn.below BN.out) (hh.below BN.out)
    obtain ⟨a, b, c⟩ := ask_fine hok n200 h200 hho
    rw [a, b] at this
    exact this)
  have XH : Hid (∀ (W : World) (Am : Option Addr) (mc : Nat) (ms : List Mg), Below w1.heap.size w1 W → ms.length = 14 → 14 ≤ mc → mc ≤ maxLen → MsAt W Am ms → (∀ i, i < 14 → mcF dqs ms i = 0) → (∀ q ∈ ms, q.wf) → Calls Tryz.prog 13 #[.agg #[.slice Ad 14 14, .slice An ns.length nc, .slice Ah hs.length hc], .agg #[.slice Am 14 mc]] W (HoldsQ (mvR dqs ns hs ms) hs W)) := Lib.hid (fun W Am mc ms k q1 q2 q3 q4 q5 q6 => by
    have h0 := world_fine (ms := ms) hok n200 h200 hho q1 q5
    have e1 : mvR dqs ns hs ms = valsE (evOf dqs ns ms) ns.length := if_pos h0
    have hl := ok_len hok
    have := holds_any dqs ns hs ms Ad An Ah Am 14 nc hc mc W ⟨Nat.le_refl _, by decide, hnc, hnm, by unfold maxLen; omega, trivial, by rw [q1]; exact q2, q3, hd.below k, hn.below k, hh.below k, q4, q6⟩
      (fun C D he => by rw [e1] at he; have := vals_ten (nd_known h0).2 (Nat.le_refl _) he; dsimp only at this; omega)
      (fun vs he i hi => by rw [e1] at he; rw [valsE_len he]; have := hho i hi; exact ⟨this.1, by omega⟩)
    rw [q1] at this
    exact this)
  have XE : Hid (∀ ms ms' : List Mg, ms.length = 14 → ms'.length = 14 → (∀ i, i < 14 → mcF dqs ms i = 0) → (∀ i, i < 14 → mcF dqs ms' i = 0) → (∀ j, j < ns.length → Rch ns hs j → (nn ns j).op = 9 → mn ms (fdI dqs (nn ns j).name) = mn ms' (fdI dqs (nn ns j).name)) →
    (errC (mvR dqs ns hs ms) = 0 ∨ errC (mvR dqs ns hs ms) = 10) ∧ (errC (mvR dqs ns hs ms') = 0 ∨ errC (mvR dqs ns hs ms') = 10) ∧ (errC (mvR dqs ns hs ms) = 0 → errC (mvR dqs ns hs ms') = 0 → hoR (mvR dqs ns hs ms) hs = hoR (mvR dqs ns hs ms') hs)) := Lib.hid (fun ms ms' => used_holds hok n200 h200 hho)
  have X9 := Lib.hid (ok_nine hok)
  have HD := Lib.hid hd
  have HNS := Lib.hid hn
  clear hd hn hh hok hho hb1 h200 XA
  generalize hnl : ns.length = nl at *
  have HNL := Lib.hid hnl
  clear hnl
  generalize hs.length = hl at *
  obtain ⟨a0, a1, a2, -⟩ := HN.out.three
  unfold GivesU at XU
  go_wp2_with fail
  refine XU.out.mono ?_
  rintro e w2 ⟨-, hu, hb2⟩
  obtain ⟨gu, b, rfl, hgu, hbr⟩ := hu trivial
  have U2 := Lib.hid hgu
  have BR := Lib.hid hbr
  have B2 := Lib.hid (below_after BN.out hb2)
  have N2 := Lib.hid (HN.out.below hb2)
  clear hu hb2 hgu hbr XU HN a0 a1 a2
  have BF := Lib.hid (new_below w2 (.cells #[.int .i64 0, .int .i64 0] 30))
  have F2 := Lib.hid (HB.new w2 30 #[.int .i64 0, .int .i64 0])
  have N3 := Lib.hid (N2.out.below BF.out)
  have U3 := Lib.hid (U2.out.below BF.out)
  have B3 := Lib.hid (below_after B2.out BF.out)
  obtain ⟨a0, a1, a2, -⟩ := N3.out.three
  obtain ⟨f0, f1, -⟩ := F2.out.two
  have XQ := Lib.hid (sure_any (w2.alloc (.cells #[.int .i64 0, .int .i64 0] 30)))
  go_wp2_with fail
  refine XQ.out.mono ?_
  rintro e w3 ⟨rfl, hb3⟩
  have N4 := Lib.hid (N3.out.below hb3)
  have U4 := Lib.hid (U3.out.below hb3)
  have B4 := Lib.hid (below_after B3.out hb3)
  clear hb3 XQ BF F2 N2 N3 U2 U3 B2 B3 a0 a1 a2 f0 f1 BN
  go_wp2_with fail
  refine (XW.out _ (bw_below (Nat.le_refl _) G1.out B4.out)).mono ?_
  rintro e w4 ⟨Am, vc, ps, rfl, HP, hv1, hv2, OV, MV, GV, hb4⟩
  obtain ⟨bv, cv, rfl, lv, hcv, rv⟩ := row_of OV.out HP.out
  have V4 := Lib.hid hcv
  have RV := Lib.hid rv
  have B5 := Lib.hid (below_after B4.out hb4)
  have N5 := Lib.hid (N4.out.below hb4)
  have U5 := Lib.hid (U4.out.below hb4)
  clear hb4 hcv rv N4 U4 B4 XW OV
  have BW := Lib.hid (new_below w4 (.cells #[.slice (some ⟨bv, 0, none⟩) 14 vc] 36))
  have VB := Lib.hid (HB.new w4 36 #[.slice (some ⟨bv, 0, none⟩) 14 vc])
  have B6 := Lib.hid (below_after B5.out BW.out)
  go_wp2_with fail
  refine (XX.out _ (bw_below (Nat.le_refl _) G1.out B6.out)).mono ?_
  rintro e w5 ⟨Am, wc, qs, rfl, HP2, hw1, hw2, OW, MW, GW, hb5⟩
  obtain ⟨bw, cw, rfl, lw, hcw, rw'⟩ := row_of OW.out HP2.out
  have KV := Lib.hid (below_after BW.out hb5)
  have KB := Lib.hid (new_below w5 (.cells #[.slice (some ⟨bw, 0, none⟩) 14 wc] 36))
  have KK := Lib.hid (below_after KV.out KB.out)
  have hne : bv ≠ bw := by
    have := V4.out.lt
    rw [sz_alloc] at lw
    omega
  have lw' : w1.heap.size ≤ bw := by
    have := B5.out.size
    rw [sz_alloc] at lw
    omega
  have UW : Hid (UwI w1 (w5.alloc (.cells #[.slice (some ⟨bw, 0, none⟩) 14 wc] 36)) w1.heap.size gu w4.heap.size w5.heap.size bv bw nl vc wc (.slice Ad 14 14) (.slice An nl nc) (.slice Ah hl hc) b (mt ps) (mt qs)) := Lib.hid
    ⟨below_after (below_after B6.out hb5) KB.out, (N5.out.below KK.out), (U5.out.below KK.out), ((VB.out.below hb5).below KB.out), HB.new w5 _ _, ⟨cv, V4.out.below KK.out, RV.out⟩, ⟨cw, hcw.below KB.out, rw'⟩, fun i hi => (mt_mdk HP.out MV.out i hi).mono (kp_below KK.out), fun i hi => (mt_mdk HP2.out MW.out i hi).mono (kp_below KB.out), hne, lw'⟩
  have GDV := Lib.hid (mt_good HP.out GV.out)
  have GDW := Lib.hid (mt_good HP2.out GW.out)
  have TK0 : Hid (Tk ns b (mt ps) (mt qs) (mt qs) 0 0) := Lib.hid ⟨fun k hk => .inl rfl, fun k j hkj => by omega⟩
  clear hb5 hcw rw' KV KB KK N5 U5 VB B6 BW V4 RV B5 OW MV MW GV GW HP HP2 XX lv lw hne lw'
  generalize mt ps = fv at *
  generalize mt qs = fw at *
  go_wp2_with fail
  go_loopw [12, 13] (fun k _ W => ∃ (d : Nat) (f : Nat → Mt), d ≤ 14 ∧ k = .int .i64 d ∧ Hid (Tk ns b fv fw f d 0) ∧ Hid (UwI w1 W w1.heap.size gu w4.heap.size w5.heap.size bv bw nl vc wc (.slice Ad 14 14) (.slice An nl nc) (.slice Ah hl hc) b fv f)) (fun k _ _ => 14 - (intOf k).toNat)
  case atStart => exact ⟨0, fw, by omega, rfl, TK0, UW⟩
  case round =>
    clear TK0 UW
    obtain ⟨d, f, hd, rfl, HT, HU⟩ := hrel
    obtain ⟨a0, a1, a2, -⟩ := HU.out.a.three
    by_cases hlt : d < 14
    · have t3 : decide ((d : Int) < 14) = true := by simp; omega
      go_wp2_with fail
      clear a0 a1 a2
      go_loopw [13] (fun k W => ∃ (i : Nat) (f : Nat → Mt), i ≤ nl ∧ k = .int .i64 i ∧ Hid (Tk ns b fv fw f d i) ∧ Hid (UwI w1 W w1.heap.size gu w4.heap.size w5.heap.size bv bw nl vc wc (.slice Ad 14 14) (.slice An nl nc) (.slice Ah hl hc) b fv f)) (fun k _ => nl - (intOf k).toNat)
      case atStart => exact ⟨0, f, by omega, rfl, HT, HU⟩
      case round =>
        clear HT HU
        obtain ⟨i, f, hi, rfl, HT, HU⟩ := hrel
        obtain ⟨a0, a1, a2, -⟩ := HU.out.a.three
        by_cases hil : i < nl
        · have t4 : decide ((i : Int) < nl) = true := by simpa using hil
          obtain ⟨u0, -⟩ := ba_cell HU.out.u hil
          obtain ⟨bn, on, Ak, kc, rfl, lbn, n0, -, -, -, n4, -⟩ := ns_at (i := i) (HNS.out.below HU.out.b) (by rw [HNL.out]; exact hil)
          obtain ⟨bd, od, A', c', rfl, lbd, d0, -⟩ := ds_at' (i := d) (HD.out.below HU.out.b) hlt
          have i1 : (i : Int) < nl := by omega
          have d14 : (d : Int) < 14 := by omega
          by_cases hall : b i = true ∧ (nn ns i).op = 9 ∧ ((nn ns i).name.toList == (dn dqs d).name.toList) = true
          · obtain ⟨hb, ho, hnm'⟩ := hall
            have HT' := Lib.hid (tk_take HT.out)
            rw [hb] at u0
            rw [ho] at n0
            clear HT hb ho
            generalize (nn ns i).name = s1 at *
            generalize (dn dqs d).name = s2 at *
            go_wp2_with fail
            go_quiet (fail)
            obtain ⟨v0, vf0⟩ := HU.out.v.one
            obtain ⟨w0, wf0⟩ := HU.out.w.one
            obtain ⟨cvx, hvx, rvx⟩ := HU.out.rv
            obtain ⟨cwx, hwx, rwx⟩ := HU.out.rw
            have y0 : wr.cell? ⟨bv, d * 5, none⟩ = some (fv d).2.1 := (hvx.cell _).trans (rvx.2 d hlt 0 (by omega))
            have y1 : wr.cell? ⟨bv, d * 5 + 1, none⟩ = some (.int .i64 (fv d).1.rest.num) := (hvx.cell _).trans (rvx.2 d hlt 1 (by omega))
            have y2 : wr.cell? ⟨bv, d * 5 + 2, none⟩ = some (.int .i64 (fv d).1.rest.den) := (hvx.cell _).trans (rvx.2 d hlt 2 (by omega))
            have y3 : wr.cell? ⟨bv, d * 5 + 3, none⟩ = some (fv d).2.2 := (hvx.cell _).trans (rvx.2 d hlt 3 (by omega))
            have y4 : wr.cell? ⟨bv, d * 5 + 4, none⟩ = some (.int .i64 (fv d).1.rest.rest) := (hvx.cell _).trans (rvx.2 d hlt 4 (by omega))
            have x0 : wr.cell? ⟨bw, d * 5, none⟩ = some (f d).2.1 := (hwx.cell _).trans (rwx.2 d hlt 0 (by omega))
            have x1 : wr.cell? ⟨bw, d * 5 + 1, none⟩ = some (.int .i64 (f d).1.rest.num) := (hwx.cell _).trans (rwx.2 d hlt 1 (by omega))
            have x2 : wr.cell? ⟨bw, d * 5 + 2, none⟩ = some (.int .i64 (f d).1.rest.den) := (hwx.cell _).trans (rwx.2 d hlt 2 (by omega))
            have x3 : wr.cell? ⟨bw, d * 5 + 3, none⟩ = some (f d).2.2 := (hwx.cell _).trans (rwx.2 d hlt 3 (by omega))
            have x4 : wr.cell? ⟨bw, d * 5 + 4, none⟩ = some (.int .i64 (f d).1.rest.rest) := (hwx.cell _).trans (rwx.2 d hlt 4 (by omega))
            have xf0 := hwx.frozen (d * 5)
            have xf1 := hwx.frozen (d * 5 + 1)
            have xf2 := hwx.frozen (d * 5 + 2)
            have xf3 := hwx.frozen (d * 5 + 3)
            have xf4 := hwx.frozen (d * 5 + 4)
            obtain ⟨Ar, cr, Ac, cc, e1, -, -, e4, -⟩ := HU.out.mv d hlt
            have HU3 := (HU.out.drew (nq + 1)).set hlt
            rw [e1] at y0
            rw [e4] at y3
            rw [e1, e4] at HU3
            have HU4 := Lib.hid HU3
            clear hvx rvx hwx rwx u0 n0 n4 d0 HU3 e1 e4
            go_wp2_with fail
            go_region
            all_goals
              go_wp2_with fail
              go_round
              case rel => exact ⟨i + 1, up f d (fv d), by omega, by go_num, HT', HU4⟩
              case measure => simp [intOf]; omega
          · have HT' := Lib.hid (tk_skip HT.out hall)
            clear HT
            by_cases hb : b i = true
            · rw [hb] at u0
              by_cases ho : (nn ns i).op = 9
              · rw [ho] at n0
                have ts : ((nn ns i).name.toList == (dn dqs d).name.toList) = false := by
                  cases e : ((nn ns i).name.toList == (dn dqs d).name.toList) with
                  | false => rfl
                  | true => exact absurd ⟨hb, ho, e⟩ hall
                clear hall hb ho
                generalize (nn ns i).name = s1 at *
                generalize (dn dqs d).name = s2 at *
                go_wp2_with fail
                go_quiet (fail)
                go_wp2_with fail
                go_round
                case rel => exact ⟨i + 1, f, by omega, by go_num, HT', Lib.hid (HU.out.drew nq)⟩
                case measure => simp [intOf]; omega
              · have tno : ((nn ns i).op == 9) = false := by simpa using ho
                clear hall hb ho
                generalize (nn ns i).op = op at *
                go_wp2_with fail
                go_quiet (fail)
                go_wp2_with fail
                go_round
                case rel => exact ⟨i + 1, f, by omega, by go_num, HT', Lib.hid (HU.out.drew nq)⟩
                case measure => simp [intOf]; omega
            · have hbf : b i = false := by simpa using hb
              rw [hbf] at u0
              clear hall hb hbf
              go_wp2_with fail
              go_quiet (fail)
              go_wp2_with fail
              go_round
              case rel => exact ⟨i + 1, f, by omega, by go_num, HT', Lib.hid (HU.out.drew nq)⟩
              case measure => simp [intOf]; omega
        · obtain rfl : i = nl := by omega
          have t4 : decide ((i : Int) < i) = false := by simp
          have HT' : Hid (Tk ns b fv fw f (d + 1) 0) := Lib.hid (tk_next (by rw [HNL.out]; exact HT.out))
          clear HT
          go_wp2_with fail
          go_round
          case rel => exact ⟨d + 1, f, by omega, by go_num, HT', HU⟩
          case measure => simp [intOf]; omega
    · obtain rfl : d = 14 := by omega
      have t3 : decide (((14 : Nat) : Int) < 14) = false := by decide
      obtain ⟨v0, -⟩ := HU.out.v.one
      obtain ⟨cvx, hvx, rvx⟩ := HU.out.rv
      obtain ⟨cwx, hwx, rwx⟩ := HU.out.rw
      have GF := Lib.hid (tk_good HT.out GDV.out GDW.out)
      have MSV := Lib.hid (rw_ms hvx rvx HU.out.mv)
      have MSW := Lib.hid (rw_ms hwx rwx HU.out.mw)
      have EQ := Lib.hid (XE.out (msF fv) (msF f) (msf_len _) (msf_len _) (msf_good GDV.out) (msf_good GF.out) (by
        have := tk_same HT.out (by rw [HNL.out]; exact BR.out) (by rw [HNL.out]; exact X9.out)
        rw [HNL.out] at this
        exact this))
      have H1 := Lib.hid (XH.out wr _ vc (msF fv) HU.out.b (msf_len _) hv1 hv2 MSV.out (msf_good GDV.out) (msf_wf GDV.out))
      have H2 := Lib.hid (fun (W : World) (k : Below wr.heap.size wr W) => XH.out W _ wc (msF f) (below_after HU.out.b k) (msf_len _) hw1 hw2 (MSW.out.below k) (msf_good GF.out) (msf_wf GF.out))
      have HA := Lib.hid HU.out.a
      have HW := Lib.hid HU.out.w
      have GG := Lib.hid (bw_below (Nat.le_refl _) G1.out HU.out.b)
      clear hvx rvx hwx rwx HU HT XE XH MSV MSW X9 BR GF GDV GDW HD HNS HNL
      generalize mvR dqs ns hs (msF fv) = r1 at *
      generalize mvR dqs ns hs (msF f) = r2 at *
      unfold HoldsQ at H1 H2
      generalize errC r1 = cx at *
      generalize errA r1 = ax at *
      generalize hoR r1 hs = bx at *
      generalize errC r2 = cy at *
      generalize errA r2 = ay at *
      generalize hoR r2 hs = by' at *
      obtain ⟨hcx, hcy, hbb⟩ := EQ.out
      clear EQ
      go_wp2_with fail
      refine H1.out.mono ?_
      rintro e w6 ⟨rfl, hb6⟩
      have BF := Lib.hid (below_after hb6 (new_below w6 (.cells #[.int .i64 cx, .int .i64 ax] 30)))
      have FX := Lib.hid (HB.new w6 30 #[.int .i64 cx, .int .i64 ax])
      have HA2 := Lib.hid (HA.out.below BF.out)
      have HW2 := Lib.hid (HW.out.below BF.out)
      have GG2 := Lib.hid (bw_below (Nat.le_refl _) GG.out BF.out)
      clear hb6 HA HW GG a0 a1 a2 v0
      obtain ⟨a0, a1, a2, -⟩ := HA2.out.three
      obtain ⟨w0, -⟩ := HW2.out.one
      have H3 := Lib.hid (H2.out _ BF.out)
      clear H2 H1
      go_wp2_with fail
      refine H3.out.mono ?_
      rintro e w7 ⟨rfl, hb7⟩
      have BF2 := Lib.hid (below_after hb7 (new_below w7 (.cells #[.int .i64 cy, .int .i64 ay] 30)))
      have FY := Lib.hid (HB.new w7 30 #[.int .i64 cy, .int .i64 ay])
      have FX2 := Lib.hid (FX.out.below BF2.out)
      have GG3 := Lib.hid (bw_below (Nat.le_refl _) GG2.out BF2.out)
      clear hb7 HA2 HW2 GG2 a0 a1 a2 w0 FX BF BF2 H3
      obtain ⟨x0, x1, -⟩ := FX2.out.two
      obtain ⟨y0, y1, -⟩ := FY.out.two
      rcases hcx with rfl | rfl <;> rcases hcy with rfl | rfl
      · obtain rfl := hbb rfl rfl
        cases bx
        all_goals
          go_wp2_with fail
          go_ret
          exact ⟨rfl, GG3.out⟩
      all_goals
        go_wp2_with fail
        go_ret
        exact ⟨rfl, GG3.out⟩
end Go.Proofs.YtcpeddogckillaaGreat
