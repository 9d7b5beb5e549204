/-
  The reference's value of a node: a name's meaning.
-/
import Derived.Test.YtaodebpogibimaaGreatRefK
import Derived.Test.YtaodebpogibimaaGreatRefQ
import Derived.Test.YtaodebpogibimaaGreatG11
import Derived.Test.YtaodebpogibimaaGreatG03
import Derived.Test.YtaodebpogibimaaGreatMeaV
namespace Go.Proofs.YtaodebpogibimaaGreat
open Go.RowKit

/-- Are the first arguments those of a row. -/
def sameN (zs : List Int) (kids : List Vl) : Nat → Bool
  | 0 => true
  | q + 1 => sameN zs kids q && (nth zs q == (vn kids q).num)
theorem sameN_iff {zs : List Int} {kids : List Vl} : ∀ {q : Nat}, sameN zs kids q = true ↔ ∀ j, j < q → nth zs j = (vn kids j).num := by
  intro q
  induction q with
  | zero => exact ⟨fun _ j h => absurd h (by omega), fun _ => rfl⟩
  | succ q ih =>
    rw [sameN, Bool.and_eq_true, ih, beq_iff_eq]
    constructor
    · rintro ⟨h1, h2⟩ j hj
      rcases Nat.lt_or_ge j q with z | z
      · exact h1 j z
      · obtain rfl : j = q := by omega
        exact h2
    · intro h
      exact ⟨fun j hj => h j (by omega), h q (by omega)⟩
theorem sameN_eq {zs : List Int} {kids : List Vl} (h : zs.length = kids.length) : eqA zs (numsOf kids) = sameN zs kids kids.length := by
  cases hs : sameN zs kids kids.length with
  | true => exact eqA_yes (by rw [numsOf_len, h]) (fun i hi => by rw [cn_nums]; exact sameN_iff.1 hs i (by omega))
  | false =>
    by_cases z : ∀ j, j < kids.length → nth zs j = (vn kids j).num
    · rw [sameN_iff.2 z] at hs; cases hs
    · have ⟨j, hj⟩ : ∃ j, ¬ (j < kids.length → nth zs j = (vn kids j).num) := Classical.not_forall.1 z
      have h1 : j < kids.length := Classical.byContradiction fun y => hj (fun x => absurd x y)
      exact eqA_no (i := j) (by omega) (by rw [numsOf_len]; exact h1) (by rw [cn_nums]; exact fun e => hj (fun _ => e))
/-- A name's meaning in a variable. -/
def MgQ (W1 : World) (x0 x1 x2 x3 x4 : Value) (s : Value) (W : World) : Prop := ∃ g, s = .pointer (some ⟨g, 0, none⟩) ∧ Hid (HB W g 49 #[x0, x1, x2, x3, x4]) ∧ Hid (Below W1.heap.size W1 W)
@[reducible] def SfV (a m n b o : Nat) (x0 x1 x2 x3 x4 x5 x6 x7 : Value) (W : World) : Prop := W.cell? ⟨m, 0, none⟩ = some x0 ∧ W.cell? ⟨a, 0, none⟩ = some x1 ∧ W.cell? ⟨n, 4, none⟩ = some x2 ∧ W.cell? ⟨b, o, none⟩ = some x3 ∧ W.cell? ⟨b, o + 1, none⟩ = some x4 ∧ W.cell? ⟨b, o + 2, none⟩ = some x5 ∧ W.cell? ⟨b, o + 3, none⟩ = some x6 ∧ W.cell? ⟨b, o + 4, none⟩ = some x7
set_option maxRecDepth 100000 in
set_option maxHeartbeats 8000000 in
theorem valueof_9 (qs : List Dc) (ms : List Mg) (Ad Am An Ah : Option Addr) (dc mc nl nc hl hc : Nat) (nk : Value) (N D sort : Int) (nm : ByteArray) (Av : Option Addr) (vc : Nat) (kids : List Vl) (hk : kids.length ≤ 1000) (k : Nat) (hkz : fdZ qs nm = (k : Int)) (hkm : k < ms.length) (hq : qs.length ≤ maxLen) (hr : (mn ms k).rows.length ≤ 1000) (hal : ∀ i, i < (mn ms k).rows.length → (en (mn ms k).rows i).args.length = kids.length)
    (w0 w : World) (hB0 : Below w0.heap.size w0 w) (hv : VsAt w Av kids) (hd : DsAt w Ad qs) (hms : MsAt w0 Am ms) :
    Calls Tryz.prog 18 #[.agg #[.slice Ad qs.length dc, .slice An nl nc, .slice Ah hl hc], .agg #[.slice Am ms.length mc], .agg #[.int .i64 9, nk, .int .i64 N, .int .i64 D, .string nm], .int .i64 sort, .slice Av kids.length vc] w (RvK (fun _ A _ => CsAt w0 A (tolF (mn ms k) (numsOf kids)).cells) (tolF (mn ms k) (numsOf kids)) w) := by
  have XD : Hid (∀ W, DsAt W Ad qs → Calls Tryz.prog 44 #[.slice Ad qs.length dc, .string nm] W fun e w' => e = .returned (.int .i64 k) ∧ W = w') := Lib.hid (fun W h => by rw [← hkz]; exact declof_any qs Ad dc nm hq W h)
  have HD := Lib.hid hd
  have HV := Lib.hid hv
  obtain ⟨bM, oM, rfl, lM, ⟨⟨Ar, cr, m0, lr, mr, HES⟩, m1, m2, m4, Ac, cc, m3, lc, mcc, HCS⟩⟩ := ms_at hms hkm
  have HE := Lib.hid HES
  have HC := Lib.hid HCS
  have HTN : Hid ((∀ j, j < (mn ms k).rows.length → eqA (en (mn ms k).rows j).args (numsOf kids) = false) → tolF (mn ms k) (numsOf kids) = (mn ms k).rest) := Lib.hid (fun h => tolF_none h)
  have HTS : Hid (∀ i, i < (mn ms k).rows.length → eqA (en (mn ms k).rows i).args (numsOf kids) = true → (∀ j, j < i → eqA (en (mn ms k).rows j).args (numsOf kids) = false) → tolF (mn ms k) (numsOf kids) = (en (mn ms k).rows i).too) := Lib.hid (fun i h1 h2 h3 => tolF_some h1 h2 h3)
  have HAL := Lib.hid hal
  have HSE : Hid (∀ i, i < (mn ms k).rows.length → eqA (en (mn ms k).rows i).args (numsOf kids) = sameN (en (mn ms k).rows i).args kids kids.length) := Lib.hid (fun i hi => sameN_eq (hal i hi))
  have hb := Lib.hid (And.intro lc mcc)
  clear hms HES HCS hkz hd hv hal lc mcc
  generalize hT : tolF (mn ms k) (numsOf kids) = T at *
  clear hT
  generalize (mn ms k).rows = es at *
  generalize (mn ms k).rest = rs at *
  generalize hL : kids.length = L at *
  have HL := Lib.hid hL
  clear hL
  generalize hrl : es.length = rl at *
  have HRL := Lib.hid hrl
  clear hrl
  have HM := Lib.hid (vo_new w (.slice Ad qs.length dc) (.slice An nl nc) (.slice Ah hl hc) (.slice (some ⟨bM, oM, none⟩) ms.length mc) nk 9 N D nm)
  unfold maxLen at hq
  unfold RvK
  have HP : Hid (∀ (A : Option Addr) (c : Nat) (W : World), T.cells.length ≤ c ∧ c ≤ maxLen → CsAt w0 A T.cells → Below w.heap.size w W → ∃ A' c', Ending.returned (.tuple #[.agg #[.int .i64 T.num, .int .i64 T.den, .slice A T.cells.length c, .int .i64 T.rest], .bool true]) = .returned (.tuple #[.agg #[.int .i64 T.num, .int .i64 T.den, .slice A' T.cells.length c', .int .i64 T.rest], .bool true]) ∧ T.cells.length ≤ c' ∧ c' ≤ maxLen ∧ CsAt w0 A' T.cells ∧ Below w.heap.size w W) := Lib.hid (fun A c W h1 h2 h3 => ⟨A, c, rfl, h1.1, h1.2, h2, h3⟩)
  generalize hql : qs.length = ql at *
  generalize ms.length = ml at *
  clear hql
  go_enter Tryz.func18, Tryz.ntmps18
  go_upto_region 2 with fail
  generalize hW1 : ((((w.alloc (.cells #[.slice Ad ql dc, .slice An nl nc, .slice Ah hl hc] 26)).alloc (.cells #[.slice (some ⟨bM, oM, none⟩) ml mc] 29)).alloc (.cells #[.int .i64 9, nk, .int .i64 N, .int .i64 D, .string nm] 56)).alloc (.cells #[.int .i64 0, .int .i64 0, .slice none 0 0, .int .i64 0] 47)) = W1 at *
  clear hW1
  obtain ⟨n10, n11, n12, n13, n14⟩ := HM.out.n.five
  obtain ⟨a10, a11, a12, -⟩ := HM.out.a.three
  have m10 := HM.out.m.cell 0
  simp only [List.getElem?_toArray, List.getElem?_cons_zero] at m10
  have g0 := ((below_after hB0 HM.out.b).cell (p := ⟨bM, oM + k * 5, none⟩) lM).trans m0
  have g1 := ((below_after hB0 HM.out.b).cell (p := ⟨bM, oM + k * 5 + 1, none⟩) lM).trans m1
  have g2 := ((below_after hB0 HM.out.b).cell (p := ⟨bM, oM + k * 5 + 2, none⟩) lM).trans m2
  have g3 := ((below_after hB0 HM.out.b).cell (p := ⟨bM, oM + k * 5 + 3, none⟩) lM).trans m3
  have g4 := ((below_after hB0 HM.out.b).cell (p := ⟨bM, oM + k * 5 + 4, none⟩) lM).trans m4
  generalize ht0 : rs.num = t0 at *
  have Ht0 := Lib.hid ht0
  clear ht0
  generalize ht1 : rs.den = t1 at *
  have Ht1 := Lib.hid ht1
  clear ht1
  generalize ht3 : rs.rest = t3 at *
  have Ht3 := Lib.hid ht3
  clear ht3
  generalize htl : rs.cells.length = tl at *
  have HTL := Lib.hid htl
  clear htl
  have lm1 := HM.out.m.lt
  have la1 := HM.out.a.lt
  have ln1 := HM.out.n.lt
  have lM1 : bM < W1.heap.size := Nat.lt_of_lt_of_le lM (below_after hB0 HM.out.b).size
  have lk : (k : Int) < ml := by omega
  have KG : Hid (∀ W, Below W1.heap.size W1 W → SfV w.heap.size (w.heap.size + 1) (w.heap.size + 1 + 1) bM (oM + k * 5) (.slice (some ⟨bM, oM, none⟩) ml mc) (.slice Ad ql dc) (.string nm) (.slice Ar rl cr) (.int .i64 t0) (.int .i64 t1) (.slice Ac tl cc) (.int .i64 t3) W) := Lib.hid (fun W k9 => ⟨(k9.cell (p := ⟨w.heap.size + 1, 0, none⟩) lm1).trans m10, (k9.cell (p := ⟨w.heap.size, 0, none⟩) la1).trans a10, (k9.cell (p := ⟨w.heap.size + 1 + 1, 4, none⟩) ln1).trans n14, (k9.cell (p := ⟨bM, oM + k * 5, none⟩) lM1).trans g0, (k9.cell (p := ⟨bM, oM + k * 5 + 1, none⟩) lM1).trans g1, (k9.cell (p := ⟨bM, oM + k * 5 + 2, none⟩) lM1).trans g2, (k9.cell (p := ⟨bM, oM + k * 5 + 3, none⟩) lM1).trans g3, (k9.cell (p := ⟨bM, oM + k * 5 + 4, none⟩) lM1).trans g4⟩)
  have XD1 : Hid (∀ W, Below W1.heap.size W1 W → Calls Tryz.prog 44 #[.slice Ad ql dc, .string nm] W fun e w' => e = .returned (.int .i64 k) ∧ W = w') := Lib.hid (fun W h => XD.out W (HD.out.below (below_after HM.out.b h)))
  clear a10 a11 a12 m10 n10 n11 n12 n13 n14 g0 g1 g2 g3 g4 m0 m1 m2 m3 m4 XD
  go_cut [12] (MgQ W1 (.slice Ar rl cr) (.int .i64 t0) (.int .i64 t1) (.slice Ac tl cc) (.int .i64 t3))
  case first =>
    go_region_held3 (fun W => SfV w.heap.size (w.heap.size + 1) (w.heap.size + 1 + 1) bM (oM + k * 5) (.slice (some ⟨bM, oM, none⟩) ml mc) (.slice Ad ql dc) (.string nm) (.slice Ar rl cr) (.int .i64 t0) (.int .i64 t1) (.slice Ac tl cc) (.int .i64 t3) W)
      ((first | (refine KG.out _ ?_; go_grown; done)))
      (first
        | (go_at_call 44; refine (XD1.out _ (by go_grown)).mono ?_; rintro e w5 ⟨rfl, rfl⟩))
    all_goals
      go_wp2_with fail
      go_meet
      case rel =>
        first
        | exact ⟨_, rfl, Lib.hid (HB.new _ _ _), Lib.hid (by go_grown)⟩
  case rest =>
    obtain ⟨g, rfl, HG0, HB9⟩ := hcut
    have HMc := Lib.hid (HM.out.below HB9.out)
    clear KG XD1 HM
    go_wp2_with fail
    go_loopw [13] (fun k wr => ∃ i : Nat, i ≤ rl ∧ k = .int .i64 i ∧ Hid (∀ j, j < i → eqA (en es j).args (numsOf kids) = false) ∧ Hid (VoM w (.slice Ad ql dc) (.slice An nl nc) (.slice Ah hl hc) (.slice (some ⟨bM, oM, none⟩) ml mc) nk 9 N D nm wr) ∧ Hid (HB wr g 49 #[.slice Ar rl cr, .int .i64 t0, .int .i64 t1, .slice Ac tl cc, .int .i64 t3])) (fun k _ => rl - (intOf k).toNat)
    case atStart => exact ⟨0, by omega, rfl, Lib.hid (fun j hj => absurd hj (by omega)), HMc, HG0⟩
    case round =>
      clear HMc HG0 HB9
      obtain ⟨i, hi, rfl, HN, HM, HG⟩ := hrel
      obtain ⟨g0, g1, g2, g3, g4⟩ := HG.out.five
      by_cases hlt : i < rl
      · have td3 : decide ((i : Int) < rl) = true := by simpa using hlt
        have l0 : (i : Int) < rl := by omega
        obtain ⟨bR, oR, rfl, lR, ⟨⟨Aa, ca, e0, la, ma, HIA⟩, e1, e2, e4, At, ct, e3, lt, mt, HCT⟩⟩ := es_at (i := i) HE.out (by rw [HRL.out]; exact hlt)
        have HA := Lib.hid HIA
        have HCt := Lib.hid HCT
        have hbt := Lib.hid (And.intro lt mt)
        have HSq := Lib.hid (HSE.out i hlt)
        have HTq := Lib.hid (HTS.out i hlt)
        have hla := HAL.out i hlt
        have HNQ : Hid (sameN (en es i).args kids L = false → ∀ j, j < i + 1 → eqA (en es j).args (numsOf kids) = false) := Lib.hid (fun hs j hj => by
          rcases Nat.lt_or_ge j i with z | z
          · exact HN.out j z
          · obtain rfl : j = i := by omega
            rw [HSq.out]
            exact hs)
        rw [hla] at e0
        clear HIA HCT lt mt
        generalize (en es i).args = zs at *
        generalize (en es i).too = too at *
        go_wp2_with fail
        obtain ⟨wo, hwo⟩ : ∃ wo, wo = wr := ⟨wr, rfl⟩
        subst hwo
        go_loopw [14, 15] (fun b k wr => ∃ q : Nat, q ≤ L ∧ k = .int .i64 q ∧ b = .bool (sameN zs kids q) ∧ Hid (VoM w (.slice Ad ql dc) (.slice An nl nc) (.slice Ah hl hc) (.slice (some ⟨bM, oM, none⟩) ml mc) nk 9 N D nm wr) ∧ Hid (HB wr g 49 #[.slice (some ⟨bR, oR, none⟩) rl cr, .int .i64 t0, .int .i64 t1, .slice Ac tl cc, .int .i64 t3])) (fun _ k _ => L - (intOf k).toNat)
        case atStart => exact ⟨0, by omega, rfl, rfl, HM, HG⟩
        case round =>
          clear HM HG g0 g1 g2 g3 g4
          obtain ⟨q, hq9, rfl, rfl, HM, HG⟩ := hrel
          obtain ⟨g0, g1, g2, g3, g4⟩ := HG.out.five
          by_cases hql : q < L
          · have t5 : decide ((q : Int) < L) = true := by simpa using hql
            have l1 : (q : Int) < L := by omega
            have e0' := ((below_after hB0 HM.out.b).cell (p := ⟨bR, oR + i * 5, none⟩) lR).trans e0
            obtain ⟨bA, oA, rfl, lA, a0⟩ := is_at (i := q) (HA.out.below (below_after hB0 HM.out.b)) (by rw [hla]; exact hql)
            obtain ⟨bK, oK, rfl, lK, c0, -⟩ := vs_at (i := q) (HV.out.below HM.out.b) (by rw [HL.out]; exact hql)
            simp only [Nat.add_zero] at c0
            have HSN : Hid (sameN zs kids (q + 1) = (sameN zs kids q && (nth zs q == (vn kids q).num))) := Lib.hid rfl
            generalize nth zs q = y1 at *
            generalize (vn kids q).num = y2 at *
            cases hb0 : sameN zs kids q with
            | false =>
              have HS1 : Hid (sameN zs kids (q + 1) = false) := Lib.hid (by rw [HSN.out, hb0]; rfl)
              clear HSN hb0
              go_wp2_with fail
              go_quiet (fail)
              go_wp2_with fail
              go_round
              case rel => exact ⟨q + 1, by omega, by go_num, by rw [HS1.out], Lib.hid (HM.out.below (below_dn (Below.refl _ _) _)), Lib.hid (HG.out.below (below_dn (Below.refl _ _) _))⟩
              case measure => simp [intOf]; omega
            | true =>
              have HS1 : Hid (sameN zs kids (q + 1) = (y1 == y2)) := Lib.hid (by rw [HSN.out, hb0, Bool.true_and])
              clear HSN hb0
              go_wp2_with fail
              go_quiet (fail)
              go_wp2_with fail
              go_round
              case rel => exact ⟨q + 1, by omega, by go_num, by rw [HS1.out], Lib.hid (HM.out.below (below_dn (Below.refl _ _) _)), Lib.hid (HG.out.below (below_dn (Below.refl _ _) _))⟩
              case measure => simp [intOf]; omega
          · obtain rfl : q = L := by omega
            have t5 : decide ((q : Int) < q) = false := by simp
            cases hsn : sameN zs kids q with
            | false =>
              have HNN : Hid (∀ j, j < i + 1 → eqA (en es j).args (numsOf kids) = false) := Lib.hid (HNQ.out hsn)
              clear hsn
              go_wp2_with fail
              go_round
              case rel => exact ⟨i + 1, by omega, by go_num, HNN, HM, HG⟩
              case measure => simp [intOf]; omega
            | true =>
              have HTT : Hid (T = too) := Lib.hid (HTq.out (by rw [HSq.out]; exact hsn) HN.out)
              clear hsn
              have e1' := ((below_after hB0 HM.out.b).cell (p := ⟨bR, oR + i * 5 + 1, none⟩) lR).trans e1
              have e2' := ((below_after hB0 HM.out.b).cell (p := ⟨bR, oR + i * 5 + 2, none⟩) lR).trans e2
              have e3' := ((below_after hB0 HM.out.b).cell (p := ⟨bR, oR + i * 5 + 3, none⟩) lR).trans e3
              have e4' := ((below_after hB0 HM.out.b).cell (p := ⟨bR, oR + i * 5 + 4, none⟩) lR).trans e4
              rw [← HTT.out] at e1' e2' e3' e4' HCt hbt
              obtain ⟨r0, r1, r2, r3, y0, y1, y2, y3⟩ := HM.out.r.four
              have P := vo_res HM.out (.int .i64 T.num) (.int .i64 T.den) (.slice At T.cells.length ct) (.int .i64 T.rest)
              obtain ⟨z0, z1, z2, z3, -⟩ := P.1.four
              have FIN := Lib.hid P.2
              clear P
              go_wp2_with fail
              have POST := Lib.hid (HP.out At ct _ hbt.out HCt.out FIN.out)
              exact bodyPost_ret (v := .tuple #[.agg #[.int .i64 T.num, .int .i64 T.den, .slice At T.cells.length ct, .int .i64 T.rest], .bool true]) (by simp [results, Tryz.results18, go_sem, z0, z1, z2, z3]) rfl POST.out
      · obtain rfl : i = rl := by omega
        have td3 : decide ((i : Int) < i) = false := by simp
        have HTT : Hid (T = rs) := Lib.hid (HTN.out HN.out)
        rw [← HTL.out, ← HTT.out] at g3 hb
        rw [← Ht0.out, ← HTT.out] at g1
        rw [← Ht1.out, ← HTT.out] at g2
        rw [← Ht3.out, ← HTT.out] at g4
        rw [← HTT.out] at HC
        obtain ⟨r0, r1, r2, r3, y0, y1, y2, y3⟩ := HM.out.r.four
        have P := vo_res HM.out (.int .i64 T.num) (.int .i64 T.den) (.slice Ac T.cells.length cc) (.int .i64 T.rest)
        obtain ⟨z0, z1, z2, z3, -⟩ := P.1.four
        have FIN := Lib.hid P.2
        clear P
        go_wp2_with fail
        have POST := Lib.hid (HP.out Ac cc _ hb.out HC.out FIN.out)
        exact bodyPost_ret (v := .tuple #[.agg #[.int .i64 T.num, .int .i64 T.den, .slice Ac T.cells.length cc, .int .i64 T.rest], .bool true]) (by simp [results, Tryz.results18, go_sem, z0, z1, z2, z3]) rfl POST.out
end Go.Proofs.YtaodebpogibimaaGreat
