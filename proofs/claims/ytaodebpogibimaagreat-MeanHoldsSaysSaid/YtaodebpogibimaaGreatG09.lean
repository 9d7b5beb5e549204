/-
  The reference's value of a node: numbers and words that are written out.
  Values of nodes: where an array's cell is; what an array maps a thing to.
  Worlds, by the reference: values, rows that are the same.
  The reference: a cell of an array, the order of two fractions, lowest terms.
-/
import Derived.Test.YtaodebpogibimaaGreatRefK
import Derived.Test.YtaodebpogibimaaGreatMeaV
import Derived.Test.YtaodebpogibimaaGreatG01
import Derived.Test.YtaodebpogibimaaGreatG04
namespace Go.Proofs.YtaodebpogibimaaGreat
open Go.RowKit

set_option maxRecDepth 100000 in
set_option maxHeartbeats 8000000 in
theorem valueof_10 (sa sn sh sm nk : Value) (N D sort : Int) (nm : ByteArray) (Av : Option Addr) (vc : Nat) (kids : List Vl) (hk : kids.length ≤ 1000) (w : World) (hv : VsAt w Av kids) :
    Calls Tryz.prog 18 #[.agg #[sa, sn, sh], .agg #[sm], .agg #[.int .i64 10, nk, .int .i64 N, .int .i64 D, .string nm], .int .i64 sort, .slice Av kids.length vc] w fun e w' => e = .returned (.tuple #[.agg #[.int .i64 N, .int .i64 D, .slice none 0 0, .int .i64 0], .bool true]) ∧ Below w.heap.size w w' := by
  have HM := Lib.hid (vo_new w sa sn sh sm nk 10 N D nm)
  have HV := Lib.hid hv
  have HY := Lib.hid (fun i (h : i < kids.length) => yesN_step h)
  have HYL := Lib.hid (fun i => yesN_le kids i)
  have HY0 : Hid (yesN kids 0 = 0) := Lib.hid (by simp [yesN])
  clear hv
  generalize yesN kids = Y at *
  generalize hL : kids.length = L at *
  have HL := Lib.hid hL
  clear hL
  go_enter Tryz.func18, Tryz.ntmps18
  go_wp2_with fail
  go_loopw [16, 17] (fun y k wr => ∃ i : Nat, i ≤ L ∧ k = .int .i64 i ∧ y = .int .i64 (Y i) ∧ Hid (VoM w sa sn sh sm nk 10 N D nm wr)) (fun _ k _ => L - (intOf k).toNat)
  case atStart => exact ⟨0, by omega, rfl, by rw [HY0.out]; rfl, HM⟩
  case round =>
    clear HM
    obtain ⟨i, hi, rfl, rfl, HM⟩ := hrel
    by_cases hlt : i < L
    · have t3 : decide ((i : Int) < L) = true := by simpa using hlt
      have l0 : (i : Int) < L := by omega
      obtain ⟨b, o, rfl, lb, a0, -⟩ := vs_at (i := i) (HV.out.below HM.out.b) (by rw [HL.out]; exact hlt)
      simp only [Nat.add_zero] at a0
      have HS := Lib.hid (HY.out i hlt)
      have hyl := HYL.out i
      by_cases hn : (vn kids i).num = 1
      · have HS2 : Hid (Y (i + 1) = Y i + 1) := Lib.hid (by rw [HS.out, if_pos hn])
        rw [hn] at a0
        clear hn
        go_wp2_with fail
        go_round
        case rel => exact ⟨i + 1, by omega, by go_num, by rw [HS2.out]; go_num, HM⟩
        case measure => simp [intOf]; omega
      · have HS2 : Hid (Y (i + 1) = Y i) := Lib.hid (by rw [HS.out, if_neg hn])
        have tn : ((vn kids i).num == 1) = false := by simpa using hn
        clear hn
        generalize (vn kids i).num = q at *
        go_wp2_with fail
        go_round
        case rel => exact ⟨i + 1, by omega, by go_num, by rw [HS2.out], HM⟩
        case measure => simp [intOf]; omega
    · obtain rfl : i = L := by omega
      have t3 : decide ((i : Int) < i) = false := by simp
      obtain ⟨n0, n1, n2, n3, n4⟩ := HM.out.n.five
      obtain ⟨r0, r1, r2, r3, y0, y1, y2, y3⟩ := HM.out.r.four
      have M2 := HM
      have P := vo_res M2.out (.int .i64 N) (.int .i64 D) (.slice none 0 0) (.int .i64 0)
      obtain ⟨z0, z1, z2, z3, -⟩ := P.1.four
      have FIN := Lib.hid P.2
      clear P
      go_wp2_with fail
      exact bodyPost_ret (v := .tuple #[.agg #[(.int .i64 N), (.int .i64 D), (.slice none 0 0), (.int .i64 0)], .bool true]) (by simp [results, Tryz.results18, go_sem, z0, z1, z2, z3]) rfl ⟨rfl, FIN.out⟩
set_option maxRecDepth 100000 in
set_option maxHeartbeats 8000000 in
theorem valueof_15 (sa sn sh sm nk : Value) (N D sort : Int) (nm : ByteArray) (Av : Option Addr) (vc : Nat) (kids : List Vl) (hk : kids.length ≤ 1000) (w : World) (hv : VsAt w Av kids) :
    Calls Tryz.prog 18 #[.agg #[sa, sn, sh], .agg #[sm], .agg #[.int .i64 15, nk, .int .i64 N, .int .i64 D, .string nm], .int .i64 sort, .slice Av kids.length vc] w fun e w' => e = .returned (.tuple #[.agg #[.int .i64 N, .int .i64 1, .slice none 0 0, .int .i64 0], .bool true]) ∧ Below w.heap.size w w' := by
  have HM := Lib.hid (vo_new w sa sn sh sm nk 15 N D nm)
  have HV := Lib.hid hv
  have HY := Lib.hid (fun i (h : i < kids.length) => yesN_step h)
  have HYL := Lib.hid (fun i => yesN_le kids i)
  have HY0 : Hid (yesN kids 0 = 0) := Lib.hid (by simp [yesN])
  clear hv
  generalize yesN kids = Y at *
  generalize hL : kids.length = L at *
  have HL := Lib.hid hL
  clear hL
  go_enter Tryz.func18, Tryz.ntmps18
  go_wp2_with fail
  go_loopw [16, 17] (fun y k wr => ∃ i : Nat, i ≤ L ∧ k = .int .i64 i ∧ y = .int .i64 (Y i) ∧ Hid (VoM w sa sn sh sm nk 15 N D nm wr)) (fun _ k _ => L - (intOf k).toNat)
  case atStart => exact ⟨0, by omega, rfl, by rw [HY0.out]; rfl, HM⟩
  case round =>
    clear HM
    obtain ⟨i, hi, rfl, rfl, HM⟩ := hrel
    by_cases hlt : i < L
    · have t3 : decide ((i : Int) < L) = true := by simpa using hlt
      have l0 : (i : Int) < L := by omega
      obtain ⟨b, o, rfl, lb, a0, -⟩ := vs_at (i := i) (HV.out.below HM.out.b) (by rw [HL.out]; exact hlt)
      simp only [Nat.add_zero] at a0
      have HS := Lib.hid (HY.out i hlt)
      have hyl := HYL.out i
      by_cases hn : (vn kids i).num = 1
      · have HS2 : Hid (Y (i + 1) = Y i + 1) := Lib.hid (by rw [HS.out, if_pos hn])
        rw [hn] at a0
        clear hn
        go_wp2_with fail
        go_round
        case rel => exact ⟨i + 1, by omega, by go_num, by rw [HS2.out]; go_num, HM⟩
        case measure => simp [intOf]; omega
      · have HS2 : Hid (Y (i + 1) = Y i) := Lib.hid (by rw [HS.out, if_neg hn])
        have tn : ((vn kids i).num == 1) = false := by simpa using hn
        clear hn
        generalize (vn kids i).num = q at *
        go_wp2_with fail
        go_round
        case rel => exact ⟨i + 1, by omega, by go_num, by rw [HS2.out], HM⟩
        case measure => simp [intOf]; omega
    · obtain rfl : i = L := by omega
      have t3 : decide ((i : Int) < i) = false := by simp
      obtain ⟨n0, n1, n2, n3, n4⟩ := HM.out.n.five
      go_wp2_with fail
      refine (wholevalue_any N _).mono ?_
      rintro e w2 ⟨rfl, hb⟩
      have M2 := Lib.hid (HM.out.below hb)
      obtain ⟨r0, r1, r2, r3, y0, y1, y2, y3⟩ := M2.out.r.four
      clear hb n0 n1 n2 n3 n4
      have P := vo_res M2.out (.int .i64 N) (.int .i64 1) (.slice none 0 0) (.int .i64 0)
      obtain ⟨z0, z1, z2, z3, -⟩ := P.1.four
      have FIN := Lib.hid P.2
      clear P
      go_wp2_with fail
      exact bodyPost_ret (v := .tuple #[.agg #[(.int .i64 N), (.int .i64 1), (.slice none 0 0), (.int .i64 0)], .bool true]) (by simp [results, Tryz.results18, go_sem, z0, z1, z2, z3]) rfl ⟨rfl, FIN.out⟩
end Go.Proofs.YtaodebpogibimaaGreat
namespace Go.Proofs.YtaodebpogibimaaGreat
open Go.RowKit

/-- Comparing whole numbers. -/
def cmp3 (a b : Int) : Int := if a < b then -1 else if b < a then 1 else 0
theorem isnan_any (a : Int) (w : World) : Calls Tryz.prog 127 #[.int .i64 a] w fun e w' => e = .returned (.bool false) ∧ w' = w := by
  go_enter Tryz.func127, Tryz.ntmps127
  go_wp2_with fail
  go_ret
  exact ⟨by simp, rfl⟩
set_option maxHeartbeats 1000000 in
theorem cmp_any (a b : Int) (w : World) : Calls Tryz.prog 115 #[.int .i64 a, .int .i64 b] w fun e w' => e = .returned (.int .i64 (cmp3 a b)) ∧ w' = w := by
  have HN := Lib.hid isnan_any
  by_cases h1 : a < b
  · have t1 : decide (a < b) = true := by simpa using h1
    rw [show cmp3 a b = -1 by unfold cmp3; rw [if_pos h1]]
    clear h1
    go_enter Tryz.func115, Tryz.ntmps115
    go_wp2_with fail
    refine (HN.out _ _).mono ?_
    rintro e w1 ⟨rfl, rfl⟩
    go_wp2_with fail
    refine (HN.out _ _).mono ?_
    rintro e w1 ⟨rfl, rfl⟩
    go_wp2_with fail
    go_ret
    exact ⟨rfl, rfl⟩
  · have t1 : decide (a < b) = false := by simpa using h1
    by_cases h2 : b < a
    · have t2 : decide (b < a) = true := by simpa using h2
      rw [show cmp3 a b = 1 by unfold cmp3; rw [if_neg h1, if_pos h2]]
      clear h1 h2
      go_enter Tryz.func115, Tryz.ntmps115
      go_wp2_with fail
      refine (HN.out _ _).mono ?_
      rintro e w1 ⟨rfl, rfl⟩
      go_wp2_with fail
      refine (HN.out _ _).mono ?_
      rintro e w1 ⟨rfl, rfl⟩
      go_wp2_with fail
      go_ret
      exact ⟨rfl, rfl⟩
    · have t2 : decide (b < a) = false := by simpa using h2
      rw [show cmp3 a b = 0 by unfold cmp3; rw [if_neg h1, if_neg h2]]
      clear h1 h2
      go_enter Tryz.func115, Tryz.ntmps115
      go_wp2_with fail
      refine (HN.out _ _).mono ?_
      rintro e w1 ⟨rfl, rfl⟩
      go_wp2_with fail
      refine (HN.out _ _).mono ?_
      rintro e w1 ⟨rfl, rfl⟩
      go_wp2_with fail
      go_ret
      exact ⟨rfl, rfl⟩
theorem find1_any (a i t : Int) (w : World) : Calls Tryz.prog 114 #[.agg #[.int .i64 a, .int .i64 i], .int .i64 t] w fun e w' => e = .returned (.int .i64 (cmp3 a t)) ∧ Below w.heap.size w w' := by
  go_enter Tryz.func114, Tryz.ntmps114
  go_wp2_with fail
  refine (cmp_any _ _ _).mono ?_
  rintro e w1 ⟨rfl, rfl⟩
  go_wp2_with fail
  go_ret
  exact ⟨rfl, by go_grown⟩
/-- Cells in order. -/
def Srt (cs : List (Int × Int)) : Prop := ∀ i j, i < j → j < cs.length → (cn cs i).1 < (cn cs j).1
/-- Where the cell of a thing is, or would be. -/
def AtI (cs : List (Int × Int)) (t : Int) (i : Nat) : Prop := i ≤ cs.length ∧ (∀ k, k < i → (cn cs k).1 < t) ∧ ∀ k, i ≤ k → k < cs.length → t ≤ (cn cs k).1
theorem cmp3_lt {a b : Int} (h : a < b) : decide (cmp3 a b < 0) = true := by unfold cmp3; rw [if_pos h]; rfl
theorem cmp3_ge {a b : Int} (h : b ≤ a) : decide (cmp3 a b < 0) = false := by
  unfold cmp3
  rw [if_neg (by omega)]
  split <;> rfl
theorem cmp3_eq (a b : Int) (h : b ≤ a) : (cmp3 a b == 0) = (a == b) := by
  unfold cmp3
  rw [if_neg (by omega)]
  by_cases z : b < a
  · rw [if_pos z, show (a == b) = false by rw [beq_eq_false_iff_ne]; omega]; rfl
  · rw [if_neg z, show (a == b) = true by rw [beq_iff_eq]; omega]; rfl
theorem half_eq (i j : Nat) (_h : i + j ≤ 4611686018427387904) : ((i : Int) + j) / 2 = ((i + j) / 2 : Nat) := by omega
set_option maxRecDepth 100000 in
set_option maxHeartbeats 4000000 in
theorem bsearch_any (cs : List (Int × Int)) (A : Option Addr) (c : Nat) (t : Int) (hl : cs.length ≤ 2000) (hs : Srt cs) (w : World) (h : CsAt w A cs) :
    Calls Tryz.prog 113 #[.slice A cs.length c, .int .i64 t, .func (.func 114) #[] #[]] w fun e w' => ∃ i : Nat, e = .returned (.tuple #[.int .i64 i, .bool (decide (i < cs.length) && (cn cs i).1 == t)]) ∧ Hid (AtI cs t i) ∧ Below w.heap.size w w' := by
  have HA := Lib.hid h
  have HF := Lib.hid find1_any
  have HS := Lib.hid hs
  generalize hL : cs.length = L at *
  have HL := Lib.hid hL
  clear h hs hL
  go_enter Tryz.func113, Tryz.ntmps113
  go_wp2_with fail
  go_loopw [9, 10, 11] (fun i j _ wr => ∃ (i' j' : Nat), i = .int .i64 i' ∧ j = .int .i64 j' ∧ i' ≤ j' ∧ j' ≤ L ∧ Hid (∀ k, k < i' → (cn cs k).1 < t) ∧ Hid (∀ k, j' ≤ k → k < L → t ≤ (cn cs k).1) ∧ Hid (Below w.heap.size w wr)) (fun i j _ _ => (intOf j).toNat - (intOf i).toNat)
  case atStart => exact ⟨0, L, rfl, rfl, by omega, Nat.le_refl _, Lib.hid (fun k hk => absurd hk (by omega)), Lib.hid (fun k h1 h2 => absurd h2 (by omega)), Lib.hid (Below.refl _ _)⟩
  case round =>
    obtain ⟨i, j, rfl, rfl, hij, hj, HLo, HHi, HB1⟩ := hrel
    by_cases hlt : i < j
    · have t3 : decide ((i : Int) < j) = true := by simpa using hlt
      obtain ⟨hh, hhd⟩ : ∃ hh : Nat, (i + j) / 2 = hh := ⟨_, rfl⟩
      have h1 : i ≤ hh := by omega
      have h2 : hh < j := by omega
      have e0 : IntKind.i64.wrap ((i : Int) + j) = (i : Int) + j := IntWalk.i64_in _ (by omega)
      have e1 : IntKind.u64.wrap ((i : Int) + j) = (i : Int) + j := IntWalk.u64_in _ (by omega)
      have e2 : ((i : Int) + j) / 2 = hh := by rw [half_eq i j (by omega), hhd]
      have e3 : IntKind.i64.wrap (hh : Int) = hh := IntWalk.i64_in _ (by omega)
      clear hhd
      obtain ⟨b, o, rfl, hb, c0, c1⟩ := cs_at (i := hh) (HA.out.below HB1.out) (by rw [HL.out]; omega)
      have l1 : (hh : Int) < L := by omega
      have l2 : hh < L := by omega
      go_wp2_with fail
      refine (HF.out _ _ _ _).mono ?_
      rintro e w1 ⟨rfl, hb1⟩
      have G1 : Hid (Below w.heap.size w w1) := Lib.hid (bw_below (Nat.le_refl _) HB1.out hb1)
      clear hb1 c0 c1
      by_cases hc : (cn cs hh).1 < t
      · have t5 := cmp3_lt hc
        have HLo2 : Hid (∀ k, k < hh + 1 → (cn cs k).1 < t) := Lib.hid (fun k hk => by
          rcases Nat.lt_or_ge k hh with y | y
          · have := HS.out k hh y (by rw [HL.out]; exact l2)
            omega
          · obtain rfl : k = hh := by omega
            exact hc)
        clear hc
        generalize cmp3 (cn cs hh).1 t = z at *
        go_wp2_with fail
        go_round
        case rel => exact ⟨hh + 1, j, by go_num, rfl, by omega, hj, HLo2, HHi, G1⟩
        case measure => simp [intOf]; omega
      · have t5 := cmp3_ge (Int.not_lt.1 hc)
        have HHi2 : Hid (∀ k, hh ≤ k → k < L → t ≤ (cn cs k).1) := Lib.hid (fun k h1 h2 => by
          rcases Nat.lt_or_ge hh k with y | y
          · have := HS.out hh k y (by rw [HL.out]; exact h2)
            omega
          · obtain rfl : k = hh := by omega
            omega)
        clear hc
        generalize cmp3 (cn cs hh).1 t = z at *
        go_wp2_with fail
        go_round
        case rel => exact ⟨i, hh, rfl, rfl, h1, by omega, HLo, HHi2, G1⟩
        case measure => simp [intOf]; omega
    · obtain rfl : i = j := by omega
      have t3 : decide ((i : Int) < i) = false := by simp
      have HAT : Hid (AtI cs t i) := Lib.hid ⟨by rw [HL.out]; exact hj, HLo.out, fun k h1 h2 => HHi.out k h1 (by rw [← HL.out]; exact h2)⟩
      by_cases hil : i < L
      · have t4 : decide ((i : Int) < L) = true := by simpa using hil
        obtain ⟨b, o, rfl, hb, c0, c1⟩ := cs_at (i := i) (HA.out.below HB1.out) (by rw [HL.out]; exact hil)
        have l1 : (i : Int) < L := by omega
        have EQ := Lib.hid (cmp3_eq _ _ (HHi.out i (Nat.le_refl _) hil))
        have DI : Hid (decide (i < L) = true) := Lib.hid (by simpa using hil)
        go_wp2_with fail
        refine (HF.out _ _ _ _).mono ?_
        rintro e w1 ⟨rfl, hb1⟩
        have G1 : Hid (Below w.heap.size w w1) := Lib.hid (bw_below (Nat.le_refl _) HB1.out hb1)
        clear hb1 c0 c1
        generalize cmp3 (cn cs i).1 t = z at *
        go_wp2_with fail
        exact bodyPost_ret (v := .tuple #[.int .i64 i, .bool (z == 0)]) (by simp [results, Tryz.results113, go_sem]) rfl ⟨i, by rw [DI.out, ← EQ.out]; rfl, HAT, G1.out⟩
      · obtain rfl : i = L := by omega
        have t4 : decide ((i : Int) < i) = false := by simp
        go_wp2_with fail
        exact bodyPost_ret (v := .tuple #[.int .i64 i, .bool false]) (by simp [results, Tryz.results113, go_sem]) rfl ⟨i, by simp, HAT, HB1.out⟩
set_option maxHeartbeats 1000000 in
theorem find_any (cs : List (Int × Int)) (A : Option Addr) (c : Nat) (t : Int) (hl : cs.length ≤ 2000) (hs : Srt cs) (w : World) (h : CsAt w A cs) :
    Calls Tryz.prog 82 #[.slice A cs.length c, .int .i64 t] w fun e w' => ∃ i : Nat, e = .returned (.tuple #[.int .i64 i, .bool (decide (i < cs.length) && (cn cs i).1 == t)]) ∧ Hid (AtI cs t i) ∧ Below w.heap.size w w' := by
  have HX := Lib.hid (bsearch_any cs A c t hl hs w h)
  clear hs h hl
  go_enter Tryz.func82, Tryz.ntmps82
  go_wp2_with fail
  refine HX.out.mono ?_
  rintro e w1 ⟨i, rfl, ha, hb⟩
  have HB1 := Lib.hid hb
  clear hb
  go_wp2_with fail
  exact bodyPost_ret (v := .tuple #[.int .i64 i, .bool (decide (i < cs.length) && (cn cs i).1 == t)]) (by simp [results, Tryz.results82, go_sem]) rfl ⟨i, rfl, ha, HB1.out⟩
/-- What an array maps a thing to. -/
def getF (v : Vl) (t : Int) : Int := match v.cells.find? (fun c => c.1 == t) with | some c => c.2 | none => v.rest
theorem getF_at {v : Vl} {t : Int} {i : Nat} (h : AtI v.cells t i) (hs : Srt v.cells) : getF v t = if (decide (i < v.cells.length) && (cn v.cells i).1 == t) = true then (cn v.cells i).2 else v.rest := by
  obtain ⟨h1, h2, h3⟩ := h
  have e1 : ∀ j (hj : j < v.cells.length), v.cells[j] = cn v.cells j := fun j hj => (cn_of hj).symm
  unfold getF
  by_cases z : i < v.cells.length ∧ (cn v.cells i).1 = t
  · have e : v.cells.find? (fun c => c.1 == t) = some (cn v.cells i) := by
      rw [List.find?_eq_some_iff_getElem]
      exact ⟨by simpa using z.2, i, z.1, e1 i z.1, fun j hj => by
        rw [e1 j (by omega)]
        have := h2 j hj
        simp
        omega⟩
    rw [e, if_pos (by simpa using z)]
  · have e : v.cells.find? (fun c => c.1 == t) = none := by
      rw [List.find?_eq_none]
      intro x hx
      obtain ⟨j, hj, rfl⟩ := List.getElem_of_mem hx
      rw [e1 j hj]
      rcases Nat.lt_or_ge j i with y | y
      · have := h2 j y
        simp
        omega
      · have a := h3 j y hj
        rcases Nat.lt_or_ge i j with y2 | y2
        · have b := hs i j y2 hj
          have c := h3 i (Nat.le_refl _) (by omega)
          simp
          omega
        · obtain rfl : j = i := by omega
          simp
          intro q
          exact z ⟨hj, q⟩
    rw [e, if_neg (by simpa using z)]
set_option maxHeartbeats 1000000 in
theorem get_any (v : Vl) (A : Option Addr) (c : Nat) (t : Int) (hl : v.cells.length ≤ 2000) (hs : Srt v.cells) (w : World) (h : CsAt w A v.cells) :
    Calls Tryz.prog 36 #[.agg #[.int .i64 v.num, .int .i64 v.den, .slice A v.cells.length c, .int .i64 v.rest], .int .i64 t] w fun e w' => e = .returned (.int .i64 (getF v t)) ∧ Below w.heap.size w w' := by
  have BX : Hid (Below w.heap.size w (w.alloc (.cells #[.int .i64 v.num, .int .i64 v.den, .slice A v.cells.length c, .int .i64 v.rest] 47))) := Lib.hid (new_below _ _)
  have HV := Lib.hid (HB.new w 47 #[.int .i64 v.num, .int .i64 v.den, .slice A v.cells.length c, .int .i64 v.rest])
  have HX := Lib.hid (find_any v.cells A c t hl hs _ (h.below BX.out))
  have HA := Lib.hid h
  have HG : Hid (∀ i, AtI v.cells t i → getF v t = if (decide (i < v.cells.length) && (cn v.cells i).1 == t) = true then (cn v.cells i).2 else v.rest) := Lib.hid (fun i hi => getF_at hi hs)
  generalize getF v t = r at *
  clear hs h
  go_enter Tryz.func36, Tryz.ntmps36
  go_wp2_with fail
  refine HX.out.mono ?_
  rintro e w1 ⟨i, rfl, ha, hb⟩
  have G1 : Hid (Below w.heap.size w w1) := Lib.hid (below_after BX.out hb)
  have V1 := Lib.hid (HV.out.below hb)
  have HR := HG.out i ha.out
  clear hb ha
  obtain ⟨v0, v1, v2, v3, -⟩ := V1.out.four
  cases hq : (decide (i < v.cells.length) && (cn v.cells i).1 == t) with
  | true =>
    rw [hq, if_pos rfl] at HR
    have hi : i < v.cells.length := by
      rw [Bool.and_eq_true] at hq
      simpa using hq.1
    obtain ⟨b, o, rfl, hbl, c0, c1⟩ := cs_at (i := i) (HA.out.below G1.out) hi
    have l1 : (i : Int) < v.cells.length := by omega
    subst HR
    clear hq
    generalize v.cells.length = L at *
    go_wp2_with fail
    go_ret
    exact ⟨rfl, G1.out⟩
  | false =>
    rw [hq, if_neg (by decide)] at HR
    subst HR
    clear hq
    go_wp2_with fail
    go_ret
    exact ⟨rfl, G1.out⟩
end Go.Proofs.YtaodebpogibimaaGreat
namespace Go.Proofs.YtaodebpogibimaaGreat
open Go.RowKit

theorem isthingR_any (z : Int) (w : World) : Calls Tryz.prog 86 #[.int .i64 z] w fun e w' => e = .returned (.bool (!nTh z)) ∧ w' = w := by
  by_cases h1 : 0 ≤ z
  · have d1 : decide (0 ≤ z) = true := by simpa using h1
    have HE : Hid ((!nTh z) = decide (z ≤ 1000)) := Lib.hid (by unfold nTh; rw [Bool.eq_iff_iff]; simp; omega)
    clear h1
    go_enter Tryz.func86, Tryz.ntmps86
    go_wp2_with fail
    go_ret
    exact ⟨by rw [HE.out]; rfl, rfl⟩
  · have d1 : decide (0 ≤ z) = false := by simpa using h1
    have HE : Hid ((!nTh z) = false) := Lib.hid (by unfold nTh; simp; omega)
    clear h1
    go_enter Tryz.func86, Tryz.ntmps86
    go_wp2_with fail
    go_ret
    exact ⟨by rw [HE.out]; rfl, rfl⟩
set_option maxHeartbeats 1000000 in
theorem gcdR_big (n d : Int) (h1 : -1073741824 ≤ n) (h2 : n ≤ 1073741824) (h3 : 1 ≤ d) (h4 : d ≤ 1073741824) (w : World) :
    Calls Tryz.prog 91 #[.int .i64 n, .int .i64 d] w fun e w' => e = .returned (.int .i64 (Nat.gcd (mag n) (mag d) : Nat)) ∧ ∃ m, w' = w.drewN m := by
  go_enter Tryz.func91, Tryz.ntmps91
  go_wp2_with fail
  go_loopw [0, 1] (fun a b wr => ∃ x y : Int, a = .int .i64 x ∧ b = .int .i64 y ∧ -1073741824 ≤ x ∧ x ≤ 1073741824 ∧ -1073741824 ≤ y ∧ y ≤ 1073741824 ∧ Hid (Nat.gcd (mag x) (mag y) = Nat.gcd (mag n) (mag d)) ∧ Hid (∃ m, wr = w.drewN m)) (fun _ b _ => (intOf b).natAbs)
  case atStart => exact ⟨n, d, rfl, rfl, h1, h2, by omega, h4, rfl, 0, rfl⟩
  case round =>
    obtain ⟨x, y, rfl, rfl, b1, b2, b3, b4, HG, HW⟩ := hrel
    by_cases hy : y = 0
    · subst hy
      have HG2 : Hid (mag x = Nat.gcd (mag n) (mag d)) := Lib.hid (by rw [← HG.out]; simp [mag])
      by_cases hx : x < 0
      · have d1 : decide (x < 0) = true := by simpa using hx
        go_wp2_with fail
        go_ret
        exact ⟨ret_int (by rw [← HG2.out]; unfold mag; omega), HW.out⟩
      · have d1 : decide (x < 0) = false := by simpa using hx
        go_wp2_with fail
        go_ret
        exact ⟨ret_int (by rw [← HG2.out]; unfold mag; omega), HW.out⟩
    · have d1 : (y != 0) = true := by simpa using hy
      go_wp2_with fail
      go_quiet (fail)
      go_wp2_with fail
      have hm : mag (x.tmod y) < mag y := by rw [mag_tmod]; exact Nat.mod_lt _ (by unfold mag; omega)
      have hb : mag y ≤ 1073741824 := by unfold mag; omega
      have HS : Hid (Nat.gcd (mag y) (mag (x.tmod y)) = Nat.gcd (mag n) (mag d)) := Lib.hid (by rw [mag_tmod, gcd_step]; exact HG.out)
      unfold mag at hm hb
      generalize x.tmod y = z at *
      go_round
      case rel =>
        obtain ⟨m, hm2⟩ := HW.out
        exact ⟨y, z, rfl, rfl, b3, b4, by omega, by omega, HS, Lib.hid ⟨m + nq, by rw [hm2]; simp [World.drewN, Nat.add_assoc]⟩⟩
      case measure => simp [intOf]; omega
theorem fv_1 {n d : Int} (h : ¬ (1 ≤ d ∧ d ≤ 1073741824 ∧ -1073741824 ≤ n ∧ n ≤ 1073741824)) : fvalid n d = false := (fvalid_no h).symm
set_option maxHeartbeats 4000000 in
theorem goodR_any (n d : Int) (w : World) : Calls Tryz.prog 119 #[.agg #[.int .i64 n, .int .i64 d]] w fun e w' => e = .returned (.bool (fvalid n d)) ∧ Below w.heap.size w w' := by
  have NEW := Lib.hid (new_below w (.cells #[.int .i64 n, .int .i64 d] 44))
  by_cases h1 : 1 ≤ d
  · have d1 : decide (1 ≤ d) = true := by simpa using h1
    by_cases h2 : d ≤ 1073741824
    · have d2 : decide (d ≤ 1073741824) = true := by simpa using h2
      by_cases h3 : -1073741824 ≤ n
      · have d3 : decide (-1073741824 ≤ n) = true := by simpa using h3
        by_cases h4 : n ≤ 1073741824
        · have d4 : decide (n ≤ 1073741824) = true := by simpa using h4
          have HG := Lib.hid (fun W => gcdR_big n d h3 h4 h1 h2 W)
          have HE := Lib.hid (fvalid_yes h1 h2 h3 h4)
          clear h1 h2 h3 h4
          generalize ((mag n).gcd (mag d)) = g at *
          generalize fvalid n d = r at *
          go_enter Tryz.func119, Tryz.ntmps119
          go_wp2_with fail
          refine (HG.out _).mono ?_
          rintro e w1 ⟨rfl, m, rfl⟩
          go_wp2_with fail
          go_ret
          exact ⟨by rw [← HE.out]; rfl, below_dn NEW.out _⟩
        · have d4 : decide (n ≤ 1073741824) = false := by simpa using h4
          have HE := Lib.hid (fv_1 (n := n) (d := d) (by omega))
          clear h1 h2 h3 h4
          go_enter Tryz.func119, Tryz.ntmps119
          go_wp2_with fail
          go_ret
          exact ⟨by rw [HE.out]; rfl, NEW.out⟩
      · have d3 : decide (-1073741824 ≤ n) = false := by simpa using h3
        have HE := Lib.hid (fv_1 (n := n) (d := d) (by omega))
        clear h1 h2 h3
        go_enter Tryz.func119, Tryz.ntmps119
        go_wp2_with fail
        go_ret
        exact ⟨by rw [HE.out]; rfl, NEW.out⟩
    · have d2 : decide (d ≤ 1073741824) = false := by simpa using h2
      have HE := Lib.hid (fv_1 (n := n) (d := d) (by omega))
      clear h1 h2
      go_enter Tryz.func119, Tryz.ntmps119
      go_wp2_with fail
      go_ret
      exact ⟨by rw [HE.out]; rfl, NEW.out⟩
  · have d1 : decide (1 ≤ d) = false := by simpa using h1
    have HE := Lib.hid (fv_1 (n := n) (d := d) (by omega))
    clear h1
    go_enter Tryz.func119, Tryz.ntmps119
    go_wp2_with fail
    go_ret
    exact ⟨by rw [HE.out]; rfl, NEW.out⟩
set_option maxHeartbeats 1000000 in
theorem sameints_any (xs ys : List Int) (A B : Option Addr) (c d : Nat) (hl : xs.length ≤ maxLen) (hl2 : ys.length ≤ maxLen) (w : World) (ha : Is w A xs) (hb : Is w B ys) :
    Calls Tryz.prog 87 #[.slice A xs.length c, .slice B ys.length d] w fun e w' => e = .returned (.bool (decide (xs = ys))) ∧ ∃ n, w' = w.drewN n := by
  by_cases hL : xs.length = ys.length
  · have HA := Lib.hid ha
    have HB' := Lib.hid hb
    have HL2 := Lib.hid hL
    rw [← hL]
    unfold maxLen at hl
    generalize hLL : xs.length = L at *
    have HL := Lib.hid hLL
    clear ha hb hl2 hL hLL
    go_enter Tryz.func87, Tryz.ntmps87
    go_wp2_with fail
    go_loopw [5] (fun k wr => ∃ i : Nat, i ≤ L ∧ k = .int .i64 i ∧ Hid (∀ j, j < i → nth xs j = nth ys j) ∧ Hid (∃ n, wr = w.drewN n)) (fun k _ => L - (intOf k).toNat)
    case atStart => exact ⟨0, by omega, rfl, Lib.hid (fun j hj => absurd hj (by omega)), Lib.hid ⟨0, rfl⟩⟩
    case round =>
      obtain ⟨i, hi, rfl, HP, HW⟩ := hrel
      obtain ⟨n, hn⟩ := HW.out
      subst hn
      by_cases hlt : i < L
      · have t3 : decide ((i : Int) < L) = true := by simpa using hlt
        obtain ⟨b1, o1, rfl, _, c0⟩ := is_at (i := i) HA.out (by rw [HL.out]; exact hlt)
        obtain ⟨b2, o2, rfl, _, d0⟩ := is_at (i := i) HB'.out (by rw [← HL2.out]; exact hlt)
        by_cases hx : nth xs i = nth ys i
        · have HX : Hid (∀ j, j = i → nth xs j = nth ys j) := Lib.hid (fun j hj => by subst hj; exact hx)
          rw [← hx] at d0
          clear hx
          generalize nth xs i = x at *
          go_wp2_with fail
          go_quiet (fail)
          go_wp2_with fail
          go_round
          case rel => exact ⟨i + 1, by omega, by go_num, Lib.hid (fun j hj => by
            rcases Nat.lt_or_ge j i with z | z
            · exact HP.out j z
            · exact HX.out j (by omega)), Lib.hid ⟨n + nq, by simp [World.drewN]⟩⟩
          case measure => simp [intOf]; omega
        · have tx : (nth xs i != nth ys i) = true := by simpa using hx
          have HE : Hid (decide (xs = ys) = false) := Lib.hid (by simp; rintro rfl; exact hx rfl)
          clear hx
          generalize nth xs i = x at *
          generalize nth ys i = y at *
          go_wp2_with fail
          go_quiet (fail)
          go_wp2_with fail
          go_ret
          exact ⟨by rw [HE.out]; rfl, n + nq, by simp [World.drewN, Nat.add_assoc]⟩
      · obtain rfl : i = L := by omega
        have t3 : decide ((i : Int) < i) = false := by simp
        have HE : Hid (decide (xs = ys) = true) := Lib.hid (by
          simp
          exact list_same (by rw [HL.out]; exact HL2.out) (fun j hj => HP.out j (by rw [← HL.out]; exact hj)))
        go_wp2_with fail
        go_ret
        exact ⟨by rw [HE.out]; rfl, HW.out⟩
  · have HE : Hid (decide (xs = ys) = false) := Lib.hid (by simp; rintro rfl; exact hL rfl)
    unfold maxLen at hl hl2
    generalize decide (xs = ys) = r at *
    generalize xs.length = L at *
    generalize ys.length = M at *
    have t1 : ((L : Int) != M) = true := by simp; omega
    clear ha hb hL
    go_enter Tryz.func87, Tryz.ntmps87
    go_wp2_with fail
    go_ret
    exact ⟨by rw [HE.out]; rfl, 0, rfl⟩
end Go.Proofs.YtaodebpogibimaaGreat
namespace Go.Proofs.YtaodebpogibimaaGreat
open Go.RowKit

theorem getf_hit {v : Vl} {t : Int} {i : Nat} (hi : i < v.cells.length) (h : ∀ j, j < i → (cn v.cells j).1 ≠ t) (he : (cn v.cells i).1 = t) : getF v t = (cn v.cells i).2 := by
  have e : v.cells.find? (fun c => c.1 == t) = some (cn v.cells i) := by
    rw [List.find?_eq_some_iff_getElem]
    refine ⟨by simpa using he, i, hi, cn_of hi |>.symm, fun j hj => ?_⟩
    have := h j hj
    rw [cn_of (Nat.lt_trans hj hi)] at this
    simpa using this
  unfold getF
  rw [e]
theorem getf_miss {v : Vl} {t : Int} (h : ∀ j, j < v.cells.length → (cn v.cells j).1 ≠ t) : getF v t = v.rest := by
  have e : v.cells.find? (fun c => c.1 == t) = none := by
    rw [List.find?_eq_none]
    intro c hc
    obtain ⟨j, hj, rfl⟩ := List.getElem_of_mem hc
    have := h j hj
    rw [cn_of hj] at this
    simpa using this
  unfold getF
  rw [e]
set_option maxHeartbeats 1000000 in
theorem cellof_any (v : Vl) (A : Option Addr) (c : Nat) (t : Int) (w : World) (hl : v.cells.length ≤ maxLen) (h : CsAt w A v.cells) :
    Calls Tryz.prog 53 #[.agg #[.int .i64 v.num, .int .i64 v.den, .slice A v.cells.length c, .int .i64 v.rest], .int .i64 t] w fun e w' => e = .returned (.int .i64 (getF v t)) ∧ Below w.heap.size w w' := by
  have HA := Lib.hid h
  have N0 := Lib.hid (HB.new w 47 #[.int .i64 v.num, .int .i64 v.den, .slice A v.cells.length c, .int .i64 v.rest])
  have B0 := Lib.hid (new_below w (.cells #[.int .i64 v.num, .int .i64 v.den, .slice A v.cells.length c, .int .i64 v.rest] 47))
  have GH := Lib.hid (fun i => getf_hit (v := v) (t := t) (i := i))
  have GM := Lib.hid (getf_miss (v := v) (t := t))
  clear h
  unfold maxLen at hl
  generalize getF v t = G at *
  generalize hL : v.cells.length = L at *
  have HL := Lib.hid hL
  clear hL
  go_enter Tryz.func53, Tryz.ntmps53
  go_wp2_with fail
  go_loopw [5] (fun k wr => ∃ i : Nat, i ≤ L ∧ k = .int .i64 i ∧ Hid (∀ j, j < i → (cn v.cells j).1 ≠ t) ∧ Hid (HB wr w.heap.size 47 #[.int .i64 v.num, .int .i64 v.den, .slice A L c, .int .i64 v.rest]) ∧ Hid (Below w.heap.size w wr)) (fun k _ => L - (intOf k).toNat)
  case atStart => exact ⟨0, by omega, rfl, Lib.hid (fun j hj => absurd hj (by omega)), N0, B0⟩
  case round =>
    clear N0 B0
    obtain ⟨i, hi, rfl, HJ, HN, HB1⟩ := hrel
    obtain ⟨n0, n1, n2, n3, -⟩ := HN.out.four
    by_cases hlt : i < L
    · have t3 : decide ((i : Int) < L) = true := by simpa using hlt
      have l0 : (i : Int) < L := by omega
      obtain ⟨b, o, rfl, lb, c0, c1⟩ := cs_at (i := i) (HA.out.below HB1.out) (by rw [HL.out]; exact hlt)
      by_cases he : (cn v.cells i).1 = t
      · have e := GH.out i (by omega) HJ.out he
        rw [he] at c0
        rw [← e] at c1
        clear e he
        go_wp2_with fail
        go_ret
        exact ⟨rfl, HB1.out⟩
      · have HJ' : Hid (∀ j, j < i + 1 → (cn v.cells j).1 ≠ t) := Lib.hid (fun j hj => by
          rcases Nat.lt_or_ge j i with z | z
          · exact HJ.out j z
          · obtain rfl : j = i := by omega
            exact he)
        have te : ((cn v.cells i).1 == t) = false := by simpa using he
        clear he
        go_wp2_with fail
        go_round
        case rel => exact ⟨i + 1, by omega, by go_num, HJ', HN, HB1⟩
        case measure => simp [intOf]; omega
    · obtain rfl : i = L := by omega
      have t3 : decide ((i : Int) < i) = false := by simp
      have e := GM.out HJ.out
      rw [← e] at n3
      clear e
      go_wp2_with fail
      go_ret
      exact ⟨rfl, HB1.out⟩
set_option maxHeartbeats 1000000 in
theorem gcdR_huge (n d : Int) (h1 : -4611686018427387904 ≤ n) (h2 : n ≤ 4611686018427387904) (h3 : 1 ≤ d) (h4 : d ≤ 4611686018427387904) (w : World) :
    Calls Tryz.prog 91 #[.int .i64 n, .int .i64 d] w fun e w' => e = .returned (.int .i64 (Nat.gcd (mag n) (mag d) : Nat)) ∧ ∃ m, w' = w.drewN m := by
  go_enter Tryz.func91, Tryz.ntmps91
  go_wp2_with fail
  go_loopw [0, 1] (fun a b wr => ∃ x y : Int, a = .int .i64 x ∧ b = .int .i64 y ∧ -4611686018427387904 ≤ x ∧ x ≤ 4611686018427387904 ∧ -4611686018427387904 ≤ y ∧ y ≤ 4611686018427387904 ∧ Hid (Nat.gcd (mag x) (mag y) = Nat.gcd (mag n) (mag d)) ∧ Hid (∃ m, wr = w.drewN m)) (fun _ b _ => (intOf b).natAbs)
  case atStart => exact ⟨n, d, rfl, rfl, h1, h2, by omega, h4, rfl, 0, rfl⟩
  case round =>
    obtain ⟨x, y, rfl, rfl, b1, b2, b3, b4, HG, HW⟩ := hrel
    by_cases hy : y = 0
    · subst hy
      have HG2 : Hid (mag x = Nat.gcd (mag n) (mag d)) := Lib.hid (by rw [← HG.out]; simp [mag])
      by_cases hx : x < 0
      · have d1 : decide (x < 0) = true := by simpa using hx
        go_wp2_with fail
        go_ret
        exact ⟨ret_int (by rw [← HG2.out]; unfold mag; omega), HW.out⟩
      · have d1 : decide (x < 0) = false := by simpa using hx
        go_wp2_with fail
        go_ret
        exact ⟨ret_int (by rw [← HG2.out]; unfold mag; omega), HW.out⟩
    · have d1 : (y != 0) = true := by simpa using hy
      go_wp2_with fail
      go_quiet (fail)
      go_wp2_with fail
      have hm : mag (x.tmod y) < mag y := by rw [mag_tmod]; exact Nat.mod_lt _ (by unfold mag; omega)
      have hb : mag y ≤ 4611686018427387904 := by unfold mag; omega
      have HS : Hid (Nat.gcd (mag y) (mag (x.tmod y)) = Nat.gcd (mag n) (mag d)) := Lib.hid (by rw [mag_tmod, gcd_step]; exact HG.out)
      unfold mag at hm hb
      generalize x.tmod y = z at *
      go_round
      case rel =>
        obtain ⟨m, hm2⟩ := HW.out
        exact ⟨y, z, rfl, rfl, b3, b4, by omega, by omega, HS, Lib.hid ⟨m + nq, by rw [hm2]; simp [World.drewN, Nat.add_assoc]⟩⟩
      case measure => simp [intOf]; omega
set_option maxHeartbeats 1000000 in
theorem lessR_any (p1 p2 q1 q2 : Int) (w : World) (hp : fvalid p1 p2 = true) (hq : fvalid q1 q2 = true) :
    Calls Tryz.prog 51 #[.agg #[.int .i64 p1, .int .i64 p2], .agg #[.int .i64 q1, .int .i64 q2]] w fun e w' => e = .returned (.bool (ltF (p1, p2) (q1, q2))) ∧ Below w.heap.size w w' := by
  have a := fvalid_bd hp
  have b := fvalid_bd hq
  have m1 := mul_bd p1 q2 (by omega) (by omega) (by omega) (by omega)
  have m2 := mul_bd q1 p2 (by omega) (by omega) (by omega) (by omega)
  have w1 : IntKind.i64.wrap (p1 * q2) = p1 * q2 := IntWalk.i64_in _ (by omega)
  have w2 : IntKind.i64.wrap (q1 * p2) = q1 * p2 := IntWalk.i64_in _ (by omega)
  unfold ltF
  dsimp only
  clear a b m1 m2 hp hq
  have tx : decide (p1 * q2 < q1 * p2) = decide (p1 * q2 < q1 * p2) := rfl
  clear tx
  go_enter Tryz.func51, Tryz.ntmps51
  go_wp2_with fail
  go_ret
  exact ⟨rfl, by go_grown⟩
theorem tdiv_mag (n : Int) (G : Nat) : n.tdiv G = if n < 0 then -((mag n / G : Nat) : Int) else ((mag n / G : Nat) : Int) := by
  unfold mag
  by_cases h : n < 0
  · rw [if_pos h]
    obtain ⟨a, rfl⟩ : ∃ a : Nat, n = -(a : Int) := ⟨n.natAbs, by omega⟩
    rw [Int.neg_tdiv, Int.natAbs_neg, Int.natAbs_natCast]
    rfl
  · rw [if_neg h]
    obtain ⟨a, rfl⟩ : ∃ a : Nat, n = (a : Int) := ⟨n.natAbs, by omega⟩
    rw [Int.natAbs_natCast]
    rfl
theorem made_ref {n d : Int} {G : Nat} (h3 : 1 ≤ d) (hG : Nat.gcd (mag n) (mag d) = G) :
    if n.tdiv G ≤ 1073741824 ∧ -1073741824 ≤ n.tdiv G ∧ d / G ≤ 1073741824 then madeN n d = n.tdiv G ∧ madeD n d = d / G ∧ madeC n d = 0 else madeN n d = 0 ∧ madeD n d = 0 ∧ madeC n d = 10 := by
  have e : d / G = ((mag d / G : Nat) : Int) := by
    obtain ⟨a, rfl⟩ : ∃ a : Nat, d = (a : Int) := ⟨d.natAbs, by omega⟩
    rfl
  have t : (n < 0 ∧ n.tdiv G = -((mag n / G : Nat) : Int)) ∨ (0 ≤ n ∧ n.tdiv G = ((mag n / G : Nat) : Int)) := by
    have t := tdiv_mag n G
    by_cases hn : n < 0
    · rw [if_pos hn] at t; exact .inl ⟨hn, t⟩
    · rw [if_neg hn] at t; exact .inr ⟨by omega, t⟩
  have hd : decide (d < 0) = false := by simp; omega
  have d0 : ¬ d = 0 := by omega
  have mC : madeC n d = if 1073741824 < mag n / G ∨ 1073741824 < mag d / G then 10 else 0 := by unfold madeC; rw [hG, if_neg d0]
  have mD : madeD n d = if 1073741824 < mag n / G ∨ 1073741824 < mag d / G then 0 else d / G := by unfold madeD; rw [hG, if_neg d0, e]
  have mN : madeN n d = if 1073741824 < mag n / G ∨ 1073741824 < mag d / G then 0 else n.tdiv G := by
    unfold madeN
    rw [hG, if_neg d0, hd]
    rcases t with ⟨hn, t⟩ | ⟨hn, t⟩
    · have hn' : decide (n < 0) = true := by simpa using hn
      rw [hn', t]
      rfl
    · have hn' : decide (n < 0) = false := by simpa using hn
      rw [hn', t]
      rfl
  rw [mN, mD, mC]
  clear mN mD mC
  rw [e]
  generalize mag n / G = x at *
  generalize mag d / G = y at *
  generalize n.tdiv G = q at *
  by_cases hc : 1073741824 < x ∨ 1073741824 < y
  · rw [if_pos hc, if_pos hc, if_pos hc, if_neg (by omega)]
    exact ⟨rfl, rfl, rfl⟩
  · rw [if_neg hc, if_neg hc, if_neg hc, if_pos (by omega)]
    exact ⟨rfl, rfl, rfl⟩
set_option maxHeartbeats 1000000 in
theorem lowest_any (n d : Int) (w : World) (h1 : -4611686018427387904 ≤ n) (h2 : n ≤ 4611686018427387904) (h3 : 1 ≤ d) (h4 : d ≤ 4611686018427387904) :
    Calls Tryz.prog 94 #[.int .i64 n, .int .i64 d] w fun e w' => e = .returned (.tuple #[.agg #[.int .i64 (madeN n d), .int .i64 (madeD n d)], .bool (madeC n d == 0)]) ∧ Below w.heap.size w w' := by
  have XG := Lib.hid (fun W => gcdR_huge n d h1 h2 h3 h4 W)
  have hG : 0 < Nat.gcd (mag n) (mag d) := Nat.gcd_pos_of_pos_right _ (by unfold mag; omega)
  have hm := made_ref (n := n) h3 rfl
  generalize hGG : Nat.gcd (mag n) (mag d) = G at *
  have hQ : -4611686018427387904 ≤ n.tdiv G ∧ n.tdiv G ≤ 4611686018427387904 := by
    rw [tdiv_mag]
    have : mag n / G ≤ mag n := Nat.div_le_self _ _
    have hmn : mag n ≤ 4611686018427387904 := by unfold mag; omega
    generalize mag n / G = x at *
    split <;> omega
  by_cases hf : n.tdiv G ≤ 1073741824 ∧ -1073741824 ≤ n.tdiv G ∧ d / G ≤ 1073741824
  · rw [if_pos hf] at hm
    obtain ⟨e1, e2, e3⟩ := hm
    rw [e1, e2, e3]
    obtain ⟨f1, f2, f3⟩ := hf
    have g1 : decide (1073741824 < n.tdiv G) = false := by simp; omega
    have g2 : decide (n.tdiv G < -1073741824) = false := by simp; omega
    have g3 : decide (1073741824 < d / G) = false := by simp; omega
    clear e1 e2 e3 hGG
    go_enter Tryz.func94, Tryz.ntmps94
    go_wp2_with fail
    refine (XG.out _).mono ?_
    rintro e w1 ⟨rfl, m, rfl⟩
    go_wp2_with fail
    exact bodyPost_ret (v := .tuple #[.agg #[.int .i64 (n.tdiv G), .int .i64 (d / G)], .bool true]) (by simp [results, Tryz.results94, go_sem]) rfl ⟨rfl, bw_far (below_dn (new_below w _) m) (Nat.le_refl _) (far2 _ _ _ _)⟩
  · rw [if_neg hf] at hm
    obtain ⟨e1, e2, e3⟩ := hm
    rw [e1, e2, e3]
    clear e1 e2 e3 hGG
    go_enter Tryz.func94, Tryz.ntmps94
    go_wp2_with fail
    refine (XG.out _).mono ?_
    rintro e w1 ⟨rfl, m, rfl⟩
    go_wp2_with fail
    all_goals exact bodyPost_ret (v := .tuple #[.agg #[.int .i64 0, .int .i64 0], .bool false]) (by simp [results, Tryz.results94, go_sem]) rfl ⟨rfl, bw_far (below_dn (new_below w _) m) (Nat.le_refl _) (far2 _ _ _ _)⟩
end Go.Proofs.YtaodebpogibimaaGreat
