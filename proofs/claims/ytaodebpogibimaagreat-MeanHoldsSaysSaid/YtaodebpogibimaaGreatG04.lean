/-
  Asks: what is wrong with a declaration.
  Asks: what is wrong with a declaration, by the reference.
  Asks: fractions of a node.
  Asks: the name and the numbers of a node.
-/
import Derived.Test.YtaodebpogibimaaGreatG03
import Derived.Test.YtaodebpogibimaaGreatG00
namespace Go.Proofs.YtaodebpogibimaaGreat
open Go.RowKit

/-- What is wrong with a declared name. -/
def dcC (qs : List Dc) (i : Nat) : Int :=
  if okNm (dn qs i).name = false then 12 else if fdI qs (dn qs i).name < i then 7 else if 8 < (dn qs i).args.length then 9 else
  if sSo (dn qs i).sort = false ∨ (dn qs i).args.all sTh = false ∨ ((dn qs i).sort = 5 ∧ 0 < (dn qs i).args.length) then 4 else 0
theorem fd_self {qs : List Dc} {i : Nat} (hi : i < qs.length) : fdI qs (dn qs i).name ≤ i := by
  unfold fdI
  rcases Nat.lt_or_ge i (qs.findIdx fun q => q.name.toList == (dn qs i).name.toList) with z | z
  · have := List.not_of_lt_findIdx z
    rw [dn_el hi] at this
    simp at this
  · exact z
theorem fdz_self {qs : List Dc} {i : Nat} (hi : i < qs.length) : fdZ qs (dn qs i).name = fdI qs (dn qs i).name := by
  unfold fdZ
  rw [if_pos (Nat.lt_of_le_of_lt (fd_self hi) hi)]
theorem fdz_take {qs : List Dc} {i : Nat} {s : ByteArray} (hi : i ≤ qs.length) : decide (0 ≤ fdZ (qs.take i) s) = decide (fdI qs s < i) := by
  have hl : (qs.take i).length = i := by rw [List.length_take]; omega
  unfold fdZ
  rw [hl]
  have e : (fdI (qs.take i) s < i) ↔ fdI qs s < i := by
    unfold fdI
    have e0 : ((qs.take i).findIdx fun q => q.name.toList == s.toList) < i ↔ ∃ x ∈ qs.take i, (x.name.toList == s.toList) = true := by
      have := List.findIdx_lt_length (xs := qs.take i) (p := fun q => q.name.toList == s.toList)
      rwa [hl] at this
    rw [e0]
    constructor
    · rintro ⟨x, hx, hp⟩
      obtain ⟨j, hj, rfl⟩ := List.getElem_of_mem hx
      rw [hl] at hj
      rw [List.getElem_take] at hp
      rcases Nat.lt_or_ge (qs.findIdx fun q => q.name.toList == s.toList) i with z | z
      · exact z
      · have := List.not_of_lt_findIdx (Nat.lt_of_lt_of_le hj z)
        rw [hp] at this; cases this
    · intro z
      have hz : (qs.findIdx fun q => q.name.toList == s.toList) < qs.length := by omega
      have := List.findIdx_getElem (w := hz)
      refine ⟨_, ?_, this⟩
      rw [List.mem_take_iff_getElem]
      exact ⟨_, by omega, rfl⟩
  by_cases z : fdI qs s < i
  · rw [if_pos (e.2 z)]; simp [z]
  · rw [if_neg (fun y => z (e.1 y))]; simp [z]
theorem DsAt.pre {w : World} {A : Option Addr} {qs : List Dc} (h : DsAt w A qs) (k : Nat) : DsAt w A (qs.take k) := h.take k
set_option maxHeartbeats 2000000 in
theorem wrongdecl_any (qs : List Dc) (A : Option Addr) (c : Nat) (i : Nat) (hi : i < qs.length) (hc : qs.length ≤ c) (hl : c ≤ maxLen) (w : World) (h : DsAt w A qs) :
    Calls Tryz.prog 27 #[.slice A qs.length c, .int .i64 i] w fun e w' => e = .returned (.int .i64 (dcC qs i)) ∧ Below w.heap.size w w' := by
  obtain ⟨b, o, A', c', rfl, hb, c0, c1, c2, hs, ha, hx⟩ := ds_at h hi
  have HS := Lib.hid hs
  have HA := Lib.hid h
  have HDEC := Lib.hid (fun (W : World) (hW : DsAt W (some ⟨b, o, none⟩) qs) => declared_any (qs.take i) (some ⟨b, o, none⟩) c (dn qs i).name (by rw [List.length_take]; omega) W (hW.pre i))
  have hti : (qs.take i).length = i := by rw [List.length_take]; omega
  rw [hti, ] at HDEC
  unfold maxLen at hl ha
  have HL := Lib.hid hi
  have HXX := Lib.hid hx
  have HN := Lib.hid (HB.new w 52 #[.string (dn qs i).name, .slice A' (dn qs i).args.length c', .int .i64 (dn qs i).sort])
  generalize hL : qs.length = L at *
  cases d1 : okNm (dn qs i).name with
  | false =>
    have D1 := Lib.hid d1
    have HE : Hid (dcC qs i = 12) := Lib.hid (by unfold dcC; rw [d1, if_pos rfl])
    clear h hx hs d1 hti hL
    go_enter Tryz.func27, Tryz.ntmps27
    go_wp2_with fail
    refine (isname_any _ _ HS.out).mono ?_
    rintro e w1 ⟨rfl, rfl⟩
    rw [D1.out]
    go_wp2_with fail
    go_ret
    rw [HE.out]
    exact ⟨rfl, new_below _ _⟩
  | true =>
    have D1 := Lib.hid d1
    have HZ := Lib.hid (fdz_take (s := (dn qs i).name) (by rw [hL]; omega : i ≤ qs.length))
    have HE : Hid (dcC qs i = (if fdI qs (dn qs i).name < i then 7 else if 8 < (dn qs i).args.length then 9 else
      if sSo (dn qs i).sort = false ∨ (dn qs i).args.all sTh = false ∨ ((dn qs i).sort = 5 ∧ 0 < (dn qs i).args.length) then 4 else 0)) := Lib.hid (by
        unfold dcC; rw [if_neg (by rw [d1]; decide)])
    have HEV := Lib.hid (fun (W : World) (hW : Is W A' (dn qs i).args) => everything_any (dn qs i).args A' c' ha W hW)
    clear h hx hs d1 hti hL
    generalize hnm : (dn qs i).name = nm at *
    generalize hag : (dn qs i).args = ag at *
    generalize hst : (dn qs i).sort = st at *
    generalize hal : ag.length = al at *
    clear hnm hag hst hal
    go_enter Tryz.func27, Tryz.ntmps27
    go_wp2_with fail
    refine (isname_any _ _ HS.out).mono ?_
    rintro e w1 ⟨rfl, rfl⟩
    rw [D1.out]
    go_wp2_with fail
    go_cut [15] (fun s wx => s = .bool (decide (fdI qs nm < i)) ∧ Hid (HB wx w.heap.size 52 #[.string nm, .slice A' al c', .int .i64 st]) ∧ Hid (Below w.heap.size w wx))
    case first =>
      have HD1 := Lib.hid (HDEC.out ((w.alloc (.cells #[.string nm, .slice A' al c', .int .i64 st] 52)).drew) (HA.out.below (new_below _ _).drew))
      go_region_with (go_at_call 67; (with_reducible refine HD1.out.mono ?_); rintro e w1 ⟨rfl, hb1⟩; have G1 : Hid (Below w.heap.size w w1) := bw_below (Nat.le_refl _) (new_below _ _).drew hb1; have N1 := Lib.hid (HN.out.drew.below hb1); clear hb1)
      all_goals
        go_wp2_with fail
        go_meet
        refine ⟨?_, N1, G1⟩
        rw [HZ.out]
    case rest =>
      obtain ⟨rfl, NX, GX⟩ := hcut
      obtain ⟨x0, x1, x2, _⟩ := NX.out.three
      have lx := NX.out.lt
      cases e1 : decide (fdI qs nm < i) with
      | true =>
        rw [if_pos (by simpa using e1)] at HE
        clear e1
        go_wp2_with fail
        go_ret
        rw [HE.out]
        exact ⟨rfl, GX.out⟩
      | false =>
        rw [if_neg (by simpa using e1)] at HE
        clear e1
        by_cases h8 : 8 < al
        · rw [if_pos h8] at HE
          have t8 : decide ((8 : Int) < al) = true := by simp; omega
          clear h8
          go_wp2_with fail
          go_ret
          rw [HE.out]
          exact ⟨rfl, GX.out⟩
        · rw [if_neg h8] at HE
          have t8 : decide ((8 : Int) < al) = false := by simp; omega
          cases e2 : sSo st with
          | false =>
            have E2 := Lib.hid e2
            rw [if_pos (.inl e2)] at HE
            clear e2 h8
            go_wp2_with fail
            refine (issort_any _ _).mono ?_
            rintro e w2 ⟨rfl, rfl⟩
            rw [E2.out]
            go_wp2_with fail
            go_ret
            rw [HE.out]
            exact ⟨rfl, GX.out⟩
          | true =>
            have E2 := Lib.hid e2
            have HV1 := Lib.hid (HEV.out _ (HXX.out.below GX.out))
            cases e3 : ag.all sTh with
            | false =>
              have E3 := Lib.hid e3
              rw [if_pos (.inr (.inl e3))] at HE
              clear e2 h8 e3
              go_wp2_with fail
              refine (issort_any _ _).mono ?_
              rintro e w2 ⟨rfl, rfl⟩
              rw [E2.out]
              go_wp2_with fail
              refine HV1.out.mono ?_
              rintro e w2 ⟨rfl, hb2⟩
              have G2 : Hid (Below w.heap.size w w2) := bw_below (Nat.le_refl _) GX.out hb2
              clear hb2
              rw [E3.out]
              go_wp2_with fail
              go_ret
              rw [HE.out]
              exact ⟨rfl, G2.out⟩
            | true =>
              have E3 := Lib.hid e3
              by_cases h5 : st = 5
              · have t5 : (st == 5) = true := by simpa using h5
                by_cases h0 : 0 < al
                · rw [if_pos (.inr (.inr ⟨h5, h0⟩))] at HE
                  have t0 : decide (0 < al) = true := by simpa using h0
                  clear e2 h8 e3 h5 h0
                  go_wp2_with fail
                  refine (issort_any _ _).mono ?_
                  rintro e w2 ⟨rfl, rfl⟩
                  rw [E2.out]
                  go_wp2_with fail
                  refine HV1.out.mono ?_
                  rintro e w2 ⟨rfl, hb2⟩
                  have G2 : Hid (Below w.heap.size w w2) := bw_below (Nat.le_refl _) GX.out hb2
                  obtain ⟨y0, y1, y2, _⟩ := (NX.out.below hb2).three
                  clear hb2 x0 x1 x2
                  rw [E3.out]
                  go_wp2_with fail
                  go_ret
                  rw [HE.out]
                  exact ⟨rfl, G2.out⟩
                · rw [if_neg (by rw [e2, e3]; simp [h5, h0])] at HE
                  have t0 : decide (0 < al) = false := by simpa using h0
                  clear e2 h8 e3 h5 h0
                  go_wp2_with fail
                  refine (issort_any _ _).mono ?_
                  rintro e w2 ⟨rfl, rfl⟩
                  rw [E2.out]
                  go_wp2_with fail
                  refine HV1.out.mono ?_
                  rintro e w2 ⟨rfl, hb2⟩
                  have G2 : Hid (Below w.heap.size w w2) := bw_below (Nat.le_refl _) GX.out hb2
                  obtain ⟨y0, y1, y2, _⟩ := (NX.out.below hb2).three
                  clear hb2 x0 x1 x2
                  rw [E3.out]
                  go_wp2_with fail
                  go_ret
                  rw [HE.out]
                  exact ⟨rfl, G2.out⟩
              · rw [if_neg (by rw [e2, e3]; simp [h5])] at HE
                have t5 : (st == 5) = false := by simpa using h5
                clear e2 h8 e3 h5
                go_wp2_with fail
                refine (issort_any _ _).mono ?_
                rintro e w2 ⟨rfl, rfl⟩
                rw [E2.out]
                go_wp2_with fail
                refine HV1.out.mono ?_
                rintro e w2 ⟨rfl, hb2⟩
                have G2 : Hid (Below w.heap.size w w2) := bw_below (Nat.le_refl _) GX.out hb2
                obtain ⟨y0, y1, y2, _⟩ := (NX.out.below hb2).three
                clear hb2 x0 x1 x2
                rw [E3.out]
                go_wp2_with fail
                go_ret
                rw [HE.out]
                exact ⟨rfl, G2.out⟩
end Go.Proofs.YtaodebpogibimaaGreat
namespace Go.Proofs.YtaodebpogibimaaGreat
open Go.RowKit

theorem wb_pos {s : Int} (h : sWd s = true) : (wBits s == 0) = false := by
  unfold sWd at h; unfold wBits
  simp at h
  rw [if_pos h]
  simp; omega
theorem wb_nil {s : Int} (h : sWd s = false) : wBits s = 0 := by
  unfold sWd at h; unfold wBits
  simp at h
  rw [if_neg (by omega)]
theorem all_nil {xs : List Int} (p : Int → Bool) (h : xs.length = 0) : xs.all p = true := by
  cases xs with
  | nil => rfl
  | cons a l => simp at h
set_option maxHeartbeats 2000000 in
theorem declfault_any (qs : List Dc) (A : Option Addr) (c : Nat) (i : Nat) (hi : i < qs.length) (hc : qs.length ≤ c) (hl : c ≤ maxLen) (w : World) (h : DsAt w A qs) :
    Calls Tryz.prog 43 #[.slice A qs.length c, .int .i64 i] w fun e w' => e = .returned (.int .i64 (dcC qs i)) ∧ Below w.heap.size w w' := by
  obtain ⟨b, o, A', c', rfl, hb, c0, c1, c2, hs, ha, hx⟩ := ds_at h hi
  have HS := Lib.hid hs
  have HA := Lib.hid h
  have HDEC := Lib.hid (fun (W : World) (hW : DsAt W (some ⟨b, o, none⟩) qs) => declof_any qs (some ⟨b, o, none⟩) c (dn qs i).name (by omega) W hW)
  unfold maxLen at hl ha
  have HL := Lib.hid hi
  have HXX := Lib.hid hx
  have HN := Lib.hid (HB.new w 52 #[.string (dn qs i).name, .slice A' (dn qs i).args.length c', .int .i64 (dn qs i).sort])
  generalize hL : qs.length = L at *
  cases d1 : okNm (dn qs i).name with
  | false =>
    have D1 := Lib.hid d1
    have HE : Hid (dcC qs i = 12) := Lib.hid (by unfold dcC; rw [d1, if_pos rfl])
    clear h hx hs d1 hL
    go_enter Tryz.func43, Tryz.ntmps43
    go_wp2_with fail
    refine (goodname_any _ _ HS.out).mono ?_
    rintro e w1 ⟨rfl, rfl⟩
    rw [D1.out]
    go_wp2_with fail
    go_ret
    rw [HE.out]
    exact ⟨rfl, new_below _ _⟩
  | true =>
    have D1 := Lib.hid d1
    have HZ := Lib.hid (fdz_self (qs := qs) (i := i) (by rw [hL]; exact hi))
    have HE : Hid (dcC qs i = (if fdI qs (dn qs i).name < i then 7 else if 8 < (dn qs i).args.length then 9 else
      if sSo (dn qs i).sort = false ∨ (dn qs i).args.all sTh = false ∨ ((dn qs i).sort = 5 ∧ 0 < (dn qs i).args.length) then 4 else 0)) := Lib.hid (by
        unfold dcC; rw [if_neg (by rw [d1]; decide)])
    clear h hx hs d1 hL
    generalize hnm : (dn qs i).name = nm at *
    generalize hag : (dn qs i).args = ag at *
    generalize hst : (dn qs i).sort = st at *
    generalize hal : ag.length = al at *
    generalize hff : fdI qs nm = f at *
    have HAL := Lib.hid hal
    clear hnm hag hst hal hff
    by_cases h1 : f < i
    · rw [if_pos h1] at HE
      go_enter Tryz.func43, Tryz.ntmps43
      go_wp2_with fail
      refine (goodname_any _ _ HS.out).mono ?_
      rintro e w1 ⟨rfl, rfl⟩
      rw [D1.out]
      go_wp2_with fail
      refine (HDEC.out _ (HA.out.below (new_below _ _))).mono ?_
      rintro e w1 ⟨rfl, rfl⟩
      rw [HZ.out]
      go_wp2_with fail
      go_ret
      rw [HE.out]
      exact ⟨rfl, new_below _ _⟩
    · rw [if_neg h1] at HE
      go_enter Tryz.func43, Tryz.ntmps43
      go_wp2_with fail
      refine (goodname_any _ _ HS.out).mono ?_
      rintro e w1 ⟨rfl, rfl⟩
      rw [D1.out]
      go_wp2_with fail
      refine (HDEC.out _ (HA.out.below (new_below _ _))).mono ?_
      rintro e w1 ⟨rfl, rfl⟩
      rw [HZ.out]
      have GX : Hid (Below w.heap.size w (w.alloc (.cells #[.string nm, .slice A' al c', .int .i64 st] 52))) := Lib.hid (new_below _ _)
      have HX := Lib.hid (HXX.out.below GX.out)
      have lx := HN.out.lt
      obtain ⟨x0, x1, x2, _⟩ := HN.out.three
      generalize w.alloc (.cells #[.string nm, .slice A' al c', .int .i64 st] 52) = w1 at *
      by_cases h8 : 8 < al
      · rw [if_pos h8] at HE
        go_wp2_with fail
        go_ret
        rw [HE.out]
        exact ⟨rfl, GX.out⟩
      · rw [if_neg h8] at HE
        cases e2 : sWd st with
        | false =>
          have E2 := Lib.hid (wb_nil e2)
          by_cases h1 : st < 1
          · rw [if_pos (.inl (by unfold sSo; rw [e2]; simp; omega))] at HE
            clear e2
            go_wp2_with fail
            refine (wordbits_any _ _).mono ?_
            rintro e w2 ⟨rfl, rfl⟩
            rw [E2.out]
            go_wp2_with fail
            go_ret
            rw [HE.out]
            exact ⟨rfl, GX.out⟩
          · by_cases h5 : 5 < st
            · rw [if_pos (.inl (by unfold sSo; rw [e2]; simp; omega))] at HE
              clear e2
              go_wp2_with fail
              refine (wordbits_any _ _).mono ?_
              rintro e w2 ⟨rfl, rfl⟩
              rw [E2.out]
              go_wp2_with fail
              go_ret
              rw [HE.out]
              exact ⟨rfl, GX.out⟩
            · have HE' : Hid (dcC qs i = if ag.all sTh = false ∨ (st = 5 ∧ 0 < al) then 4 else 0) := Lib.hid (by rw [HE.out]; have : sSo st = true := (by unfold sSo; rw [e2]; simp; omega); rw [this]; simp)
              have t1 : decide (st < 1) = false := by simp; omega
              have t2 : decide (5 < st) = false := by simp; omega
              clear HE e2
              by_cases hv : st = 5
              · have t5 : (st == 5) = true := by simpa using hv
                by_cases h0 : 0 < al
                · rw [if_pos (.inr ⟨hv, h0⟩)] at HE'
                  have t0 : decide (0 < al) = true := by simpa using h0
                  clear hv
                  go_wp2_with fail
                  refine (wordbits_any _ _).mono ?_
                  rintro e w2 ⟨rfl, rfl⟩
                  rw [E2.out]
                  go_wp2_with fail
                  go_ret
                  rw [HE'.out]
                  exact ⟨rfl, GX.out⟩
                · obtain rfl : al = 0 := by omega
                  rw [if_neg (by rw [all_nil sTh HAL.out]; simp)] at HE'
                  clear hv
                  go_wp2_with fail
                  refine (wordbits_any _ _).mono ?_
                  rintro e w2 ⟨rfl, rfl⟩
                  rw [E2.out]
                  go_wp2_with fail
                  go_loopw [6] (fun k wr => k = .int .i64 0 ∧ Hid (w1 = wr)) (fun k _ => 0)
                  case atStart => exact ⟨rfl, rfl⟩
                  case round =>
                    obtain ⟨rfl, HW⟩ := hrel
                    rw [HW.out] at x1
                    go_wp2_with fail
                    go_ret
                    rw [HE'.out]
                    exact ⟨rfl, by rw [← HW.out]; exact GX.out⟩
              · have HE2 : Hid (dcC qs i = if ag.all sTh = false then 4 else 0) := Lib.hid (by rw [HE'.out]; simp [hv])
                have t5 : (st == 5) = false := by simpa using hv
                clear HE' hv
                go_wp2_with fail
                refine (wordbits_any _ _).mono ?_
                rintro e w2 ⟨rfl, rfl⟩
                rw [E2.out]
                go_wp2_with fail
                go_loopw [6] (fun k wr => ∃ j : Nat, j ≤ al ∧ k = .int .i64 j ∧ Hid (∀ m, m < j → sTh (nth ag m) = true) ∧ Hid (w1 = wr)) (fun k _ => al - (intOf k).toNat)
                case atStart => exact ⟨0, by omega, rfl, fun m hm => absurd hm (by omega), rfl⟩
                case round =>
                  obtain ⟨j, hj, rfl, HP, HW⟩ := hrel
                  have HW2 := HW.out
                  subst HW2
                  by_cases hlt : j < al
                  · obtain ⟨b2, o2, rfl, _, y0⟩ := is_at (i := j) HX.out (by rw [HAL.out]; exact hlt)
                    have t3 : decide ((j : Int) < al) = true := by simpa using hlt
                    cases d : sTh (nth ag j) with
                    | true =>
                      have HD := Lib.hid d
                      have d2 : (nth ag j != 4) = false := by unfold sTh at d; simpa using d
                      clear d
                      go_wp2_with fail
                      go_round
                      case rel => exact ⟨j + 1, by omega, by go_num, fun m hm => by
                        rcases Nat.lt_or_ge m j with z | z
                        · exact HP.out m z
                        · obtain rfl : m = j := by omega
                          exact HD.out, Lib.hid (by trivial)⟩
                      case measure => simp [intOf]; omega
                    | false =>
                      have d2 : (nth ag j != 4) = true := by unfold sTh at d; simpa using d
                      rw [if_pos (not_all (by rw [HAL.out]; exact hlt) d)] at HE2
                      clear d
                      go_wp2_with fail
                      go_ret
                      rw [HE2.out]
                      exact ⟨rfl, GX.out⟩
                  · obtain rfl : j = al := by omega
                    have t3 : decide ((j : Int) < j) = false := by simp
                    rw [if_neg (by rw [all_of (fun m hm => HP.out m (by rw [HAL.out] at hm; exact hm))]; decide)] at HE2
                    clear hlt
                    go_wp2_with fail
                    go_ret
                    rw [HE2.out]
                    exact ⟨rfl, GX.out⟩
        | true =>
          have E2 := Lib.hid (wb_pos e2)
          have E3 : Hid (¬ st = 5) := Lib.hid (by unfold sWd at e2; simp at e2; omega)
          have HE2 : Hid (dcC qs i = if ag.all sTh = false then 4 else 0) := Lib.hid (by rw [HE.out]; have : sSo st = true := (by unfold sSo; rw [e2]; simp); rw [this]; simp [E3.out])
          have t5 : (st == 5) = false := by simpa using E3.out
          clear HE e2
          go_wp2_with fail
          refine (wordbits_any _ _).mono ?_
          rintro e w2 ⟨rfl, rfl⟩
          have E4 := E2.out
          go_wp2_with fail
          clear E4
          go_loopw [6] (fun k wr => ∃ j : Nat, j ≤ al ∧ k = .int .i64 j ∧ Hid (∀ m, m < j → sTh (nth ag m) = true) ∧ Hid (w1 = wr)) (fun k _ => al - (intOf k).toNat)
          case atStart => exact ⟨0, by omega, rfl, fun m hm => absurd hm (by omega), rfl⟩
          case round =>
            obtain ⟨j, hj, rfl, HP, HW⟩ := hrel
            have HW2 := HW.out
            subst HW2
            by_cases hlt : j < al
            · obtain ⟨b2, o2, rfl, _, y0⟩ := is_at (i := j) HX.out (by rw [HAL.out]; exact hlt)
              have t3 : decide ((j : Int) < al) = true := by simpa using hlt
              cases d : sTh (nth ag j) with
              | true =>
                have HD := Lib.hid d
                have d2 : (nth ag j != 4) = false := by unfold sTh at d; simpa using d
                clear d
                go_wp2_with fail
                go_round
                case rel => exact ⟨j + 1, by omega, by go_num, fun m hm => by
                  rcases Nat.lt_or_ge m j with z | z
                  · exact HP.out m z
                  · obtain rfl : m = j := by omega
                    exact HD.out, Lib.hid (by trivial)⟩
                case measure => simp [intOf]; omega
              | false =>
                have d2 : (nth ag j != 4) = true := by unfold sTh at d; simpa using d
                rw [if_pos (not_all (by rw [HAL.out]; exact hlt) d)] at HE2
                clear d
                go_wp2_with fail
                go_ret
                rw [HE2.out]
                exact ⟨rfl, GX.out⟩
            · obtain rfl : j = al := by omega
              have t3 : decide ((j : Int) < j) = false := by simp
              rw [if_neg (by rw [all_of (fun m hm => HP.out m (by rw [HAL.out] at hm; exact hm))]; decide)] at HE2
              clear hlt
              go_wp2_with fail
              go_ret
              rw [HE2.out]
              exact ⟨rfl, GX.out⟩
end Go.Proofs.YtaodebpogibimaaGreat
namespace Go.Proofs.YtaodebpogibimaaGreat
open Go.RowKit

/-- Is n / d a fraction that a node may have? -/
def isFr (n d : Int) : Bool := decide (-1000000 ≤ n ∧ n ≤ 1000000 ∧ 1 ≤ d ∧ d ≤ 1000000 ∧ Nat.gcd (mag n) (mag d) = 1)
theorem isfr_valid {n d : Int} (h1 : -1000000 ≤ n) (h2 : n ≤ 1000000) (h3 : d ≤ 1000000) : fvalid n d = isFr n d := by
  unfold fvalid isFr
  congr 1
  apply propext
  constructor
  · rintro ⟨a, b, c, e, f⟩; exact ⟨h1, h2, a, h3, f⟩
  · rintro ⟨a, b, c, e, f⟩; exact ⟨c, by omega, by omega, by omega, f⟩
theorem isfr_no {n d : Int} (h : n < -1000000 ∨ 1000000 < n ∨ 1000000 < d) : isFr n d = false := by
  unfold isFr
  simp
  omega
set_option maxHeartbeats 1000000 in
theorem isfr_any (n d : Int) (w : World) : Calls Tryz.prog 103 #[.int .i64 n, .int .i64 d] w fun e w' => e = .returned (.bool (isFr n d)) ∧ Below w.heap.size w w' := by
  by_cases h1 : -1000000 ≤ n
  · have d1 : decide (-1000000 ≤ n) = true := by simpa using h1
    by_cases h2 : n ≤ 1000000
    · have d2 : decide (n ≤ 1000000) = true := by simpa using h2
      by_cases h3 : d ≤ 1000000
      · have d3 : decide (d ≤ 1000000) = true := by simpa using h3
        have HV := Lib.hid (isfr_valid h1 h2 h3)
        cases hf : isFr n d with
        | true =>
          have HC := Lib.hid (fun W => check_yes n d W (by rw [HV.out]; exact hf))
          clear h1 h2 h3 hf
          go_enter Tryz.func103, Tryz.ntmps103
          go_wp2_with fail
          refine (HC.out _).mono ?_
          rintro e w1 ⟨rfl, hb1⟩
          have HB1 := Lib.hid hb1
          clear hb1
          go_wp2_with fail
          go_ret
          exact ⟨rfl, HB1.out⟩
        | false =>
          have HC := Lib.hid (fun W => check_no n d W (by rw [HV.out]; exact hf))
          clear h1 h2 h3 hf
          go_enter Tryz.func103, Tryz.ntmps103
          go_wp2_with fail
          refine (HC.out _).mono ?_
          rintro e w1 ⟨rfl, hb1⟩
          have HB1 := Lib.hid hb1
          clear hb1
          go_wp2_with fail
          go_ret
          exact ⟨rfl, HB1.out⟩
      · have d3 : decide (d ≤ 1000000) = false := by simpa using h3
        rw [isfr_no (.inr (.inr (by omega)))]
        clear h1 h2 h3
        go_enter Tryz.func103, Tryz.ntmps103
        go_wp2_with fail
        go_ret
        exact ⟨rfl, Below.refl _ _⟩
    · have d2 : decide (n ≤ 1000000) = false := by simpa using h2
      rw [isfr_no (.inr (.inl (by omega)))]
      clear h1 h2
      go_enter Tryz.func103, Tryz.ntmps103
      go_wp2_with fail
      go_ret
      exact ⟨rfl, Below.refl _ _⟩
  · have d1 : decide (-1000000 ≤ n) = false := by simpa using h1
    rw [isfr_no (.inl (by omega))]
    clear h1
    go_enter Tryz.func103, Tryz.ntmps103
    go_wp2_with fail
    go_ret
    exact ⟨rfl, Below.refl _ _⟩
theorem mag_tmod (a b : Int) : mag (a.tmod b) = mag a % mag b := by unfold mag; exact Int.natAbs_tmod a b
set_option maxHeartbeats 1000000 in
theorem gcd_ref (n d : Int) (h1 : -1000000 ≤ n) (h2 : n ≤ 1000000) (h3 : 1 ≤ d) (h4 : d ≤ 1000000) (w : World) :
    Calls Tryz.prog 91 #[.int .i64 n, .int .i64 d] w fun e w' => e = .returned (.int .i64 (Nat.gcd (mag n) (mag d) : Nat)) ∧ ∃ m, w' = w.drewN m := by
  go_enter Tryz.func91, Tryz.ntmps91
  go_wp2_with fail
  go_loopw [0, 1] (fun a b wr => ∃ x y : Int, a = .int .i64 x ∧ b = .int .i64 y ∧ -1000000 ≤ x ∧ x ≤ 1000000 ∧ -1000000 ≤ y ∧ y ≤ 1000000 ∧ Hid (Nat.gcd (mag x) (mag y) = Nat.gcd (mag n) (mag d)) ∧ Hid (∃ m, wr = w.drewN m)) (fun _ b _ => (intOf b).natAbs)
  case atStart => exact ⟨n, d, rfl, rfl, h1, h2, by omega, h4, rfl, 0, rfl⟩
  case round =>
    obtain ⟨x, y, rfl, rfl, b1, b2, b3, b4, HG, HW⟩ := hrel
    by_cases hy : y = 0
    · subst hy
      have HG2 : Hid (mag x = Nat.gcd (mag n) (mag d)) := Lib.hid (by rw [← HG.out]; simp [mag])
      by_cases hx : x < 0
      · have d1 : decide (x < 0) = true := by simpa using hx
        go_wp2_with fail
        go_ret
        exact ⟨ret_int (by rw [← HG2.out]; unfold mag; omega), HW.out⟩
      · have d1 : decide (x < 0) = false := by simpa using hx
        go_wp2_with fail
        go_ret
        exact ⟨ret_int (by rw [← HG2.out]; unfold mag; omega), HW.out⟩
    · have d1 : (y != 0) = true := by simpa using hy
      go_wp2_with fail
      go_quiet (fail)
      go_wp2_with fail
      have hm : mag (x.tmod y) < mag y := by rw [mag_tmod]; exact Nat.mod_lt _ (by unfold mag; omega)
      have hb : mag y ≤ 1000000 := by unfold mag; omega
      have HS : Hid (Nat.gcd (mag y) (mag (x.tmod y)) = Nat.gcd (mag n) (mag d)) := Lib.hid (by rw [mag_tmod, gcd_step]; exact HG.out)
      unfold mag at hm hb
      generalize x.tmod y = z at *
      go_round
      case rel =>
        obtain ⟨m, hm2⟩ := HW.out
        exact ⟨y, z, rfl, rfl, b3, b4, by omega, by omega, HS, Lib.hid ⟨m + nq, by rw [hm2]; simp [World.drewN, Nat.add_assoc]⟩⟩
      case measure => simp [intOf]; omega
end Go.Proofs.YtaodebpogibimaaGreat
namespace Go.Proofs.YtaodebpogibimaaGreat
open Go.RowKit

/-- What is wrong with the name and the numbers of a node. -/
def flC (op n d : Int) (e : Bool) : Int :=
  if e = false ∧ op ≠ 9 then 5 else if n ≠ 0 ∧ op ≠ 10 ∧ op ≠ 12 ∧ op ≠ 15 ∧ op ≠ 23 then 5 else if d ≠ 0 ∧ op ≠ 10 ∧ op ≠ 12 ∧ op ≠ 15 then 5 else
  if (op = 10 ∨ op = 12) ∧ isFr n d = false then 3 else if op = 15 ∧ ¬ (1 ≤ d ∧ d ≤ 8 ∧ 0 ≤ n ∧ n < 2 ^ d.toNat) then 3 else if op = 23 ∧ (n < 0 ∨ 8 < n) then 3 else 0
theorem tl_b (s : ByteArray) : s.toList.isEmpty = true ∨ s.toList.isEmpty = false := by cases s.toList.isEmpty <;> simp
end Go.Proofs.YtaodebpogibimaaGreat
