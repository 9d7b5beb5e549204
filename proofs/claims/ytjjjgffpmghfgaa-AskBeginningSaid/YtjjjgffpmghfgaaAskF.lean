/-
  Asks: what is wrong with a declaration.
-/
import Derived.Test.YtjjjgffpmghfgaaAskE
namespace Go.Proofs.Ytjjjgffpmghfgaa
open Go.RowKit

/-- What is wrong with a declared name. -/
def dcC (qs : List Dc) (i : Nat) : Int :=
  if okNm (dn qs i).name = false then 12 else if fdI qs (dn qs i).name < i then 7 else if 8 < (dn qs i).args.length then 9 else
  if sSo (dn qs i).sort = false ∨ (dn qs i).args.all sTh = false ∨ ((dn qs i).sort = 5 ∧ 0 < (dn qs i).args.length) then 4 else 0
theorem fd_self {qs : List Dc} {i : Nat} (hi : i < qs.length) : fdI qs (dn qs i).name ≤ i := by
  unfold fdI
  rcases Nat.lt_or_ge i (qs.findIdx fun q => q.name.toList == (dn qs i).name.toList) with z | z
  · have := List.not_of_lt_findIdx z
    rw [dn_el hi] at this
    simp at this
  · exact z
theorem fdz_self {qs : List Dc} {i : Nat} (hi : i < qs.length) : fdZ qs (dn qs i).name = fdI qs (dn qs i).name := by
  unfold fdZ
  rw [if_pos (Nat.lt_of_le_of_lt (fd_self hi) hi)]
theorem fdz_take {qs : List Dc} {i : Nat} {s : ByteArray} (hi : i ≤ qs.length) : decide (0 ≤ fdZ (qs.take i) s) = decide (fdI qs s < i) := by
  have hl : (qs.take i).length = i := by rw [List.length_take]; omega
  unfold fdZ
  rw [hl]
  have e : (fdI (qs.take i) s < i) ↔ fdI qs s < i := by
    unfold fdI
    have e0 : ((qs.take i).findIdx fun q => q.name.toList == s.toList) < i ↔ ∃ x ∈ qs.take i, (x.name.toList == s.toList) = true := by
      have := List.findIdx_lt_length (xs := qs.take i) (p := fun q => q.name.toList == s.toList)
      rwa [hl] at this
    rw [e0]
    constructor
    · rintro ⟨x, hx, hp⟩
      obtain ⟨j, hj, rfl⟩ := List.getElem_of_mem hx
      rw [hl] at hj
      rw [List.getElem_take] at hp
      rcases Nat.lt_or_ge (qs.findIdx fun q => q.name.toList == s.toList) i with z | z
      · exact z
      · have := List.not_of_lt_findIdx (Nat.lt_of_lt_of_le hj z)
        rw [hp] at this; cases this
    · intro z
      have hz : (qs.findIdx fun q => q.name.toList == s.toList) < qs.length := by omega
      have := List.findIdx_getElem (w := hz)
      refine ⟨_, ?_, this⟩
      rw [List.mem_take_iff_getElem]
      exact ⟨_, by omega, rfl⟩
  by_cases z : fdI qs s < i
  · rw [if_pos (e.2 z)]; simp [z]
  · rw [if_neg (fun y => z (e.1 y))]; simp [z]
theorem DsAt.pre {w : World} {A : Option Addr} {qs : List Dc} (h : DsAt w A qs) (k : Nat) : DsAt w A (qs.take k) := h.take k
set_option maxHeartbeats 2000000 in
theorem wrongdecl_any (qs : List Dc) (A : Option Addr) (c : Nat) (i : Nat) (hi : i < qs.length) (hc : qs.length ≤ c) (hl : c ≤ maxLen) (w : World) (h : DsAt w A qs) :
    Calls Try.prog 22 #[.slice A qs.length c, .int .i64 i] w fun e w' => e = .returned (.int .i64 (dcC qs i)) ∧ Below w.heap.size w w' := by
  obtain ⟨b, o, A', c', rfl, hb, c0, c1, c2, hs, ha, hx⟩ := ds_at h hi
  have HS := Lib.hid hs
  have HA := Lib.hid h
  have HDEC := Lib.hid (fun (W : World) (hW : DsAt W (some ⟨b, o, none⟩) qs) => declared_any (qs.take i) (some ⟨b, o, none⟩) c (dn qs i).name (by rw [List.length_take]; omega) W (hW.pre i))
  have hti : (qs.take i).length = i := by rw [List.length_take]; omega
  rw [hti, ] at HDEC
  unfold maxLen at hl ha
  have HL := Lib.hid hi
  have HXX := Lib.hid hx
  have HN := Lib.hid (HB.new w 70 #[.string (dn qs i).name, .slice A' (dn qs i).args.length c', .int .i64 (dn qs i).sort])
  generalize hL : qs.length = L at *
  cases d1 : okNm (dn qs i).name with
  | false =>
    have D1 := Lib.hid d1
    have HE : Hid (dcC qs i = 12) := Lib.hid (by unfold dcC; rw [d1, if_pos rfl])
    clear h hx hs d1 hti hL
    go_enter Try.func22, Try.ntmps22
    go_wp2_with fail
    refine (isname_any _ _ HS.out).mono ?_
    rintro e w1 ⟨rfl, rfl⟩
    rw [D1.out]
    go_wp2_with fail
    go_ret
    rw [HE.out]
    exact ⟨rfl, new_below _ _⟩
  | true =>
    have D1 := Lib.hid d1
    have HZ := Lib.hid (fdz_take (s := (dn qs i).name) (by rw [hL]; omega : i ≤ qs.length))
    have HE : Hid (dcC qs i = (if fdI qs (dn qs i).name < i then 7 else if 8 < (dn qs i).args.length then 9 else
      if sSo (dn qs i).sort = false ∨ (dn qs i).args.all sTh = false ∨ ((dn qs i).sort = 5 ∧ 0 < (dn qs i).args.length) then 4 else 0)) := Lib.hid (by
        unfold dcC; rw [if_neg (by rw [d1]; decide)])
    have HEV := Lib.hid (fun (W : World) (hW : Is W A' (dn qs i).args) => everything_any (dn qs i).args A' c' ha W hW)
    clear h hx hs d1 hti hL
    generalize hnm : (dn qs i).name = nm at *
    generalize hag : (dn qs i).args = ag at *
    generalize hst : (dn qs i).sort = st at *
    generalize hal : ag.length = al at *
    clear hnm hag hst hal
    go_enter Try.func22, Try.ntmps22
    go_wp2_with fail
    refine (isname_any _ _ HS.out).mono ?_
    rintro e w1 ⟨rfl, rfl⟩
    rw [D1.out]
    go_wp2_with fail
    go_cut [15] (fun s wx => s = .bool (decide (fdI qs nm < i)) ∧ Hid (HB wx w.heap.size 70 #[.string nm, .slice A' al c', .int .i64 st]) ∧ Hid (Below w.heap.size w wx))
    case first =>
      have HD1 := Lib.hid (HDEC.out ((w.alloc (.cells #[.string nm, .slice A' al c', .int .i64 st] 70)).drew) (HA.out.below (new_below _ _).drew))
      go_region_with (go_at_call 37; (with_reducible refine HD1.out.mono ?_); rintro e w1 ⟨rfl, hb1⟩; have G1 : Hid (Below w.heap.size w w1) := bw_below (Nat.le_refl _) (new_below _ _).drew hb1; have N1 := Lib.hid (HN.out.drew.below hb1); clear hb1)
      all_goals
        go_wp2_with fail
        go_meet
        refine ⟨?_, N1, G1⟩
        rw [HZ.out]
    case rest =>
      obtain ⟨rfl, NX, GX⟩ := hcut
      obtain ⟨x0, x1, x2, _⟩ := NX.out.three
      have lx := NX.out.lt
      cases e1 : decide (fdI qs nm < i) with
      | true =>
        rw [if_pos (by simpa using e1)] at HE
        clear e1
        go_wp2_with fail
        go_ret
        rw [HE.out]
        exact ⟨rfl, GX.out⟩
      | false =>
        rw [if_neg (by simpa using e1)] at HE
        clear e1
        by_cases h8 : 8 < al
        · rw [if_pos h8] at HE
          have t8 : decide ((8 : Int) < al) = true := by simp; omega
          clear h8
          go_wp2_with fail
          go_ret
          rw [HE.out]
          exact ⟨rfl, GX.out⟩
        · rw [if_neg h8] at HE
          have t8 : decide ((8 : Int) < al) = false := by simp; omega
          cases e2 : sSo st with
          | false =>
            have E2 := Lib.hid e2
            rw [if_pos (.inl e2)] at HE
            clear e2 h8
            go_wp2_with fail
            refine (issort_any _ _).mono ?_
            rintro e w2 ⟨rfl, rfl⟩
            rw [E2.out]
            go_wp2_with fail
            go_ret
            rw [HE.out]
            exact ⟨rfl, GX.out⟩
          | true =>
            have E2 := Lib.hid e2
            have HV1 := Lib.hid (HEV.out _ (HXX.out.below GX.out))
            cases e3 : ag.all sTh with
            | false =>
              have E3 := Lib.hid e3
              rw [if_pos (.inr (.inl e3))] at HE
              clear e2 h8 e3
              go_wp2_with fail
              refine (issort_any _ _).mono ?_
              rintro e w2 ⟨rfl, rfl⟩
              rw [E2.out]
              go_wp2_with fail
              refine HV1.out.mono ?_
              rintro e w2 ⟨rfl, hb2⟩
              have G2 : Hid (Below w.heap.size w w2) := bw_below (Nat.le_refl _) GX.out hb2
              clear hb2
              rw [E3.out]
              go_wp2_with fail
              go_ret
              rw [HE.out]
              exact ⟨rfl, G2.out⟩
            | true =>
              have E3 := Lib.hid e3
              by_cases h5 : st = 5
              · have t5 : (st == 5) = true := by simpa using h5
                by_cases h0 : 0 < al
                · rw [if_pos (.inr (.inr ⟨h5, h0⟩))] at HE
                  have t0 : decide (0 < al) = true := by simpa using h0
                  clear e2 h8 e3 h5 h0
                  go_wp2_with fail
                  refine (issort_any _ _).mono ?_
                  rintro e w2 ⟨rfl, rfl⟩
                  rw [E2.out]
                  go_wp2_with fail
                  refine HV1.out.mono ?_
                  rintro e w2 ⟨rfl, hb2⟩
                  have G2 : Hid (Below w.heap.size w w2) := bw_below (Nat.le_refl _) GX.out hb2
                  obtain ⟨y0, y1, y2, _⟩ := (NX.out.below hb2).three
                  clear hb2 x0 x1 x2
                  rw [E3.out]
                  go_wp2_with fail
                  go_ret
                  rw [HE.out]
                  exact ⟨rfl, G2.out⟩
                · rw [if_neg (by rw [e2, e3]; simp [h5, h0])] at HE
                  have t0 : decide (0 < al) = false := by simpa using h0
                  clear e2 h8 e3 h5 h0
                  go_wp2_with fail
                  refine (issort_any _ _).mono ?_
                  rintro e w2 ⟨rfl, rfl⟩
                  rw [E2.out]
                  go_wp2_with fail
                  refine HV1.out.mono ?_
                  rintro e w2 ⟨rfl, hb2⟩
                  have G2 : Hid (Below w.heap.size w w2) := bw_below (Nat.le_refl _) GX.out hb2
                  obtain ⟨y0, y1, y2, _⟩ := (NX.out.below hb2).three
                  clear hb2 x0 x1 x2
                  rw [E3.out]
                  go_wp2_with fail
                  go_ret
                  rw [HE.out]
                  exact ⟨rfl, G2.out⟩
              · rw [if_neg (by rw [e2, e3]; simp [h5])] at HE
                have t5 : (st == 5) = false := by simpa using h5
                clear e2 h8 e3 h5
                go_wp2_with fail
                refine (issort_any _ _).mono ?_
                rintro e w2 ⟨rfl, rfl⟩
                rw [E2.out]
                go_wp2_with fail
                refine HV1.out.mono ?_
                rintro e w2 ⟨rfl, hb2⟩
                have G2 : Hid (Below w.heap.size w w2) := bw_below (Nat.le_refl _) GX.out hb2
                obtain ⟨y0, y1, y2, _⟩ := (NX.out.below hb2).three
                clear hb2 x0 x1 x2
                rw [E3.out]
                go_wp2_with fail
                go_ret
                rw [HE.out]
                exact ⟨rfl, G2.out⟩
end Go.Proofs.Ytjjjgffpmghfgaa
