/-
  Asks: what is wrong with a declaration, by the reference.
-/
import Derived.Test.YtjjjgffpmghfgaaAskF
namespace Go.Proofs.Ytjjjgffpmghfgaa
open Go.RowKit

theorem wb_pos {s : Int} (h : sWd s = true) : (wBits s == 0) = false := by
  unfold sWd at h; unfold wBits
  simp at h
  rw [if_pos h]
  simp; omega
theorem wb_nil {s : Int} (h : sWd s = false) : wBits s = 0 := by
  unfold sWd at h; unfold wBits
  simp at h
  rw [if_neg (by omega)]
theorem all_nil {xs : List Int} (p : Int → Bool) (h : xs.length = 0) : xs.all p = true := by
  cases xs with
  | nil => rfl
  | cons a l => simp at h
set_option maxHeartbeats 2000000 in
theorem declfault_any (qs : List Dc) (A : Option Addr) (c : Nat) (i : Nat) (hi : i < qs.length) (hc : qs.length ≤ c) (hl : c ≤ maxLen) (w : World) (h : DsAt w A qs) :
    Calls Try.prog 58 #[.slice A qs.length c, .int .i64 i] w fun e w' => e = .returned (.int .i64 (dcC qs i)) ∧ Below w.heap.size w w' := by
  obtain ⟨b, o, A', c', rfl, hb, c0, c1, c2, hs, ha, hx⟩ := ds_at h hi
  have HS := Lib.hid hs
  have HA := Lib.hid h
  have HDEC := Lib.hid (fun (W : World) (hW : DsAt W (some ⟨b, o, none⟩) qs) => declof_any qs (some ⟨b, o, none⟩) c (dn qs i).name (by omega) W hW)
  unfold maxLen at hl ha
  have HL := Lib.hid hi
  have HXX := Lib.hid hx
  have HN := Lib.hid (HB.new w 70 #[.string (dn qs i).name, .slice A' (dn qs i).args.length c', .int .i64 (dn qs i).sort])
  generalize hL : qs.length = L at *
  cases d1 : okNm (dn qs i).name with
  | false =>
    have D1 := Lib.hid d1
    have HE : Hid (dcC qs i = 12) := Lib.hid (by unfold dcC; rw [d1, if_pos rfl])
    clear h hx hs d1 hL
    go_enter Try.func58, Try.ntmps58
    go_wp2_with fail
    refine (goodname_any _ _ HS.out).mono ?_
    rintro e w1 ⟨rfl, rfl⟩
    rw [D1.out]
    go_wp2_with fail
    go_ret
    rw [HE.out]
    exact ⟨rfl, new_below _ _⟩
  | true =>
    have D1 := Lib.hid d1
    have HZ := Lib.hid (fdz_self (qs := qs) (i := i) (by rw [hL]; exact hi))
    have HE : Hid (dcC qs i = (if fdI qs (dn qs i).name < i then 7 else if 8 < (dn qs i).args.length then 9 else
      if sSo (dn qs i).sort = false ∨ (dn qs i).args.all sTh = false ∨ ((dn qs i).sort = 5 ∧ 0 < (dn qs i).args.length) then 4 else 0)) := Lib.hid (by
        unfold dcC; rw [if_neg (by rw [d1]; decide)])
    clear h hx hs d1 hL
    generalize hnm : (dn qs i).name = nm at *
    generalize hag : (dn qs i).args = ag at *
    generalize hst : (dn qs i).sort = st at *
    generalize hal : ag.length = al at *
    generalize hff : fdI qs nm = f at *
    have HAL := Lib.hid hal
    clear hnm hag hst hal hff
    by_cases h1 : f < i
    · rw [if_pos h1] at HE
      go_enter Try.func58, Try.ntmps58
      go_wp2_with fail
      refine (goodname_any _ _ HS.out).mono ?_
      rintro e w1 ⟨rfl, rfl⟩
      rw [D1.out]
      go_wp2_with fail
      refine (HDEC.out _ (HA.out.below (new_below _ _))).mono ?_
      rintro e w1 ⟨rfl, rfl⟩
      rw [HZ.out]
      go_wp2_with fail
      go_ret
      rw [HE.out]
      exact ⟨rfl, new_below _ _⟩
    · rw [if_neg h1] at HE
      go_enter Try.func58, Try.ntmps58
      go_wp2_with fail
      refine (goodname_any _ _ HS.out).mono ?_
      rintro e w1 ⟨rfl, rfl⟩
      rw [D1.out]
      go_wp2_with fail
      refine (HDEC.out _ (HA.out.below (new_below _ _))).mono ?_
      rintro e w1 ⟨rfl, rfl⟩
      rw [HZ.out]
      have GX : Hid (Below w.heap.size w (w.alloc (.cells #[.string nm, .slice A' al c', .int .i64 st] 70))) := Lib.hid (new_below _ _)
      have HX := Lib.hid (HXX.out.below GX.out)
      have lx := HN.out.lt
      obtain ⟨x0, x1, x2, _⟩ := HN.out.three
      generalize w.alloc (.cells #[.string nm, .slice A' al c', .int .i64 st] 70) = w1 at *
      by_cases h8 : 8 < al
      · rw [if_pos h8] at HE
        go_wp2_with fail
        go_ret
        rw [HE.out]
        exact ⟨rfl, GX.out⟩
      · rw [if_neg h8] at HE
        cases e2 : sWd st with
        | false =>
          have E2 := Lib.hid (wb_nil e2)
          by_cases h1 : st < 1
          · rw [if_pos (.inl (by unfold sSo; rw [e2]; simp; omega))] at HE
            clear e2
            go_wp2_with fail
            refine (wordbits_any _ _).mono ?_
            rintro e w2 ⟨rfl, rfl⟩
            rw [E2.out]
            go_wp2_with fail
            go_ret
            rw [HE.out]
            exact ⟨rfl, GX.out⟩
          · by_cases h5 : 5 < st
            · rw [if_pos (.inl (by unfold sSo; rw [e2]; simp; omega))] at HE
              clear e2
              go_wp2_with fail
              refine (wordbits_any _ _).mono ?_
              rintro e w2 ⟨rfl, rfl⟩
              rw [E2.out]
              go_wp2_with fail
              go_ret
              rw [HE.out]
              exact ⟨rfl, GX.out⟩
            · have HE' : Hid (dcC qs i = if ag.all sTh = false ∨ (st = 5 ∧ 0 < al) then 4 else 0) := Lib.hid (by rw [HE.out]; have : sSo st = true := (by unfold sSo; rw [e2]; simp; omega); rw [this]; simp)
              have t1 : decide (st < 1) = false := by simp; omega
              have t2 : decide (5 < st) = false := by simp; omega
              clear HE e2
              by_cases hv : st = 5
              · have t5 : (st == 5) = true := by simpa using hv
                by_cases h0 : 0 < al
                · rw [if_pos (.inr ⟨hv, h0⟩)] at HE'
                  have t0 : decide (0 < al) = true := by simpa using h0
                  clear hv
                  go_wp2_with fail
                  refine (wordbits_any _ _).mono ?_
                  rintro e w2 ⟨rfl, rfl⟩
                  rw [E2.out]
                  go_wp2_with fail
                  go_ret
                  rw [HE'.out]
                  exact ⟨rfl, GX.out⟩
                · obtain rfl : al = 0 := by omega
                  rw [if_neg (by rw [all_nil sTh HAL.out]; simp)] at HE'
                  clear hv
                  go_wp2_with fail
                  refine (wordbits_any _ _).mono ?_
                  rintro e w2 ⟨rfl, rfl⟩
                  rw [E2.out]
                  go_wp2_with fail
                  go_loopw [6] (fun k wr => k = .int .i64 0 ∧ Hid (w1 = wr)) (fun k _ => 0)
                  case atStart => exact ⟨rfl, rfl⟩
                  case round =>
                    obtain ⟨rfl, HW⟩ := hrel
                    rw [HW.out] at x1
                    go_wp2_with fail
                    go_ret
                    rw [HE'.out]
                    exact ⟨rfl, by rw [← HW.out]; exact GX.out⟩
              · have HE2 : Hid (dcC qs i = if ag.all sTh = false then 4 else 0) := Lib.hid (by rw [HE'.out]; simp [hv])
                have t5 : (st == 5) = false := by simpa using hv
                clear HE' hv
                go_wp2_with fail
                refine (wordbits_any _ _).mono ?_
                rintro e w2 ⟨rfl, rfl⟩
                rw [E2.out]
                go_wp2_with fail
                go_loopw [6] (fun k wr => ∃ j : Nat, j ≤ al ∧ k = .int .i64 j ∧ Hid (∀ m, m < j → sTh (nth ag m) = true) ∧ Hid (w1 = wr)) (fun k _ => al - (intOf k).toNat)
                case atStart => exact ⟨0, by omega, rfl, fun m hm => absurd hm (by omega), rfl⟩
                case round =>
                  obtain ⟨j, hj, rfl, HP, HW⟩ := hrel
                  have HW2 := HW.out
                  subst HW2
                  by_cases hlt : j < al
                  · obtain ⟨b2, o2, rfl, _, y0⟩ := is_at (i := j) HX.out (by rw [HAL.out]; exact hlt)
                    have t3 : decide ((j : Int) < al) = true := by simpa using hlt
                    cases d : sTh (nth ag j) with
                    | true =>
                      have HD := Lib.hid d
                      have d2 : (nth ag j != 4) = false := by unfold sTh at d; simpa using d
                      clear d
                      go_wp2_with fail
                      go_round
                      case rel => exact ⟨j + 1, by omega, by go_num, fun m hm => by
                        rcases Nat.lt_or_ge m j with z | z
                        · exact HP.out m z
                        · obtain rfl : m = j := by omega
                          exact HD.out, Lib.hid (by trivial)⟩
                      case measure => simp [intOf]; omega
                    | false =>
                      have d2 : (nth ag j != 4) = true := by unfold sTh at d; simpa using d
                      rw [if_pos (not_all (by rw [HAL.out]; exact hlt) d)] at HE2
                      clear d
                      go_wp2_with fail
                      go_ret
                      rw [HE2.out]
                      exact ⟨rfl, GX.out⟩
                  · obtain rfl : j = al := by omega
                    have t3 : decide ((j : Int) < j) = false := by simp
                    rw [if_neg (by rw [all_of (fun m hm => HP.out m (by rw [HAL.out] at hm; exact hm))]; decide)] at HE2
                    clear hlt
                    go_wp2_with fail
                    go_ret
                    rw [HE2.out]
                    exact ⟨rfl, GX.out⟩
        | true =>
          have E2 := Lib.hid (wb_pos e2)
          have E3 : Hid (¬ st = 5) := Lib.hid (by unfold sWd at e2; simp at e2; omega)
          have HE2 : Hid (dcC qs i = if ag.all sTh = false then 4 else 0) := Lib.hid (by rw [HE.out]; have : sSo st = true := (by unfold sSo; rw [e2]; simp); rw [this]; simp [E3.out])
          have t5 : (st == 5) = false := by simpa using E3.out
          clear HE e2
          go_wp2_with fail
          refine (wordbits_any _ _).mono ?_
          rintro e w2 ⟨rfl, rfl⟩
          have E4 := E2.out
          go_wp2_with fail
          clear E4
          go_loopw [6] (fun k wr => ∃ j : Nat, j ≤ al ∧ k = .int .i64 j ∧ Hid (∀ m, m < j → sTh (nth ag m) = true) ∧ Hid (w1 = wr)) (fun k _ => al - (intOf k).toNat)
          case atStart => exact ⟨0, by omega, rfl, fun m hm => absurd hm (by omega), rfl⟩
          case round =>
            obtain ⟨j, hj, rfl, HP, HW⟩ := hrel
            have HW2 := HW.out
            subst HW2
            by_cases hlt : j < al
            · obtain ⟨b2, o2, rfl, _, y0⟩ := is_at (i := j) HX.out (by rw [HAL.out]; exact hlt)
              have t3 : decide ((j : Int) < al) = true := by simpa using hlt
              cases d : sTh (nth ag j) with
              | true =>
                have HD := Lib.hid d
                have d2 : (nth ag j != 4) = false := by unfold sTh at d; simpa using d
                clear d
                go_wp2_with fail
                go_round
                case rel => exact ⟨j + 1, by omega, by go_num, fun m hm => by
                  rcases Nat.lt_or_ge m j with z | z
                  · exact HP.out m z
                  · obtain rfl : m = j := by omega
                    exact HD.out, Lib.hid (by trivial)⟩
                case measure => simp [intOf]; omega
              | false =>
                have d2 : (nth ag j != 4) = true := by unfold sTh at d; simpa using d
                rw [if_pos (not_all (by rw [HAL.out]; exact hlt) d)] at HE2
                clear d
                go_wp2_with fail
                go_ret
                rw [HE2.out]
                exact ⟨rfl, GX.out⟩
            · obtain rfl : j = al := by omega
              have t3 : decide ((j : Int) < j) = false := by simp
              rw [if_neg (by rw [all_of (fun m hm => HP.out m (by rw [HAL.out] at hm; exact hm))]; decide)] at HE2
              clear hlt
              go_wp2_with fail
              go_ret
              rw [HE2.out]
              exact ⟨rfl, GX.out⟩
end Go.Proofs.Ytjjjgffpmghfgaa
