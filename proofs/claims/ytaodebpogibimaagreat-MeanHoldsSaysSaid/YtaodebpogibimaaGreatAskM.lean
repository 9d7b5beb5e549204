/-
  Asks: the sort of a node, operator by operator: regions in whatever order.
-/
import Derived.Test.YtaodebpogibimaaGreatG05
namespace Go.Proofs.YtaodebpogibimaaGreat
open Go.RowKit

theorem whn_same (b : Bool) (s : Int) (w : World) : Calls Tryz.prog 104 #[.bool b, .int .i64 s] w fun e w' => e = .returned (.int .i64 (whn b s)) ∧ w' = w := (whn_any b s w).mono fun _ _ h => ⟨h.1, h.2.symm⟩
theorem isbool_same (s : Int) (b : Bool) (h : sBo s = b) (w : World) : Calls Tryz.prog 105 #[.int .i64 s] w fun e w' => e = .returned (.bool b) ∧ w' = w := by
  subst h
  exact (isbool_any s w).mono fun _ _ h => ⟨h.1, h.2.symm⟩
set_option maxHeartbeats 2000000 in
theorem so43_7 (n d : Int) (nm : ByteArray) (A0 : Option Addr) (k0 c0 : Nat) (ds : Int) (ks : List Int) (A : Option Addr) (c : Nat) (_hl : ks.length ≤ c) (_hcm : c ≤ maxLen) (w : World) (h : Is w A ks) (hn : ks.length = 3) :
    Calls Tryz.prog 74 #[.agg #[.int .i64 7, .slice A0 k0 c0, .int .i64 n, .int .i64 d, .string nm], .int .i64 ds, .slice A ks.length c] w fun e w' => e = .returned (.int .i64 (srt 7 d ds ks)) ∧ Below w.heap.size w w' := by
  obtain ⟨b, o, rfl, hb, cc⟩ := h (by omega)
  have HA0 : Hid (Is w (some ⟨b, o, none⟩) ks) := Lib.hid h
  have k0' := cc 0 (by omega)
  rw [Nat.add_zero] at k0'
  have k1' := cc 1 (by omega)
  have k2' := cc 2 (by omega)
  rw [show srt 7 d ds ks = whn (sBo (nth ks 0) && (nth ks 1 == nth ks 2) && (nth ks 1 != 5)) (nth ks 1) by simp [srt]]
  clear h _hl _hcm cc
  rw [hn]
  clear hn
  generalize nth ks 0 = x0 at *
  generalize nth ks 1 = x1 at *
  generalize nth ks 2 = x2 at *
  have HW := Lib.hid whn_same
  cases q0 : sBo x0 with
  | false =>
    have Q0 := Lib.hid (isbool_same x0 false q0)
    clear q0
    rw [Bool.false_and, Bool.false_and]
    go_enter Tryz.func74, Tryz.ntmps74
    go_wp2_with fail
    go_quiet ((first | (go_at_call 105; exact Calls.quiet_of_same (Q0.out _)) | (go_at_call 104; exact Calls.quiet_of_same (HW.out _ _ _))))
    go_wp2_with fail
    go_ret
    exact ⟨rfl, below_dn (new_below _ _) _⟩
  | true =>
    have Q0 := Lib.hid (isbool_same x0 true q0)
    clear q0
    rw [Bool.true_and]
    cases q1 : x1 == x2 with
    | false =>
      rw [Bool.false_and]
      go_enter Tryz.func74, Tryz.ntmps74
      go_wp2_with fail
      go_quiet ((first | (go_at_call 105; exact Calls.quiet_of_same (Q0.out _)) | (go_at_call 104; exact Calls.quiet_of_same (HW.out _ _ _))))
      go_wp2_with fail
      go_ret
      exact ⟨rfl, below_dn (new_below _ _) _⟩
    | true =>
      rw [Bool.true_and]
      cases q2 : x1 != 5 with
      | false =>
        go_enter Tryz.func74, Tryz.ntmps74
        go_wp2_with fail
        go_quiet ((first | (go_at_call 105; exact Calls.quiet_of_same (Q0.out _)) | (go_at_call 104; exact Calls.quiet_of_same (HW.out _ _ _))))
        go_wp2_with fail
        go_ret
        exact ⟨rfl, below_dn (new_below _ _) _⟩
      | true =>
        go_enter Tryz.func74, Tryz.ntmps74
        go_wp2_with fail
        go_quiet ((first | (go_at_call 105; exact Calls.quiet_of_same (Q0.out _)) | (go_at_call 104; exact Calls.quiet_of_same (HW.out _ _ _))))
        go_wp2_with fail
        go_ret
        exact ⟨rfl, below_dn (new_below _ _) _⟩
set_option maxHeartbeats 2000000 in
theorem so43_24 (n d : Int) (nm : ByteArray) (A0 : Option Addr) (k0 c0 : Nat) (ds : Int) (ks : List Int) (A : Option Addr) (c : Nat) (_hl : ks.length ≤ c) (_hcm : c ≤ maxLen) (w : World) (h : Is w A ks) (hn : ks.length = 2) :
    Calls Tryz.prog 74 #[.agg #[.int .i64 24, .slice A0 k0 c0, .int .i64 n, .int .i64 d, .string nm], .int .i64 ds, .slice A ks.length c] w fun e w' => e = .returned (.int .i64 (srt 24 d ds ks)) ∧ Below w.heap.size w w' := by
  obtain ⟨b, o, rfl, hb, cc⟩ := h (by omega)
  have HA0 : Hid (Is w (some ⟨b, o, none⟩) ks) := Lib.hid h
  have k0' := cc 0 (by omega)
  rw [Nat.add_zero] at k0'
  have k1' := cc 1 (by omega)
  rw [show srt 24 d ds ks = whn ((nth ks 0 == 5) && sTh (nth ks 1)) 4 by simp [srt]]
  clear h _hl _hcm cc
  rw [hn]
  clear hn
  generalize nth ks 0 = x0 at *
  generalize nth ks 1 = x1 at *
  cases q0 : x0 == 5 with
  | false =>
    rw [Bool.false_and]
    go_enter Tryz.func74, Tryz.ntmps74
    go_wp2_with fail
    refine (whn_any _ _ _).mono ?_
    rintro e w2 ⟨rfl, rfl⟩
    go_wp2_with fail
    go_ret
    exact ⟨rfl, new_below _ _⟩
  | true =>
    rw [Bool.true_and]
    go_enter Tryz.func74, Tryz.ntmps74
    go_wp2_with fail
    refine (isthing_any _ _).mono ?_
    rintro e w2 ⟨rfl, rfl⟩
    go_wp2_with fail
    refine (whn_any _ _ _).mono ?_
    rintro e w2 ⟨rfl, rfl⟩
    go_wp2_with fail
    go_ret
    exact ⟨rfl, new_below _ _⟩
set_option maxHeartbeats 2000000 in
theorem so43_25 (n d : Int) (nm : ByteArray) (A0 : Option Addr) (k0 c0 : Nat) (ds : Int) (ks : List Int) (A : Option Addr) (c : Nat) (hl : ks.length ≤ c) (hcm : c ≤ maxLen) (w : World) (h : Is w A ks) (hn : ks.length = 3) :
    Calls Tryz.prog 74 #[.agg #[.int .i64 25, .slice A0 k0 c0, .int .i64 n, .int .i64 d, .string nm], .int .i64 ds, .slice A ks.length c] w fun e w' => e = .returned (.int .i64 (srt 25 d ds ks)) ∧ Below w.heap.size w w' := by
  obtain ⟨b, o, rfl, hb, cc⟩ := h (by omega)
  have HA0 : Hid (Is w (some ⟨b, o, none⟩) ks) := Lib.hid h
  have k0' := cc 0 (by omega)
  rw [Nat.add_zero] at k0'
  have HT : Hid (Is w (some ⟨b, o + 1, none⟩) [nth ks 1, nth ks 2]) := Lib.hid (fun _ => ⟨b, o + 1, rfl, hb, fun k hk => by
    have := cc (k + 1) (by simp at hk; omega)
    rw [show o + 1 + k = o + (k + 1) by omega, this]
    match k, hk with
    | 0, _ => rfl
    | 1, _ => rfl⟩)
  have HV := Lib.hid (fun (W : World) (hW : Is W (some ⟨b, o + 1, none⟩) [nth ks 1, nth ks 2]) => everything_any [nth ks 1, nth ks 2] (some ⟨b, o + 1, none⟩) (c - 1) (by simp [maxLen]) W hW)
  rw [show srt 25 d ds ks = whn ((nth ks 0 == 5) && (sTh (nth ks 1) && sTh (nth ks 2))) 5 by simp [srt], show (sTh (nth ks 1) && sTh (nth ks 2)) = [nth ks 1, nth ks 2].all sTh by simp]
  have hc3 : 3 ≤ c := by omega
  unfold maxLen at hcm
  clear h hl cc
  rw [hn]
  clear hn
  simp only [List.length_cons, List.length_nil] at HV
  generalize [nth ks 1, nth ks 2] = ys at *
  generalize nth ks 0 = x0 at *
  cases q0 : x0 == 5 with
  | false =>
    rw [Bool.false_and]
    go_enter Tryz.func74, Tryz.ntmps74
    go_wp2_with fail
    refine (whn_any _ _ _).mono ?_
    rintro e w2 ⟨rfl, rfl⟩
    go_wp2_with fail
    go_ret
    exact ⟨rfl, new_below _ _⟩
  | true =>
    rw [Bool.true_and]
    go_enter Tryz.func74, Tryz.ntmps74
    go_wp2_with fail
    refine (HV.out _ (HT.out.below (new_below _ _))).mono ?_
    rintro e w1 ⟨rfl, hb1⟩
    have HB1 := Lib.hid (bw_below (Nat.le_refl _) (new_below w _) hb1)
    clear hb1
    go_wp2_with fail
    refine (whn_any _ _ _).mono ?_
    rintro e w2 ⟨rfl, rfl⟩
    go_wp2_with fail
    go_ret
    exact ⟨rfl, HB1.out⟩
set_option maxHeartbeats 2000000 in
theorem so43_16 (n d : Int) (nm : ByteArray) (A0 : Option Addr) (k0 c0 : Nat) (ds : Int) (ks : List Int) (A : Option Addr) (c : Nat) (hl : ks.length ≤ c) (hcm : c ≤ maxLen) (w : World) (h : Is w A ks) (hn : 0 < ks.length) :
    Calls Tryz.prog 74 #[.agg #[.int .i64 16, .slice A0 k0 c0, .int .i64 n, .int .i64 d, .string nm], .int .i64 ds, .slice A ks.length c] w fun e w' => e = .returned (.int .i64 (srt 16 d ds ks)) ∧ Below w.heap.size w w' := by
  obtain ⟨b, o, rfl, hb, cc⟩ := h (by omega)
  have HA0 : Hid (Is w (some ⟨b, o, none⟩) ks) := Lib.hid h
  have k0' := cc 0 (by omega)
  rw [Nat.add_zero] at k0'
  rw [show srt 16 d ds ks = whn (sSw ks) (nth ks 0) by simp [srt]]
  have HV := Lib.hid (fun (W : World) (hW : Is W (some ⟨b, o, none⟩) ks) => samewords_any ks (some ⟨b, o, none⟩) c hn (Nat.le_trans hl hcm) W hW)
  have HA := Lib.hid (HA0.out.below (new_below w (.cells #[.int .i64 16, .slice A0 k0 c0, .int .i64 n, .int .i64 d, .string nm] 56)))
  have HW := Lib.hid whn_any
  unfold maxLen at hcm
  clear h cc
  generalize ks.length = L at *
  go_enter Tryz.func74, Tryz.ntmps74
  go_wp2_with fail
  go_region_with (first
    | (go_at_call 107; (with_reducible refine (HV.out _ ?_).mono ?_); (exact HA.out); rintro e w1 ⟨rfl, hb1⟩; have HB1 := Lib.hid (bw_below (Nat.le_refl _) (new_below w _).drew hb1); clear hb1; have y0 := (HB1.out.cell (p := ⟨b, o, none⟩) hb).trans k0')
    | (go_at_call 104; (with_reducible refine (HW.out _ _ _).mono ?_); rintro e w2 ⟨rfl, rfl⟩))
  all_goals
    go_wp2_with fail
    go_ret
    exact ⟨rfl, HB1.out⟩
set_option maxHeartbeats 2000000 in
theorem so43_17 (n d : Int) (nm : ByteArray) (A0 : Option Addr) (k0 c0 : Nat) (ds : Int) (ks : List Int) (A : Option Addr) (c : Nat) (hl : ks.length ≤ c) (hcm : c ≤ maxLen) (w : World) (h : Is w A ks) (hn : 0 < ks.length) :
    Calls Tryz.prog 74 #[.agg #[.int .i64 17, .slice A0 k0 c0, .int .i64 n, .int .i64 d, .string nm], .int .i64 ds, .slice A ks.length c] w fun e w' => e = .returned (.int .i64 (srt 17 d ds ks)) ∧ Below w.heap.size w w' := by
  obtain ⟨b, o, rfl, hb, cc⟩ := h (by omega)
  have HA0 : Hid (Is w (some ⟨b, o, none⟩) ks) := Lib.hid h
  have k0' := cc 0 (by omega)
  rw [Nat.add_zero] at k0'
  rw [show srt 17 d ds ks = whn (sSw ks) (nth ks 0) by simp [srt]]
  have HV := Lib.hid (fun (W : World) (hW : Is W (some ⟨b, o, none⟩) ks) => samewords_any ks (some ⟨b, o, none⟩) c hn (Nat.le_trans hl hcm) W hW)
  have HA := Lib.hid (HA0.out.below (new_below w (.cells #[.int .i64 17, .slice A0 k0 c0, .int .i64 n, .int .i64 d, .string nm] 56)))
  have HW := Lib.hid whn_any
  unfold maxLen at hcm
  clear h cc
  generalize ks.length = L at *
  go_enter Tryz.func74, Tryz.ntmps74
  go_wp2_with fail
  go_region_with (first
    | (go_at_call 107; (with_reducible refine (HV.out _ ?_).mono ?_); (exact HA.out); rintro e w1 ⟨rfl, hb1⟩; have HB1 := Lib.hid (bw_below (Nat.le_refl _) (new_below w _).drew hb1); clear hb1; have y0 := (HB1.out.cell (p := ⟨b, o, none⟩) hb).trans k0')
    | (go_at_call 104; (with_reducible refine (HW.out _ _ _).mono ?_); rintro e w2 ⟨rfl, rfl⟩))
  all_goals
    go_wp2_with fail
    go_ret
    exact ⟨rfl, HB1.out⟩
set_option maxHeartbeats 2000000 in
theorem so43_18 (n d : Int) (nm : ByteArray) (A0 : Option Addr) (k0 c0 : Nat) (ds : Int) (ks : List Int) (A : Option Addr) (c : Nat) (hl : ks.length ≤ c) (hcm : c ≤ maxLen) (w : World) (h : Is w A ks) (hn : 0 < ks.length) :
    Calls Tryz.prog 74 #[.agg #[.int .i64 18, .slice A0 k0 c0, .int .i64 n, .int .i64 d, .string nm], .int .i64 ds, .slice A ks.length c] w fun e w' => e = .returned (.int .i64 (srt 18 d ds ks)) ∧ Below w.heap.size w w' := by
  obtain ⟨b, o, rfl, hb, cc⟩ := h (by omega)
  have HA0 : Hid (Is w (some ⟨b, o, none⟩) ks) := Lib.hid h
  have k0' := cc 0 (by omega)
  rw [Nat.add_zero] at k0'
  rw [show srt 18 d ds ks = whn (sSw ks) (nth ks 0) by simp [srt]]
  have HV := Lib.hid (fun (W : World) (hW : Is W (some ⟨b, o, none⟩) ks) => samewords_any ks (some ⟨b, o, none⟩) c hn (Nat.le_trans hl hcm) W hW)
  have HA := Lib.hid (HA0.out.below (new_below w (.cells #[.int .i64 18, .slice A0 k0 c0, .int .i64 n, .int .i64 d, .string nm] 56)))
  have HW := Lib.hid whn_any
  unfold maxLen at hcm
  clear h cc
  generalize ks.length = L at *
  go_enter Tryz.func74, Tryz.ntmps74
  go_wp2_with fail
  go_region_with (first
    | (go_at_call 107; (with_reducible refine (HV.out _ ?_).mono ?_); (exact HA.out); rintro e w1 ⟨rfl, hb1⟩; have HB1 := Lib.hid (bw_below (Nat.le_refl _) (new_below w _).drew hb1); clear hb1; have y0 := (HB1.out.cell (p := ⟨b, o, none⟩) hb).trans k0')
    | (go_at_call 104; (with_reducible refine (HW.out _ _ _).mono ?_); rintro e w2 ⟨rfl, rfl⟩))
  all_goals
    go_wp2_with fail
    go_ret
    exact ⟨rfl, HB1.out⟩
set_option maxHeartbeats 2000000 in
theorem so43_19 (n d : Int) (nm : ByteArray) (A0 : Option Addr) (k0 c0 : Nat) (ds : Int) (ks : List Int) (A : Option Addr) (c : Nat) (hl : ks.length ≤ c) (hcm : c ≤ maxLen) (w : World) (h : Is w A ks) (hn : 0 < ks.length) :
    Calls Tryz.prog 74 #[.agg #[.int .i64 19, .slice A0 k0 c0, .int .i64 n, .int .i64 d, .string nm], .int .i64 ds, .slice A ks.length c] w fun e w' => e = .returned (.int .i64 (srt 19 d ds ks)) ∧ Below w.heap.size w w' := by
  obtain ⟨b, o, rfl, hb, cc⟩ := h (by omega)
  have HA0 : Hid (Is w (some ⟨b, o, none⟩) ks) := Lib.hid h
  have k0' := cc 0 (by omega)
  rw [Nat.add_zero] at k0'
  rw [show srt 19 d ds ks = whn (sSw ks) (nth ks 0) by simp [srt]]
  have HV := Lib.hid (fun (W : World) (hW : Is W (some ⟨b, o, none⟩) ks) => samewords_any ks (some ⟨b, o, none⟩) c hn (Nat.le_trans hl hcm) W hW)
  have HA := Lib.hid (HA0.out.below (new_below w (.cells #[.int .i64 19, .slice A0 k0 c0, .int .i64 n, .int .i64 d, .string nm] 56)))
  have HW := Lib.hid whn_any
  unfold maxLen at hcm
  clear h cc
  generalize ks.length = L at *
  go_enter Tryz.func74, Tryz.ntmps74
  go_wp2_with fail
  go_region_with (first
    | (go_at_call 107; (with_reducible refine (HV.out _ ?_).mono ?_); (exact HA.out); rintro e w1 ⟨rfl, hb1⟩; have HB1 := Lib.hid (bw_below (Nat.le_refl _) (new_below w _).drew hb1); clear hb1; have y0 := (HB1.out.cell (p := ⟨b, o, none⟩) hb).trans k0')
    | (go_at_call 104; (with_reducible refine (HW.out _ _ _).mono ?_); rintro e w2 ⟨rfl, rfl⟩))
  all_goals
    go_wp2_with fail
    go_ret
    exact ⟨rfl, HB1.out⟩
set_option maxHeartbeats 2000000 in
theorem so43_20 (n d : Int) (nm : ByteArray) (A0 : Option Addr) (k0 c0 : Nat) (ds : Int) (ks : List Int) (A : Option Addr) (c : Nat) (hl : ks.length ≤ c) (hcm : c ≤ maxLen) (w : World) (h : Is w A ks) (hn : 0 < ks.length) :
    Calls Tryz.prog 74 #[.agg #[.int .i64 20, .slice A0 k0 c0, .int .i64 n, .int .i64 d, .string nm], .int .i64 ds, .slice A ks.length c] w fun e w' => e = .returned (.int .i64 (srt 20 d ds ks)) ∧ Below w.heap.size w w' := by
  obtain ⟨b, o, rfl, hb, cc⟩ := h (by omega)
  have HA0 : Hid (Is w (some ⟨b, o, none⟩) ks) := Lib.hid h
  have k0' := cc 0 (by omega)
  rw [Nat.add_zero] at k0'
  rw [show srt 20 d ds ks = whn (sSw ks) (nth ks 0) by simp [srt]]
  have HV := Lib.hid (fun (W : World) (hW : Is W (some ⟨b, o, none⟩) ks) => samewords_any ks (some ⟨b, o, none⟩) c hn (Nat.le_trans hl hcm) W hW)
  have HA := Lib.hid (HA0.out.below (new_below w (.cells #[.int .i64 20, .slice A0 k0 c0, .int .i64 n, .int .i64 d, .string nm] 56)))
  have HW := Lib.hid whn_any
  unfold maxLen at hcm
  clear h cc
  generalize ks.length = L at *
  go_enter Tryz.func74, Tryz.ntmps74
  go_wp2_with fail
  go_region_with (first
    | (go_at_call 107; (with_reducible refine (HV.out _ ?_).mono ?_); (exact HA.out); rintro e w1 ⟨rfl, hb1⟩; have HB1 := Lib.hid (bw_below (Nat.le_refl _) (new_below w _).drew hb1); clear hb1; have y0 := (HB1.out.cell (p := ⟨b, o, none⟩) hb).trans k0')
    | (go_at_call 104; (with_reducible refine (HW.out _ _ _).mono ?_); rintro e w2 ⟨rfl, rfl⟩))
  all_goals
    go_wp2_with fail
    go_ret
    exact ⟨rfl, HB1.out⟩
set_option maxHeartbeats 2000000 in
theorem so43_21 (n d : Int) (nm : ByteArray) (A0 : Option Addr) (k0 c0 : Nat) (ds : Int) (ks : List Int) (A : Option Addr) (c : Nat) (hl : ks.length ≤ c) (hcm : c ≤ maxLen) (w : World) (h : Is w A ks) (hn : 0 < ks.length) :
    Calls Tryz.prog 74 #[.agg #[.int .i64 21, .slice A0 k0 c0, .int .i64 n, .int .i64 d, .string nm], .int .i64 ds, .slice A ks.length c] w fun e w' => e = .returned (.int .i64 (srt 21 d ds ks)) ∧ Below w.heap.size w w' := by
  obtain ⟨b, o, rfl, hb, cc⟩ := h (by omega)
  have HA0 : Hid (Is w (some ⟨b, o, none⟩) ks) := Lib.hid h
  have k0' := cc 0 (by omega)
  rw [Nat.add_zero] at k0'
  rw [show srt 21 d ds ks = whn (sSw ks) (nth ks 0) by simp [srt]]
  have HV := Lib.hid (fun (W : World) (hW : Is W (some ⟨b, o, none⟩) ks) => samewords_any ks (some ⟨b, o, none⟩) c hn (Nat.le_trans hl hcm) W hW)
  have HA := Lib.hid (HA0.out.below (new_below w (.cells #[.int .i64 21, .slice A0 k0 c0, .int .i64 n, .int .i64 d, .string nm] 56)))
  have HW := Lib.hid whn_any
  unfold maxLen at hcm
  clear h cc
  generalize ks.length = L at *
  go_enter Tryz.func74, Tryz.ntmps74
  go_wp2_with fail
  go_region_with (first
    | (go_at_call 107; (with_reducible refine (HV.out _ ?_).mono ?_); (exact HA.out); rintro e w1 ⟨rfl, hb1⟩; have HB1 := Lib.hid (bw_below (Nat.le_refl _) (new_below w _).drew hb1); clear hb1; have y0 := (HB1.out.cell (p := ⟨b, o, none⟩) hb).trans k0')
    | (go_at_call 104; (with_reducible refine (HW.out _ _ _).mono ?_); rintro e w2 ⟨rfl, rfl⟩))
  all_goals
    go_wp2_with fail
    go_ret
    exact ⟨rfl, HB1.out⟩
set_option maxHeartbeats 2000000 in
theorem so43_23 (n d : Int) (nm : ByteArray) (A0 : Option Addr) (k0 c0 : Nat) (ds : Int) (ks : List Int) (A : Option Addr) (c : Nat) (hl : ks.length ≤ c) (hcm : c ≤ maxLen) (w : World) (h : Is w A ks) (hn : 0 < ks.length) :
    Calls Tryz.prog 74 #[.agg #[.int .i64 23, .slice A0 k0 c0, .int .i64 n, .int .i64 d, .string nm], .int .i64 ds, .slice A ks.length c] w fun e w' => e = .returned (.int .i64 (srt 23 d ds ks)) ∧ Below w.heap.size w w' := by
  obtain ⟨b, o, rfl, hb, cc⟩ := h (by omega)
  have HA0 : Hid (Is w (some ⟨b, o, none⟩) ks) := Lib.hid h
  have k0' := cc 0 (by omega)
  rw [Nat.add_zero] at k0'
  rw [show srt 23 d ds ks = whn (sSw ks) (nth ks 0) by simp [srt]]
  have HV := Lib.hid (fun (W : World) (hW : Is W (some ⟨b, o, none⟩) ks) => samewords_any ks (some ⟨b, o, none⟩) c hn (Nat.le_trans hl hcm) W hW)
  have HA := Lib.hid (HA0.out.below (new_below w (.cells #[.int .i64 23, .slice A0 k0 c0, .int .i64 n, .int .i64 d, .string nm] 56)))
  have HW := Lib.hid whn_any
  unfold maxLen at hcm
  clear h cc
  generalize ks.length = L at *
  go_enter Tryz.func74, Tryz.ntmps74
  go_wp2_with fail
  go_region_with (first
    | (go_at_call 107; (with_reducible refine (HV.out _ ?_).mono ?_); (exact HA.out); rintro e w1 ⟨rfl, hb1⟩; have HB1 := Lib.hid (bw_below (Nat.le_refl _) (new_below w _).drew hb1); clear hb1; have y0 := (HB1.out.cell (p := ⟨b, o, none⟩) hb).trans k0')
    | (go_at_call 104; (with_reducible refine (HW.out _ _ _).mono ?_); rintro e w2 ⟨rfl, rfl⟩))
  all_goals
    go_wp2_with fail
    go_ret
    exact ⟨rfl, HB1.out⟩
end Go.Proofs.YtaodebpogibimaaGreat
