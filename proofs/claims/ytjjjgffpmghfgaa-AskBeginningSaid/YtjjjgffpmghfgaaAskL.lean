/-
  Asks: the sort of a node, operator by operator.
-/
import Derived.Test.YtjjjgffpmghfgaaAskK
namespace Go.Proofs.Ytjjjgffpmghfgaa
open Go.RowKit

set_option maxHeartbeats 2000000 in
theorem so43_1 (n d : Int) (nm : ByteArray) (A0 : Option Addr) (k0 c0 : Nat) (ds : Int) (ks : List Int) (A : Option Addr) (c : Nat) (hl : ks.length ≤ c) (hcm : c ≤ maxLen) (w : World) (h : Is w A ks) :
    Calls Try.prog 44 #[.agg #[.int .i64 1, .slice A0 k0 c0, .int .i64 n, .int .i64 d, .string nm], .int .i64 ds, .slice A ks.length c] w fun e w' => e = .returned (.int .i64 (srt 1 d ds ks)) ∧ Below w.heap.size w w' := by
  rw [show srt 1 d ds ks = whn (ks.all sBo) (1) by simp [srt]]
  have HV := Lib.hid (fun (W : World) (hW : Is W A ks) => everybool_any ks A c (Nat.le_trans hl hcm) W hW)
  have HA := Lib.hid (h.below (new_below w (.cells #[.int .i64 1, .slice A0 k0 c0, .int .i64 n, .int .i64 d, .string nm] 37)))
  clear h hl hcm
  generalize ks.length = L at *
  go_enter Try.func44, Try.ntmps44
  go_wp2_with fail
  refine (HV.out _ HA.out).mono ?_
  rintro e w1 ⟨rfl, hb1⟩
  have HB1 := Lib.hid (bw_below (Nat.le_refl _) (new_below w _) hb1)
  clear hb1
  go_wp2_with fail
  refine (whn_any _ _ _).mono ?_
  rintro e w2 ⟨rfl, rfl⟩
  go_wp2_with fail
  go_ret
  exact ⟨rfl, HB1.out⟩
set_option maxHeartbeats 2000000 in
theorem so43_2 (n d : Int) (nm : ByteArray) (A0 : Option Addr) (k0 c0 : Nat) (ds : Int) (ks : List Int) (A : Option Addr) (c : Nat) (hl : ks.length ≤ c) (hcm : c ≤ maxLen) (w : World) (h : Is w A ks) :
    Calls Try.prog 44 #[.agg #[.int .i64 2, .slice A0 k0 c0, .int .i64 n, .int .i64 d, .string nm], .int .i64 ds, .slice A ks.length c] w fun e w' => e = .returned (.int .i64 (srt 2 d ds ks)) ∧ Below w.heap.size w w' := by
  rw [show srt 2 d ds ks = whn (ks.all sBo) (1) by simp [srt]]
  have HV := Lib.hid (fun (W : World) (hW : Is W A ks) => everybool_any ks A c (Nat.le_trans hl hcm) W hW)
  have HA := Lib.hid (h.below (new_below w (.cells #[.int .i64 2, .slice A0 k0 c0, .int .i64 n, .int .i64 d, .string nm] 37)))
  clear h hl hcm
  generalize ks.length = L at *
  go_enter Try.func44, Try.ntmps44
  go_wp2_with fail
  refine (HV.out _ HA.out).mono ?_
  rintro e w1 ⟨rfl, hb1⟩
  have HB1 := Lib.hid (bw_below (Nat.le_refl _) (new_below w _) hb1)
  clear hb1
  go_wp2_with fail
  refine (whn_any _ _ _).mono ?_
  rintro e w2 ⟨rfl, rfl⟩
  go_wp2_with fail
  go_ret
  exact ⟨rfl, HB1.out⟩
set_option maxHeartbeats 2000000 in
theorem so43_3 (n d : Int) (nm : ByteArray) (A0 : Option Addr) (k0 c0 : Nat) (ds : Int) (ks : List Int) (A : Option Addr) (c : Nat) (hl : ks.length ≤ c) (hcm : c ≤ maxLen) (w : World) (h : Is w A ks) :
    Calls Try.prog 44 #[.agg #[.int .i64 3, .slice A0 k0 c0, .int .i64 n, .int .i64 d, .string nm], .int .i64 ds, .slice A ks.length c] w fun e w' => e = .returned (.int .i64 (srt 3 d ds ks)) ∧ Below w.heap.size w w' := by
  rw [show srt 3 d ds ks = whn (ks.all sBo) (1) by simp [srt]]
  have HV := Lib.hid (fun (W : World) (hW : Is W A ks) => everybool_any ks A c (Nat.le_trans hl hcm) W hW)
  have HA := Lib.hid (h.below (new_below w (.cells #[.int .i64 3, .slice A0 k0 c0, .int .i64 n, .int .i64 d, .string nm] 37)))
  clear h hl hcm
  generalize ks.length = L at *
  go_enter Try.func44, Try.ntmps44
  go_wp2_with fail
  refine (HV.out _ HA.out).mono ?_
  rintro e w1 ⟨rfl, hb1⟩
  have HB1 := Lib.hid (bw_below (Nat.le_refl _) (new_below w _) hb1)
  clear hb1
  go_wp2_with fail
  refine (whn_any _ _ _).mono ?_
  rintro e w2 ⟨rfl, rfl⟩
  go_wp2_with fail
  go_ret
  exact ⟨rfl, HB1.out⟩
set_option maxHeartbeats 2000000 in
theorem so43_4 (n d : Int) (nm : ByteArray) (A0 : Option Addr) (k0 c0 : Nat) (ds : Int) (ks : List Int) (A : Option Addr) (c : Nat) (hl : ks.length ≤ c) (hcm : c ≤ maxLen) (w : World) (h : Is w A ks) :
    Calls Try.prog 44 #[.agg #[.int .i64 4, .slice A0 k0 c0, .int .i64 n, .int .i64 d, .string nm], .int .i64 ds, .slice A ks.length c] w fun e w' => e = .returned (.int .i64 (srt 4 d ds ks)) ∧ Below w.heap.size w w' := by
  rw [show srt 4 d ds ks = whn (ks.all sBo) (1) by simp [srt]]
  have HV := Lib.hid (fun (W : World) (hW : Is W A ks) => everybool_any ks A c (Nat.le_trans hl hcm) W hW)
  have HA := Lib.hid (h.below (new_below w (.cells #[.int .i64 4, .slice A0 k0 c0, .int .i64 n, .int .i64 d, .string nm] 37)))
  clear h hl hcm
  generalize ks.length = L at *
  go_enter Try.func44, Try.ntmps44
  go_wp2_with fail
  refine (HV.out _ HA.out).mono ?_
  rintro e w1 ⟨rfl, hb1⟩
  have HB1 := Lib.hid (bw_below (Nat.le_refl _) (new_below w _) hb1)
  clear hb1
  go_wp2_with fail
  refine (whn_any _ _ _).mono ?_
  rintro e w2 ⟨rfl, rfl⟩
  go_wp2_with fail
  go_ret
  exact ⟨rfl, HB1.out⟩
set_option maxHeartbeats 2000000 in
theorem so43_5 (n d : Int) (nm : ByteArray) (A0 : Option Addr) (k0 c0 : Nat) (ds : Int) (ks : List Int) (A : Option Addr) (c : Nat) (hl : ks.length ≤ c) (hcm : c ≤ maxLen) (w : World) (h : Is w A ks) :
    Calls Try.prog 44 #[.agg #[.int .i64 5, .slice A0 k0 c0, .int .i64 n, .int .i64 d, .string nm], .int .i64 ds, .slice A ks.length c] w fun e w' => e = .returned (.int .i64 (srt 5 d ds ks)) ∧ Below w.heap.size w w' := by
  rw [show srt 5 d ds ks = whn (ks.all sBo) (1) by simp [srt]]
  have HV := Lib.hid (fun (W : World) (hW : Is W A ks) => everybool_any ks A c (Nat.le_trans hl hcm) W hW)
  have HA := Lib.hid (h.below (new_below w (.cells #[.int .i64 5, .slice A0 k0 c0, .int .i64 n, .int .i64 d, .string nm] 37)))
  clear h hl hcm
  generalize ks.length = L at *
  go_enter Try.func44, Try.ntmps44
  go_wp2_with fail
  refine (HV.out _ HA.out).mono ?_
  rintro e w1 ⟨rfl, hb1⟩
  have HB1 := Lib.hid (bw_below (Nat.le_refl _) (new_below w _) hb1)
  clear hb1
  go_wp2_with fail
  refine (whn_any _ _ _).mono ?_
  rintro e w2 ⟨rfl, rfl⟩
  go_wp2_with fail
  go_ret
  exact ⟨rfl, HB1.out⟩
set_option maxHeartbeats 2000000 in
theorem so43_6 (n d : Int) (nm : ByteArray) (A0 : Option Addr) (k0 c0 : Nat) (ds : Int) (ks : List Int) (A : Option Addr) (c : Nat) (hl : ks.length ≤ c) (hcm : c ≤ maxLen) (w : World) (h : Is w A ks) :
    Calls Try.prog 44 #[.agg #[.int .i64 6, .slice A0 k0 c0, .int .i64 n, .int .i64 d, .string nm], .int .i64 ds, .slice A ks.length c] w fun e w' => e = .returned (.int .i64 (srt 6 d ds ks)) ∧ Below w.heap.size w w' := by
  rw [show srt 6 d ds ks = whn (ks.all sBo) (1) by simp [srt]]
  have HV := Lib.hid (fun (W : World) (hW : Is W A ks) => everybool_any ks A c (Nat.le_trans hl hcm) W hW)
  have HA := Lib.hid (h.below (new_below w (.cells #[.int .i64 6, .slice A0 k0 c0, .int .i64 n, .int .i64 d, .string nm] 37)))
  clear h hl hcm
  generalize ks.length = L at *
  go_enter Try.func44, Try.ntmps44
  go_wp2_with fail
  refine (HV.out _ HA.out).mono ?_
  rintro e w1 ⟨rfl, hb1⟩
  have HB1 := Lib.hid (bw_below (Nat.le_refl _) (new_below w _) hb1)
  clear hb1
  go_wp2_with fail
  refine (whn_any _ _ _).mono ?_
  rintro e w2 ⟨rfl, rfl⟩
  go_wp2_with fail
  go_ret
  exact ⟨rfl, HB1.out⟩
set_option maxHeartbeats 2000000 in
theorem so43_9 (n d : Int) (nm : ByteArray) (A0 : Option Addr) (k0 c0 : Nat) (ds : Int) (ks : List Int) (A : Option Addr) (c : Nat) (hl : ks.length ≤ c) (hcm : c ≤ maxLen) (w : World) (h : Is w A ks) :
    Calls Try.prog 44 #[.agg #[.int .i64 9, .slice A0 k0 c0, .int .i64 n, .int .i64 d, .string nm], .int .i64 ds, .slice A ks.length c] w fun e w' => e = .returned (.int .i64 (srt 9 d ds ks)) ∧ Below w.heap.size w w' := by
  rw [show srt 9 d ds ks = whn (ks.all sTh) (ds) by simp [srt]]
  have HV := Lib.hid (fun (W : World) (hW : Is W A ks) => everything_any ks A c (Nat.le_trans hl hcm) W hW)
  have HA := Lib.hid (h.below (new_below w (.cells #[.int .i64 9, .slice A0 k0 c0, .int .i64 n, .int .i64 d, .string nm] 37)))
  clear h hl hcm
  generalize ks.length = L at *
  go_enter Try.func44, Try.ntmps44
  go_wp2_with fail
  refine (HV.out _ HA.out).mono ?_
  rintro e w1 ⟨rfl, hb1⟩
  have HB1 := Lib.hid (bw_below (Nat.le_refl _) (new_below w _) hb1)
  clear hb1
  go_wp2_with fail
  refine (whn_any _ _ _).mono ?_
  rintro e w2 ⟨rfl, rfl⟩
  go_wp2_with fail
  go_ret
  exact ⟨rfl, HB1.out⟩
set_option maxHeartbeats 2000000 in
theorem so43_13 (n d : Int) (nm : ByteArray) (A0 : Option Addr) (k0 c0 : Nat) (ds : Int) (ks : List Int) (A : Option Addr) (c : Nat) (hl : ks.length ≤ c) (hcm : c ≤ maxLen) (w : World) (h : Is w A ks) :
    Calls Try.prog 44 #[.agg #[.int .i64 13, .slice A0 k0 c0, .int .i64 n, .int .i64 d, .string nm], .int .i64 ds, .slice A ks.length c] w fun e w' => e = .returned (.int .i64 (srt 13 d ds ks)) ∧ Below w.heap.size w w' := by
  rw [show srt 13 d ds ks = whn (ks.all sNu) (1) by simp [srt]]
  have HV := Lib.hid (fun (W : World) (hW : Is W A ks) => everynum_any ks A c (Nat.le_trans hl hcm) W hW)
  have HA := Lib.hid (h.below (new_below w (.cells #[.int .i64 13, .slice A0 k0 c0, .int .i64 n, .int .i64 d, .string nm] 37)))
  clear h hl hcm
  generalize ks.length = L at *
  go_enter Try.func44, Try.ntmps44
  go_wp2_with fail
  refine (HV.out _ HA.out).mono ?_
  rintro e w1 ⟨rfl, hb1⟩
  have HB1 := Lib.hid (bw_below (Nat.le_refl _) (new_below w _) hb1)
  clear hb1
  go_wp2_with fail
  refine (whn_any _ _ _).mono ?_
  rintro e w2 ⟨rfl, rfl⟩
  go_wp2_with fail
  go_ret
  exact ⟨rfl, HB1.out⟩
set_option maxHeartbeats 2000000 in
theorem so43_14 (n d : Int) (nm : ByteArray) (A0 : Option Addr) (k0 c0 : Nat) (ds : Int) (ks : List Int) (A : Option Addr) (c : Nat) (hl : ks.length ≤ c) (hcm : c ≤ maxLen) (w : World) (h : Is w A ks) :
    Calls Try.prog 44 #[.agg #[.int .i64 14, .slice A0 k0 c0, .int .i64 n, .int .i64 d, .string nm], .int .i64 ds, .slice A ks.length c] w fun e w' => e = .returned (.int .i64 (srt 14 d ds ks)) ∧ Below w.heap.size w w' := by
  rw [show srt 14 d ds ks = whn (ks.all sNu) (1) by simp [srt]]
  have HV := Lib.hid (fun (W : World) (hW : Is W A ks) => everynum_any ks A c (Nat.le_trans hl hcm) W hW)
  have HA := Lib.hid (h.below (new_below w (.cells #[.int .i64 14, .slice A0 k0 c0, .int .i64 n, .int .i64 d, .string nm] 37)))
  clear h hl hcm
  generalize ks.length = L at *
  go_enter Try.func44, Try.ntmps44
  go_wp2_with fail
  refine (HV.out _ HA.out).mono ?_
  rintro e w1 ⟨rfl, hb1⟩
  have HB1 := Lib.hid (bw_below (Nat.le_refl _) (new_below w _) hb1)
  clear hb1
  go_wp2_with fail
  refine (whn_any _ _ _).mono ?_
  rintro e w2 ⟨rfl, rfl⟩
  go_wp2_with fail
  go_ret
  exact ⟨rfl, HB1.out⟩
set_option maxHeartbeats 2000000 in
theorem so43_15 (n d : Int) (nm : ByteArray) (A0 : Option Addr) (k0 c0 : Nat) (ds : Int) (ks : List Int) (A : Option Addr) (c : Nat) (_hl : ks.length ≤ c) (_hcm : c ≤ maxLen) (w : World) (_h : Is w A ks) (hd0 : -1000 ≤ d) (hd1 : d ≤ 1000) :
    Calls Try.prog 44 #[.agg #[.int .i64 15, .slice A0 k0 c0, .int .i64 n, .int .i64 d, .string nm], .int .i64 ds, .slice A ks.length c] w fun e w' => e = .returned (.int .i64 (srt 15 d ds ks)) ∧ Below w.heap.size w w' := by
  rw [show srt 15 d ds ks = 10 + d by simp [srt]]
  clear _h _hl _hcm
  generalize ks.length = L at *
  go_enter Try.func44, Try.ntmps44
  go_wp2_with fail
  go_ret
  exact ⟨rfl, new_below _ _⟩
set_option maxHeartbeats 2000000 in
theorem so43_22 (n d : Int) (nm : ByteArray) (A0 : Option Addr) (k0 c0 : Nat) (ds : Int) (ks : List Int) (A : Option Addr) (c : Nat) (hl : ks.length ≤ c) (hcm : c ≤ maxLen) (w : World) (h : Is w A ks) (hn : 0 < ks.length) :
    Calls Try.prog 44 #[.agg #[.int .i64 22, .slice A0 k0 c0, .int .i64 n, .int .i64 d, .string nm], .int .i64 ds, .slice A ks.length c] w fun e w' => e = .returned (.int .i64 (srt 22 d ds ks)) ∧ Below w.heap.size w w' := by
  rw [show srt 22 d ds ks = whn (sSw ks) 1 by simp [srt]]
  have HV := Lib.hid (fun (W : World) (hW : Is W A ks) => samewords_any ks A c hn (Nat.le_trans hl hcm) W hW)
  have HA := Lib.hid (h.below (new_below w (.cells #[.int .i64 22, .slice A0 k0 c0, .int .i64 n, .int .i64 d, .string nm] 37)))
  clear h hl hcm hn
  generalize ks.length = L at *
  go_enter Try.func44, Try.ntmps44
  go_wp2_with fail
  refine (HV.out _ HA.out).mono ?_
  rintro e w1 ⟨rfl, hb1⟩
  have HB1 := Lib.hid (bw_below (Nat.le_refl _) (new_below w _) hb1)
  clear hb1
  go_wp2_with fail
  refine (whn_any _ _ _).mono ?_
  rintro e w2 ⟨rfl, rfl⟩
  go_wp2_with fail
  go_ret
  exact ⟨rfl, HB1.out⟩
set_option maxHeartbeats 2000000 in
theorem so43_8 (n d : Int) (nm : ByteArray) (A0 : Option Addr) (k0 c0 : Nat) (ds : Int) (ks : List Int) (A : Option Addr) (c : Nat) (hl : ks.length ≤ c) (hcm : c ≤ maxLen) (w : World) (h : Is w A ks) (hn : 0 < ks.length) :
    Calls Try.prog 44 #[.agg #[.int .i64 8, .slice A0 k0 c0, .int .i64 n, .int .i64 d, .string nm], .int .i64 ds, .slice A ks.length c] w fun e w' => e = .returned (.int .i64 (srt 8 d ds ks)) ∧ Below w.heap.size w w' := by
  rw [show srt 8 d ds ks = whn (ks.all sNu || ks.all sTh || sSw ks) 1 by simp [srt]]
  have HV1 := Lib.hid (fun (W : World) (hW : Is W A ks) => everynum_any ks A c (Nat.le_trans hl hcm) W hW)
  have HV2 := Lib.hid (fun (W : World) (hW : Is W A ks) => everything_any ks A c (Nat.le_trans hl hcm) W hW)
  have HV3 := Lib.hid (fun (W : World) (hW : Is W A ks) => samewords_any ks A c hn (Nat.le_trans hl hcm) W hW)
  have HA := Lib.hid (h.below (new_below w (.cells #[.int .i64 8, .slice A0 k0 c0, .int .i64 n, .int .i64 d, .string nm] 37)))
  have HA0 := Lib.hid h
  clear h hl hcm hn
  generalize ks.length = L at *
  cases q1 : ks.all sNu with
  | true =>
    have Q1 := Lib.hid q1
    rw [Bool.true_or, Bool.true_or]
    clear q1
    go_enter Try.func44, Try.ntmps44
    go_wp2_with fail
    refine (HV1.out _ HA.out).mono ?_
    rintro e w1 ⟨rfl, hb1⟩
    have HB1 := Lib.hid (bw_below (Nat.le_refl _) (new_below w _) hb1)
    clear hb1
    rw [Q1.out]
    go_wp2_with fail
    refine (whn_any _ _ _).mono ?_
    rintro e w2 ⟨rfl, rfl⟩
    go_wp2_with fail
    go_ret
    exact ⟨rfl, HB1.out⟩
  | false =>
    have Q1 := Lib.hid q1
    cases q2 : ks.all sTh with
    | true =>
      have Q2 := Lib.hid q2
      rw [Bool.or_true, Bool.true_or]
      clear q1 q2
      go_enter Try.func44, Try.ntmps44
      go_wp2_with fail
      refine (HV1.out _ HA.out).mono ?_
      rintro e w1 ⟨rfl, hb1⟩
      have HB1 := Lib.hid (bw_below (Nat.le_refl _) (new_below w _) hb1)
      clear hb1
      rw [Q1.out]
      go_wp2_with fail
      refine (HV2.out _ (HA0.out.below HB1.out)).mono ?_
      rintro e w2 ⟨rfl, hb2⟩
      have HB2 := Lib.hid (bw_below (Nat.le_refl _) HB1.out hb2)
      clear hb2
      rw [Q2.out]
      go_wp2_with fail
      refine (whn_any _ _ _).mono ?_
      rintro e w2 ⟨rfl, rfl⟩
      go_wp2_with fail
      go_ret
      exact ⟨rfl, HB2.out⟩
    | false =>
      have Q2 := Lib.hid q2
      rw [Bool.or_false, Bool.false_or]
      clear q1 q2
      go_enter Try.func44, Try.ntmps44
      go_wp2_with fail
      refine (HV1.out _ HA.out).mono ?_
      rintro e w1 ⟨rfl, hb1⟩
      have HB1 := Lib.hid (bw_below (Nat.le_refl _) (new_below w _) hb1)
      clear hb1
      rw [Q1.out]
      go_wp2_with fail
      refine (HV2.out _ (HA0.out.below HB1.out)).mono ?_
      rintro e w2 ⟨rfl, hb2⟩
      have HB2 := Lib.hid (bw_below (Nat.le_refl _) HB1.out hb2)
      clear hb2
      rw [Q2.out]
      go_wp2_with fail
      refine (HV3.out _ (HA0.out.below HB2.out)).mono ?_
      rintro e w3 ⟨rfl, hb3⟩
      have HB3 := Lib.hid (bw_below (Nat.le_refl _) HB2.out hb3)
      clear hb3
      go_wp2_with fail
      refine (whn_any _ _ _).mono ?_
      rintro e w4 ⟨rfl, rfl⟩
      go_wp2_with fail
      go_ret
      exact ⟨rfl, HB3.out⟩
end Go.Proofs.Ytjjjgffpmghfgaa
