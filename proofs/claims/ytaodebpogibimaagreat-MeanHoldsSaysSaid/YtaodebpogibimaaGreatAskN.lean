/-
  Asks: the sort of a node, operator by operator: numbers.
-/
import Derived.Test.YtaodebpogibimaaGreatG05
namespace Go.Proofs.YtaodebpogibimaaGreat
open Go.RowKit

set_option maxHeartbeats 2000000 in
theorem so43_10 (n d : Int) (nm : ByteArray) (A0 : Option Addr) (k0 c0 : Nat) (ds : Int) (ks : List Int) (A : Option Addr) (c : Nat) (hl : ks.length ≤ c) (hcm : c ≤ maxLen) (w : World) (h : Is w A ks) :
    Calls Tryz.prog 74 #[.agg #[.int .i64 10, .slice A0 k0 c0, .int .i64 n, .int .i64 d, .string nm], .int .i64 ds, .slice A ks.length c] w fun e w' => e = .returned (.int .i64 (srt 10 d ds ks)) ∧ Below w.heap.size w w' := by
  rw [show srt 10 d ds ks = whn (ks.all sNu) (numS 10 d ks) by simp [srt]]
  have HV := Lib.hid (fun (W : World) (hW : Is W A ks) => everynum_any ks A c (Nat.le_trans hl hcm) W hW)
  have HM := Lib.hid (fun (W : World) (hW : Is W A ks) => number_any 10 n d nm A0 k0 c0 ks A c (Nat.le_trans hl hcm) W hW)
  have HA0 := Lib.hid h
  have HA : Hid (Is ((w.alloc (.cells #[.int .i64 10, .slice A0 k0 c0, .int .i64 n, .int .i64 d, .string nm] 56)).drew) A ks) := Lib.hid (h.below (new_below w (.cells #[.int .i64 10, .slice A0 k0 c0, .int .i64 n, .int .i64 d, .string nm] 56)).drew)
  have HN0 := Lib.hid ((HB.new w 56 #[.int .i64 10, .slice A0 k0 c0, .int .i64 n, .int .i64 d, .string nm]).drew)
  have HW := Lib.hid whn_any
  clear h hl hcm
  generalize ks.length = L at *
  go_enter Tryz.func74, Tryz.ntmps74
  go_wp2_with fail
  go_region_with (first
    | (go_at_call 69; (with_reducible refine (HV.out ((w.alloc (.cells #[.int .i64 10, .slice A0 k0 c0, .int .i64 n, .int .i64 d, .string nm] 56)).drew) HA.out).mono ?_); rintro e w1 ⟨rfl, hb1⟩; have HB1 := Lib.hid (bw_below (Nat.le_refl _) (new_below w _).drew hb1); have A1 := Lib.hid (HA0.out.below HB1.out); have N1 := HN0.out.below hb1; clear hb1; obtain ⟨z0, z1, z2, z3, z4⟩ := ag5 N1)
    | (go_at_call 108; (with_reducible refine (HM.out ((w.alloc (.cells #[.int .i64 10, .slice A0 k0 c0, .int .i64 n, .int .i64 d, .string nm] 56)).drew) HA.out).mono ?_); rintro e w1 ⟨rfl, hb1⟩; have HB1 := Lib.hid (bw_below (Nat.le_refl _) (new_below w _).drew hb1); have A1 := Lib.hid (HA0.out.below HB1.out); clear hb1)
    | (go_at_call 69; (with_reducible refine (HV.out w1 A1.out).mono ?_); rintro e w2 ⟨rfl, hb2⟩; have HB2 := Lib.hid (bw_below (Nat.le_refl _) HB1.out hb2); clear hb2)
    | (go_at_call 108; (with_reducible refine (HM.out w1 A1.out).mono ?_); rintro e w2 ⟨rfl, hb2⟩; have HB2 := Lib.hid (bw_below (Nat.le_refl _) HB1.out hb2); clear hb2)
    | (go_at_call 104; (with_reducible refine (HW.out _ _ _).mono ?_); rintro e w2 ⟨rfl, rfl⟩))
  all_goals
    go_wp2_with fail
    go_ret
    exact ⟨rfl, HB2.out⟩
set_option maxHeartbeats 2000000 in
theorem so43_11 (n d : Int) (nm : ByteArray) (A0 : Option Addr) (k0 c0 : Nat) (ds : Int) (ks : List Int) (A : Option Addr) (c : Nat) (hl : ks.length ≤ c) (hcm : c ≤ maxLen) (w : World) (h : Is w A ks) :
    Calls Tryz.prog 74 #[.agg #[.int .i64 11, .slice A0 k0 c0, .int .i64 n, .int .i64 d, .string nm], .int .i64 ds, .slice A ks.length c] w fun e w' => e = .returned (.int .i64 (srt 11 d ds ks)) ∧ Below w.heap.size w w' := by
  rw [show srt 11 d ds ks = whn (ks.all sNu) (numS 11 d ks) by simp [srt]]
  have HV := Lib.hid (fun (W : World) (hW : Is W A ks) => everynum_any ks A c (Nat.le_trans hl hcm) W hW)
  have HM := Lib.hid (fun (W : World) (hW : Is W A ks) => number_any 11 n d nm A0 k0 c0 ks A c (Nat.le_trans hl hcm) W hW)
  have HA0 := Lib.hid h
  have HA : Hid (Is ((w.alloc (.cells #[.int .i64 11, .slice A0 k0 c0, .int .i64 n, .int .i64 d, .string nm] 56)).drew) A ks) := Lib.hid (h.below (new_below w (.cells #[.int .i64 11, .slice A0 k0 c0, .int .i64 n, .int .i64 d, .string nm] 56)).drew)
  have HN0 := Lib.hid ((HB.new w 56 #[.int .i64 11, .slice A0 k0 c0, .int .i64 n, .int .i64 d, .string nm]).drew)
  have HW := Lib.hid whn_any
  clear h hl hcm
  generalize ks.length = L at *
  go_enter Tryz.func74, Tryz.ntmps74
  go_wp2_with fail
  go_region_with (first
    | (go_at_call 69; (with_reducible refine (HV.out ((w.alloc (.cells #[.int .i64 11, .slice A0 k0 c0, .int .i64 n, .int .i64 d, .string nm] 56)).drew) HA.out).mono ?_); rintro e w1 ⟨rfl, hb1⟩; have HB1 := Lib.hid (bw_below (Nat.le_refl _) (new_below w _).drew hb1); have A1 := Lib.hid (HA0.out.below HB1.out); have N1 := HN0.out.below hb1; clear hb1; obtain ⟨z0, z1, z2, z3, z4⟩ := ag5 N1)
    | (go_at_call 108; (with_reducible refine (HM.out ((w.alloc (.cells #[.int .i64 11, .slice A0 k0 c0, .int .i64 n, .int .i64 d, .string nm] 56)).drew) HA.out).mono ?_); rintro e w1 ⟨rfl, hb1⟩; have HB1 := Lib.hid (bw_below (Nat.le_refl _) (new_below w _).drew hb1); have A1 := Lib.hid (HA0.out.below HB1.out); clear hb1)
    | (go_at_call 69; (with_reducible refine (HV.out w1 A1.out).mono ?_); rintro e w2 ⟨rfl, hb2⟩; have HB2 := Lib.hid (bw_below (Nat.le_refl _) HB1.out hb2); clear hb2)
    | (go_at_call 108; (with_reducible refine (HM.out w1 A1.out).mono ?_); rintro e w2 ⟨rfl, hb2⟩; have HB2 := Lib.hid (bw_below (Nat.le_refl _) HB1.out hb2); clear hb2)
    | (go_at_call 104; (with_reducible refine (HW.out _ _ _).mono ?_); rintro e w2 ⟨rfl, rfl⟩))
  all_goals
    go_wp2_with fail
    go_ret
    exact ⟨rfl, HB2.out⟩
set_option maxHeartbeats 2000000 in
theorem so43_12 (n d : Int) (nm : ByteArray) (A0 : Option Addr) (k0 c0 : Nat) (ds : Int) (ks : List Int) (A : Option Addr) (c : Nat) (hl : ks.length ≤ c) (hcm : c ≤ maxLen) (w : World) (h : Is w A ks) :
    Calls Tryz.prog 74 #[.agg #[.int .i64 12, .slice A0 k0 c0, .int .i64 n, .int .i64 d, .string nm], .int .i64 ds, .slice A ks.length c] w fun e w' => e = .returned (.int .i64 (srt 12 d ds ks)) ∧ Below w.heap.size w w' := by
  rw [show srt 12 d ds ks = whn (ks.all sNu) (numS 12 d ks) by simp [srt]]
  have HV := Lib.hid (fun (W : World) (hW : Is W A ks) => everynum_any ks A c (Nat.le_trans hl hcm) W hW)
  have HM := Lib.hid (fun (W : World) (hW : Is W A ks) => number_any 12 n d nm A0 k0 c0 ks A c (Nat.le_trans hl hcm) W hW)
  have HA0 := Lib.hid h
  have HA : Hid (Is ((w.alloc (.cells #[.int .i64 12, .slice A0 k0 c0, .int .i64 n, .int .i64 d, .string nm] 56)).drew) A ks) := Lib.hid (h.below (new_below w (.cells #[.int .i64 12, .slice A0 k0 c0, .int .i64 n, .int .i64 d, .string nm] 56)).drew)
  have HN0 := Lib.hid ((HB.new w 56 #[.int .i64 12, .slice A0 k0 c0, .int .i64 n, .int .i64 d, .string nm]).drew)
  have HW := Lib.hid whn_any
  clear h hl hcm
  generalize ks.length = L at *
  go_enter Tryz.func74, Tryz.ntmps74
  go_wp2_with fail
  go_region_with (first
    | (go_at_call 69; (with_reducible refine (HV.out ((w.alloc (.cells #[.int .i64 12, .slice A0 k0 c0, .int .i64 n, .int .i64 d, .string nm] 56)).drew) HA.out).mono ?_); rintro e w1 ⟨rfl, hb1⟩; have HB1 := Lib.hid (bw_below (Nat.le_refl _) (new_below w _).drew hb1); have A1 := Lib.hid (HA0.out.below HB1.out); have N1 := HN0.out.below hb1; clear hb1; obtain ⟨z0, z1, z2, z3, z4⟩ := ag5 N1)
    | (go_at_call 108; (with_reducible refine (HM.out ((w.alloc (.cells #[.int .i64 12, .slice A0 k0 c0, .int .i64 n, .int .i64 d, .string nm] 56)).drew) HA.out).mono ?_); rintro e w1 ⟨rfl, hb1⟩; have HB1 := Lib.hid (bw_below (Nat.le_refl _) (new_below w _).drew hb1); have A1 := Lib.hid (HA0.out.below HB1.out); clear hb1)
    | (go_at_call 69; (with_reducible refine (HV.out w1 A1.out).mono ?_); rintro e w2 ⟨rfl, hb2⟩; have HB2 := Lib.hid (bw_below (Nat.le_refl _) HB1.out hb2); clear hb2)
    | (go_at_call 108; (with_reducible refine (HM.out w1 A1.out).mono ?_); rintro e w2 ⟨rfl, hb2⟩; have HB2 := Lib.hid (bw_below (Nat.le_refl _) HB1.out hb2); clear hb2)
    | (go_at_call 104; (with_reducible refine (HW.out _ _ _).mono ?_); rintro e w2 ⟨rfl, rfl⟩))
  all_goals
    go_wp2_with fail
    go_ret
    exact ⟨rfl, HB2.out⟩
end Go.Proofs.YtaodebpogibimaaGreat
