/-
  Asks: the sort of a node, operator by operator: numbers.
  Asks: how many kids a node has, and its sort, as the program tells them.
-/
import Derived.Test.YtibpgcdaommjeaaG10
namespace Go.Proofs.Ytibpgcdaommjeaa
open Go.RowKit

set_option maxHeartbeats 2000000 in
theorem so43_10 (n d : Int) (nm : ByteArray) (A0 : Option Addr) (k0 c0 : Nat) (ds : Int) (ks : List Int) (A : Option Addr) (c : Nat) (hl : ks.length ≤ c) (hcm : c ≤ maxLen) (w : World) (h : Is w A ks) :
    Calls Try.prog 55 #[.agg #[.int .i64 10, .slice A0 k0 c0, .int .i64 n, .int .i64 d, .string nm], .int .i64 ds, .slice A ks.length c] w fun e w' => e = .returned (.int .i64 (srt 10 d ds ks)) ∧ Below w.heap.size w w' := by
  rw [show srt 10 d ds ks = whn (ks.all sNu) (numS 10 d ks) by simp [srt]]
  have HV := Lib.hid (fun (W : World) (hW : Is W A ks) => everynum_any ks A c (Nat.le_trans hl hcm) W hW)
  have HM := Lib.hid (fun (W : World) (hW : Is W A ks) => number_any 10 n d nm A0 k0 c0 ks A c (Nat.le_trans hl hcm) W hW)
  have HA0 := Lib.hid h
  have HA : Hid (Is ((w.alloc (.cells #[.int .i64 10, .slice A0 k0 c0, .int .i64 n, .int .i64 d, .string nm] 24)).drew) A ks) := Lib.hid (h.below (new_below w (.cells #[.int .i64 10, .slice A0 k0 c0, .int .i64 n, .int .i64 d, .string nm] 24)).drew)
  have HN0 := Lib.hid ((HB.new w 24 #[.int .i64 10, .slice A0 k0 c0, .int .i64 n, .int .i64 d, .string nm]).drew)
  have HW := Lib.hid whn_any
  clear h hl hcm
  generalize ks.length = L at *
  go_enter Try.func55, Try.ntmps55
  go_wp2_with fail
  go_region_with (first
    | (go_at_call 50; (with_reducible refine (HV.out ((w.alloc (.cells #[.int .i64 10, .slice A0 k0 c0, .int .i64 n, .int .i64 d, .string nm] 24)).drew) HA.out).mono ?_); rintro e w1 ⟨rfl, hb1⟩; have HB1 := Lib.hid (bw_below (Nat.le_refl _) (new_below w _).drew hb1); have A1 := Lib.hid (HA0.out.below HB1.out); have N1 := HN0.out.below hb1; clear hb1; obtain ⟨z0, z1, z2, z3, z4⟩ := ag5 N1)
    | (go_at_call 82; (with_reducible refine (HM.out ((w.alloc (.cells #[.int .i64 10, .slice A0 k0 c0, .int .i64 n, .int .i64 d, .string nm] 24)).drew) HA.out).mono ?_); rintro e w1 ⟨rfl, hb1⟩; have HB1 := Lib.hid (bw_below (Nat.le_refl _) (new_below w _).drew hb1); have A1 := Lib.hid (HA0.out.below HB1.out); clear hb1)
    | (go_at_call 50; (with_reducible refine (HV.out w1 A1.out).mono ?_); rintro e w2 ⟨rfl, hb2⟩; have HB2 := Lib.hid (bw_below (Nat.le_refl _) HB1.out hb2); clear hb2)
    | (go_at_call 82; (with_reducible refine (HM.out w1 A1.out).mono ?_); rintro e w2 ⟨rfl, hb2⟩; have HB2 := Lib.hid (bw_below (Nat.le_refl _) HB1.out hb2); clear hb2)
    | (go_at_call 78; (with_reducible refine (HW.out _ _ _).mono ?_); rintro e w2 ⟨rfl, rfl⟩))
  all_goals
    go_wp2_with fail
    go_ret
    exact ⟨rfl, HB2.out⟩
set_option maxHeartbeats 2000000 in
theorem so43_11 (n d : Int) (nm : ByteArray) (A0 : Option Addr) (k0 c0 : Nat) (ds : Int) (ks : List Int) (A : Option Addr) (c : Nat) (hl : ks.length ≤ c) (hcm : c ≤ maxLen) (w : World) (h : Is w A ks) :
    Calls Try.prog 55 #[.agg #[.int .i64 11, .slice A0 k0 c0, .int .i64 n, .int .i64 d, .string nm], .int .i64 ds, .slice A ks.length c] w fun e w' => e = .returned (.int .i64 (srt 11 d ds ks)) ∧ Below w.heap.size w w' := by
  rw [show srt 11 d ds ks = whn (ks.all sNu) (numS 11 d ks) by simp [srt]]
  have HV := Lib.hid (fun (W : World) (hW : Is W A ks) => everynum_any ks A c (Nat.le_trans hl hcm) W hW)
  have HM := Lib.hid (fun (W : World) (hW : Is W A ks) => number_any 11 n d nm A0 k0 c0 ks A c (Nat.le_trans hl hcm) W hW)
  have HA0 := Lib.hid h
  have HA : Hid (Is ((w.alloc (.cells #[.int .i64 11, .slice A0 k0 c0, .int .i64 n, .int .i64 d, .string nm] 24)).drew) A ks) := Lib.hid (h.below (new_below w (.cells #[.int .i64 11, .slice A0 k0 c0, .int .i64 n, .int .i64 d, .string nm] 24)).drew)
  have HN0 := Lib.hid ((HB.new w 24 #[.int .i64 11, .slice A0 k0 c0, .int .i64 n, .int .i64 d, .string nm]).drew)
  have HW := Lib.hid whn_any
  clear h hl hcm
  generalize ks.length = L at *
  go_enter Try.func55, Try.ntmps55
  go_wp2_with fail
  go_region_with (first
    | (go_at_call 50; (with_reducible refine (HV.out ((w.alloc (.cells #[.int .i64 11, .slice A0 k0 c0, .int .i64 n, .int .i64 d, .string nm] 24)).drew) HA.out).mono ?_); rintro e w1 ⟨rfl, hb1⟩; have HB1 := Lib.hid (bw_below (Nat.le_refl _) (new_below w _).drew hb1); have A1 := Lib.hid (HA0.out.below HB1.out); have N1 := HN0.out.below hb1; clear hb1; obtain ⟨z0, z1, z2, z3, z4⟩ := ag5 N1)
    | (go_at_call 82; (with_reducible refine (HM.out ((w.alloc (.cells #[.int .i64 11, .slice A0 k0 c0, .int .i64 n, .int .i64 d, .string nm] 24)).drew) HA.out).mono ?_); rintro e w1 ⟨rfl, hb1⟩; have HB1 := Lib.hid (bw_below (Nat.le_refl _) (new_below w _).drew hb1); have A1 := Lib.hid (HA0.out.below HB1.out); clear hb1)
    | (go_at_call 50; (with_reducible refine (HV.out w1 A1.out).mono ?_); rintro e w2 ⟨rfl, hb2⟩; have HB2 := Lib.hid (bw_below (Nat.le_refl _) HB1.out hb2); clear hb2)
    | (go_at_call 82; (with_reducible refine (HM.out w1 A1.out).mono ?_); rintro e w2 ⟨rfl, hb2⟩; have HB2 := Lib.hid (bw_below (Nat.le_refl _) HB1.out hb2); clear hb2)
    | (go_at_call 78; (with_reducible refine (HW.out _ _ _).mono ?_); rintro e w2 ⟨rfl, rfl⟩))
  all_goals
    go_wp2_with fail
    go_ret
    exact ⟨rfl, HB2.out⟩
set_option maxHeartbeats 2000000 in
theorem so43_12 (n d : Int) (nm : ByteArray) (A0 : Option Addr) (k0 c0 : Nat) (ds : Int) (ks : List Int) (A : Option Addr) (c : Nat) (hl : ks.length ≤ c) (hcm : c ≤ maxLen) (w : World) (h : Is w A ks) :
    Calls Try.prog 55 #[.agg #[.int .i64 12, .slice A0 k0 c0, .int .i64 n, .int .i64 d, .string nm], .int .i64 ds, .slice A ks.length c] w fun e w' => e = .returned (.int .i64 (srt 12 d ds ks)) ∧ Below w.heap.size w w' := by
  rw [show srt 12 d ds ks = whn (ks.all sNu) (numS 12 d ks) by simp [srt]]
  have HV := Lib.hid (fun (W : World) (hW : Is W A ks) => everynum_any ks A c (Nat.le_trans hl hcm) W hW)
  have HM := Lib.hid (fun (W : World) (hW : Is W A ks) => number_any 12 n d nm A0 k0 c0 ks A c (Nat.le_trans hl hcm) W hW)
  have HA0 := Lib.hid h
  have HA : Hid (Is ((w.alloc (.cells #[.int .i64 12, .slice A0 k0 c0, .int .i64 n, .int .i64 d, .string nm] 24)).drew) A ks) := Lib.hid (h.below (new_below w (.cells #[.int .i64 12, .slice A0 k0 c0, .int .i64 n, .int .i64 d, .string nm] 24)).drew)
  have HN0 := Lib.hid ((HB.new w 24 #[.int .i64 12, .slice A0 k0 c0, .int .i64 n, .int .i64 d, .string nm]).drew)
  have HW := Lib.hid whn_any
  clear h hl hcm
  generalize ks.length = L at *
  go_enter Try.func55, Try.ntmps55
  go_wp2_with fail
  go_region_with (first
    | (go_at_call 50; (with_reducible refine (HV.out ((w.alloc (.cells #[.int .i64 12, .slice A0 k0 c0, .int .i64 n, .int .i64 d, .string nm] 24)).drew) HA.out).mono ?_); rintro e w1 ⟨rfl, hb1⟩; have HB1 := Lib.hid (bw_below (Nat.le_refl _) (new_below w _).drew hb1); have A1 := Lib.hid (HA0.out.below HB1.out); have N1 := HN0.out.below hb1; clear hb1; obtain ⟨z0, z1, z2, z3, z4⟩ := ag5 N1)
    | (go_at_call 82; (with_reducible refine (HM.out ((w.alloc (.cells #[.int .i64 12, .slice A0 k0 c0, .int .i64 n, .int .i64 d, .string nm] 24)).drew) HA.out).mono ?_); rintro e w1 ⟨rfl, hb1⟩; have HB1 := Lib.hid (bw_below (Nat.le_refl _) (new_below w _).drew hb1); have A1 := Lib.hid (HA0.out.below HB1.out); clear hb1)
    | (go_at_call 50; (with_reducible refine (HV.out w1 A1.out).mono ?_); rintro e w2 ⟨rfl, hb2⟩; have HB2 := Lib.hid (bw_below (Nat.le_refl _) HB1.out hb2); clear hb2)
    | (go_at_call 82; (with_reducible refine (HM.out w1 A1.out).mono ?_); rintro e w2 ⟨rfl, hb2⟩; have HB2 := Lib.hid (bw_below (Nat.le_refl _) HB1.out hb2); clear hb2)
    | (go_at_call 78; (with_reducible refine (HW.out _ _ _).mono ?_); rintro e w2 ⟨rfl, rfl⟩))
  all_goals
    go_wp2_with fail
    go_ret
    exact ⟨rfl, HB2.out⟩
end Go.Proofs.Ytibpgcdaommjeaa
namespace Go.Proofs.Ytibpgcdaommjeaa
open Go.RowKit

theorem op_cases {op : Int} (h1 : 1 ≤ op) (h2 : op ≤ 25) : op = 1 ∨ op = 2 ∨ op = 3 ∨ op = 4 ∨ op = 5 ∨ op = 6 ∨ op = 7 ∨ op = 8 ∨ op = 9 ∨ op = 10 ∨ op = 11 ∨ op = 12 ∨ op = 13 ∨ op = 14 ∨ op = 15 ∨ op = 16 ∨ op = 17 ∨ op = 18 ∨ op = 19 ∨ op = 20 ∨ op = 21 ∨ op = 22 ∨ op = 23 ∨ op = 24 ∨ op = 25 := by omega
set_option maxHeartbeats 2000000 in
theorem kidcount_any (op : Int) (h1 : 1 ≤ op) (h2 : op ≤ 25) (w : World) : Calls Try.prog 52 #[.int .i64 op] w fun e w' => e = .returned (.int .i64 (kcN op)) ∧ w = w' := by
  rcases op_cases h1 h2 with rfl | rfl | rfl | rfl | rfl | rfl | rfl | rfl | rfl | rfl | rfl | rfl | rfl | rfl | rfl | rfl | rfl | rfl | rfl | rfl | rfl | rfl | rfl | rfl | rfl
  · rw [show kcN 1 = 0 by decide]
    clear h1 h2
    go_enter Try.func52, Try.ntmps52
    go_wp2
    go_ret
    exact ⟨rfl, rfl⟩
  · rw [show kcN 2 = 0 by decide]
    clear h1 h2
    go_enter Try.func52, Try.ntmps52
    go_wp2
    go_ret
    exact ⟨rfl, rfl⟩
  · rw [show kcN 3 = 1 by decide]
    clear h1 h2
    go_enter Try.func52, Try.ntmps52
    go_wp2
    go_ret
    exact ⟨rfl, rfl⟩
  · rw [show kcN 4 = -1 by decide]
    clear h1 h2
    go_enter Try.func52, Try.ntmps52
    go_wp2
    go_ret
    exact ⟨rfl, rfl⟩
  · rw [show kcN 5 = -1 by decide]
    clear h1 h2
    go_enter Try.func52, Try.ntmps52
    go_wp2
    go_ret
    exact ⟨rfl, rfl⟩
  · rw [show kcN 6 = 2 by decide]
    clear h1 h2
    go_enter Try.func52, Try.ntmps52
    go_wp2
    go_ret
    exact ⟨rfl, rfl⟩
  · rw [show kcN 7 = 3 by decide]
    clear h1 h2
    go_enter Try.func52, Try.ntmps52
    go_wp2
    go_ret
    exact ⟨rfl, rfl⟩
  · rw [show kcN 8 = 2 by decide]
    clear h1 h2
    go_enter Try.func52, Try.ntmps52
    go_wp2
    go_ret
    exact ⟨rfl, rfl⟩
  · rw [show kcN 9 = 2 by decide]
    clear h1 h2
    go_enter Try.func52, Try.ntmps52
    go_wp2
    go_ret
    exact ⟨rfl, rfl⟩
  · rw [show kcN 10 = 0 by decide]
    clear h1 h2
    go_enter Try.func52, Try.ntmps52
    go_wp2
    go_ret
    exact ⟨rfl, rfl⟩
  · rw [show kcN 11 = -1 by decide]
    clear h1 h2
    go_enter Try.func52, Try.ntmps52
    go_wp2
    go_ret
    exact ⟨rfl, rfl⟩
  · rw [show kcN 12 = 1 by decide]
    clear h1 h2
    go_enter Try.func52, Try.ntmps52
    go_wp2
    go_ret
    exact ⟨rfl, rfl⟩
  · rw [show kcN 13 = 2 by decide]
    clear h1 h2
    go_enter Try.func52, Try.ntmps52
    go_wp2
    go_ret
    exact ⟨rfl, rfl⟩
  · rw [show kcN 14 = 2 by decide]
    clear h1 h2
    go_enter Try.func52, Try.ntmps52
    go_wp2
    go_ret
    exact ⟨rfl, rfl⟩
  · rw [show kcN 15 = 0 by decide]
    clear h1 h2
    go_enter Try.func52, Try.ntmps52
    go_wp2
    go_ret
    exact ⟨rfl, rfl⟩
  · rw [show kcN 16 = 1 by decide]
    clear h1 h2
    go_enter Try.func52, Try.ntmps52
    go_wp2
    go_ret
    exact ⟨rfl, rfl⟩
  · rw [show kcN 17 = 2 by decide]
    clear h1 h2
    go_enter Try.func52, Try.ntmps52
    go_wp2
    go_ret
    exact ⟨rfl, rfl⟩
  · rw [show kcN 18 = 2 by decide]
    clear h1 h2
    go_enter Try.func52, Try.ntmps52
    go_wp2
    go_ret
    exact ⟨rfl, rfl⟩
  · rw [show kcN 19 = 2 by decide]
    clear h1 h2
    go_enter Try.func52, Try.ntmps52
    go_wp2
    go_ret
    exact ⟨rfl, rfl⟩
  · rw [show kcN 20 = 2 by decide]
    clear h1 h2
    go_enter Try.func52, Try.ntmps52
    go_wp2
    go_ret
    exact ⟨rfl, rfl⟩
  · rw [show kcN 21 = 2 by decide]
    clear h1 h2
    go_enter Try.func52, Try.ntmps52
    go_wp2
    go_ret
    exact ⟨rfl, rfl⟩
  · rw [show kcN 22 = 2 by decide]
    clear h1 h2
    go_enter Try.func52, Try.ntmps52
    go_wp2
    go_ret
    exact ⟨rfl, rfl⟩
  · rw [show kcN 23 = 1 by decide]
    clear h1 h2
    go_enter Try.func52, Try.ntmps52
    go_wp2
    go_ret
    exact ⟨rfl, rfl⟩
  · rw [show kcN 24 = 2 by decide]
    clear h1 h2
    go_enter Try.func52, Try.ntmps52
    go_wp2
    go_ret
    exact ⟨rfl, rfl⟩
  · rw [show kcN 25 = 3 by decide]
    clear h1 h2
    go_enter Try.func52, Try.ntmps52
    go_wp2
    go_ret
    exact ⟨rfl, rfl⟩
theorem sortof_any (op n d : Int) (nm : ByteArray) (A0 : Option Addr) (k0 c0 : Nat) (ds : Int) (ks : List Int) (A : Option Addr) (c : Nat) (hl : ks.length ≤ c) (hcm : c ≤ maxLen) (w : World) (h : Is w A ks) (h1 : 1 ≤ op) (h2 : op ≤ 25) (hk : op ≠ 9 → kcN op = -1 ∨ kcN op = ks.length) (hd : op = 15 → -1000 ≤ d ∧ d ≤ 1000) :
    Calls Try.prog 55 #[.agg #[.int .i64 op, .slice A0 k0 c0, .int .i64 n, .int .i64 d, .string nm], .int .i64 ds, .slice A ks.length c] w fun e w' => e = .returned (.int .i64 (srt op d ds ks)) ∧ Below w.heap.size w w' := by
  rcases op_cases h1 h2 with rfl | rfl | rfl | rfl | rfl | rfl | rfl | rfl | rfl | rfl | rfl | rfl | rfl | rfl | rfl | rfl | rfl | rfl | rfl | rfl | rfl | rfl | rfl | rfl | rfl
  · exact so43_1 n d nm A0 k0 c0 ds ks A c hl hcm w h
  · exact so43_2 n d nm A0 k0 c0 ds ks A c hl hcm w h
  · exact so43_3 n d nm A0 k0 c0 ds ks A c hl hcm w h
  · exact so43_4 n d nm A0 k0 c0 ds ks A c hl hcm w h
  · exact so43_5 n d nm A0 k0 c0 ds ks A c hl hcm w h
  · exact so43_6 n d nm A0 k0 c0 ds ks A c hl hcm w h
  · exact so43_7 n d nm A0 k0 c0 ds ks A c hl hcm w h (by have z := hk (by decide); rw [show kcN 7 = 3 by decide] at z; omega)
  · exact so43_8 n d nm A0 k0 c0 ds ks A c hl hcm w h (by have z := hk (by decide); rw [show kcN 8 = 2 by decide] at z; omega)
  · exact so43_9 n d nm A0 k0 c0 ds ks A c hl hcm w h
  · exact so43_10 n d nm A0 k0 c0 ds ks A c hl hcm w h
  · exact so43_11 n d nm A0 k0 c0 ds ks A c hl hcm w h
  · exact so43_12 n d nm A0 k0 c0 ds ks A c hl hcm w h
  · exact so43_13 n d nm A0 k0 c0 ds ks A c hl hcm w h
  · exact so43_14 n d nm A0 k0 c0 ds ks A c hl hcm w h
  · exact so43_15 n d nm A0 k0 c0 ds ks A c hl hcm w h (hd rfl).1 (hd rfl).2
  · exact so43_16 n d nm A0 k0 c0 ds ks A c hl hcm w h (by have z := hk (by decide); rw [show kcN 16 = 1 by decide] at z; omega)
  · exact so43_17 n d nm A0 k0 c0 ds ks A c hl hcm w h (by have z := hk (by decide); rw [show kcN 17 = 2 by decide] at z; omega)
  · exact so43_18 n d nm A0 k0 c0 ds ks A c hl hcm w h (by have z := hk (by decide); rw [show kcN 18 = 2 by decide] at z; omega)
  · exact so43_19 n d nm A0 k0 c0 ds ks A c hl hcm w h (by have z := hk (by decide); rw [show kcN 19 = 2 by decide] at z; omega)
  · exact so43_20 n d nm A0 k0 c0 ds ks A c hl hcm w h (by have z := hk (by decide); rw [show kcN 20 = 2 by decide] at z; omega)
  · exact so43_21 n d nm A0 k0 c0 ds ks A c hl hcm w h (by have z := hk (by decide); rw [show kcN 21 = 2 by decide] at z; omega)
  · exact so43_22 n d nm A0 k0 c0 ds ks A c hl hcm w h (by have z := hk (by decide); rw [show kcN 22 = 2 by decide] at z; omega)
  · exact so43_23 n d nm A0 k0 c0 ds ks A c hl hcm w h (by have z := hk (by decide); rw [show kcN 23 = 1 by decide] at z; omega)
  · exact so43_24 n d nm A0 k0 c0 ds ks A c hl hcm w h (by have z := hk (by decide); rw [show kcN 24 = 2 by decide] at z; omega)
  · exact so43_25 n d nm A0 k0 c0 ds ks A c hl hcm w h (by have z := hk (by decide); rw [show kcN 25 = 3 by decide] at z; omega)
end Go.Proofs.Ytibpgcdaommjeaa
