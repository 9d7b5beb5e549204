/-
  The reader's words.
-/
import Derived.Test.YtgkhkdohlbchoaaSexO
import Derived.BigQuiet
import Derived.Deep.RegionWith
namespace Go.Proofs.Ytgkhkdohlbchoaa
open Go.RowKit
theorem wordend_same (s : ByteArray) (i : Nat) (hi : i ≤ s.size) (hs : s.size ≤ maxLen) (w : World) : Calls Try.prog 44 #[.string s, .int .i64 i] w fun e w' => e = .returned (.int .i64 (wEnd s i)) ∧ w' = w := (wordend_any s i hi hs w).mono fun _ _ h => ⟨h.1, h.2.symm⟩
theorem clone_any (s : ByteArray) (hs : s.size ≤ 1000000) (w : World) : Calls Try.prog 45 #[.string s] w fun e w' => e = .returned (.string s) ∧ Below w.heap.size w w' := by
  go_enter Try.func45, Try.ntmps45
  go_wp2_with fail
  refine (Try.stringslite_Clone s _ (by omega)).mono ?_
  rintro e w1 ⟨rfl, hb⟩
  go_wp2_with fail
  go_ret
  exact ⟨rfl, hb⟩
set_option maxHeartbeats 4000000 in
theorem word_long (B p i : Nat) (s : ByteArray) (st : List Fo) (w : World) (h : PS w B p s i st) (hi : i ≤ s.size) (hs : s.size ≤ 1000000) (hw : 24 < wEnd s i - i) : Calls Try.prog 37 #[.pointer (some ⟨p, 0, none⟩)] w fun e w' => e = .returned (.int .i64 12) ∧ PS w' B p s i st ∧ Below B w w' := by
  have HW := Lib.hid (fun W => wordend_same s i hi (by unfold maxLen; omega) W)
  have hle := wEnd_le hi
  obtain ⟨go, cap, hB, hb⟩ := h.cell
  obtain ⟨c0, c1, c2, _⟩ := hb.three
  have HP := Lib.hid h
  generalize wEnd s i = j at *
  generalize st.length = n at *
  have t1 : (24 : Int) < (j : Int) - i := by omega
  clear h hb hw
  go_enter Try.func37, Try.ntmps37
  go_wp2_with fail
  go_quiet ((go_at_call 44; exact Calls.quiet_of_same (HW.out _)))
  go_wp2_with fail
  go_ret
  exact ⟨rfl, HP.out.drewN _, below_dn (Below.refl _ _) _⟩
set_option maxHeartbeats 4000000 in
theorem word_deep (B p i : Nat) (s : ByteArray) (st : List Fo) (w : World) (h : PS w B p s i st) (hst : st ≠ []) (hl : st.length ≤ 99999) (hi : i ≤ s.size) (hs : s.size ≤ 1000000) (hw : ¬ 24 < wEnd s i - i) (hd : 40 < st.length - 1) : Calls Try.prog 37 #[.pointer (some ⟨p, 0, none⟩)] w fun e w' => e = .returned (.int .i64 10) ∧ PS w' B p s i st ∧ Below B w w' := by
  have HW := Lib.hid (fun W => wordend_same s i hi (by unfold maxLen; omega) W)
  have HD := Lib.hid (fun n => depth_any B p i s st (w.drewN n) (h.drewN n) hst (by omega))
  have hle := wEnd_le hi
  obtain ⟨go, cap, hB, hb⟩ := h.cell
  obtain ⟨c0, c1, c2, _⟩ := hb.three
  have HP := Lib.hid h
  generalize wEnd s i = j at *
  generalize st.length - 1 = d at *
  generalize st.length = n at *
  have t1 : ¬ (24 : Int) < (j : Int) - i := by omega
  clear h hb hw
  go_enter Try.func37, Try.ntmps37
  go_wp2_with fail
  go_quiet ((go_at_call 44; exact Calls.quiet_of_same (HW.out _)))
  go_wp2_with fail
  refine (HD.out _).mono ?_
  rintro e w1 ⟨rfl, rfl⟩
  go_wp2_with fail
  go_ret
  exact ⟨rfl, HP.out.drewN _, below_dn (Below.refl _ _) _⟩
set_option maxHeartbeats 8000000 in
theorem word_any (B p i : Nat) (s : ByteArray) (f : Fo) (st : List Fo) (w : World) (h : PS w B p s i (f :: st)) (hl : st.length ≤ 99999) (hf : f.len ≤ 1000000) (hi : i ≤ s.size) (hs : s.size ≤ 1000000) (hw : ¬ 24 < wEnd s i - i) (hd : ¬ 40 < st.length) : Calls Try.prog 37 #[.pointer (some ⟨p, 0, none⟩)] w fun e w' => e = .returned (.int .i64 0) ∧ PS w' B p s (wEnd s i) (f.snoc (cut s i (wEnd s i)) false .nil :: st) ∧ Below B w w' := by
  have HW := Lib.hid (fun W => wordend_same s i hi (by unfold maxLen; omega) W)
  have HD := Lib.hid (fun n => depth_any B p i s (f :: st) (w.drewN n) (h.drewN n) (by simp) (by simp; omega))
  simp only [List.length_cons, Nat.add_sub_cancel] at HD
  have hle := wEnd_le hi
  have hcs : (cut s i (wEnd s i)).size ≤ 1000000 := by
    unfold cut
    rw [ByteArray.size_extract]
    omega
  obtain ⟨go, cap, hB, hb⟩ := h.cell
  obtain ⟨c0, c1, c2, f0, f1, f2⟩ := hb.three
  have HP := Lib.hid h
  have hle0 := h.le
  have HADD := Lib.hid (fun (W : World) (hW : PS W B p s i (f :: st)) => show Calls Try.prog 42 #[.pointer (some ⟨p, 0, none⟩), .agg #[.string (cut s i (wEnd s i)), .bool false, .slice none 0 0]] W (fun e w' => e = .returned (.tuple #[]) ∧ PS w' B p s i (f.snoc (cut s i (wEnd s i)) false .nil :: st) ∧ Below B W w') from by
    obtain ⟨go, cap, vs, hB, hb, ho, hn, hk⟩ := hW
    cases vs with
    | nil => cases hk
    | cons v vs => exact add_any B p i s f st vs v go cap (cut s i (wEnd s i)) false .nil none 0 W hB hb ho hn hk (by unfold maxLen; omega) ⟨Nat.le_refl _, by unfold maxLen; omega, fun z => absurd z (by simp [Fo.len])⟩ hl hf)
  have HC := Lib.hid (clone_any (cut s i (wEnd s i)) hcs)
  have HE := Lib.hid (show s.extract i (wEnd s i) = cut s i (wEnd s i) from rfl)
  generalize hcut : cut s i (wEnd s i) = x at *
  generalize wEnd s i = j at *
  simp only [List.length_cons] at c2
  generalize st.length = n at *
  have t1 : ¬ (24 : Int) < (j : Int) - i := by omega
  clear h hb hw hcut
  go_enter Try.func37, Try.ntmps37
  go_wp2_with fail
  go_quiet ((go_at_call 44; exact Calls.quiet_of_same (HW.out _)))
  go_wp2_with fail
  refine (HD.out _).mono ?_
  rintro e w1 ⟨rfl, rfl⟩
  go_wp2_with fail
  go_region_with (first
    | (go_at_call 45; rw [HE.out]; refine (HC.out _).mono ?_; rintro e w2 ⟨rfl, hb2⟩; have P2 : Hid (PS w2 B p s i (f :: st)) := Lib.hid (PS.below (by exact HP.out.drewN _) hb2); have G2 : Hid (Below B w w2) := Lib.hid (bw_below (by exact hle0) (by exact below_dn (Below.refl _ _) _) hb2); clear hb2)
    | (go_at_call 42; refine (HADD.out _ P2.out).mono ?_; rintro e w3 ⟨rfl, hp3, hb3⟩; have P3 := Lib.hid hp3; have G3 : Hid (Below B w w3) := Lib.hid (G2.out.trans hb3); clear hp3 hb3))
  all_goals
    obtain ⟨go3, cap3, _, hbb⟩ := P3.out.cell
    clear c0 c1 c2 f0 f1 f2
    obtain ⟨c0, c1, c2, f0, f1, f2⟩ := hbb.three
    clear hbb
    go_wp2_with fail
    go_ret
    exact ⟨rfl, P3.out.move j, bw_far G3.out hB (far_set _ _ _ _)⟩
end Go.Proofs.Ytgkhkdohlbchoaa
