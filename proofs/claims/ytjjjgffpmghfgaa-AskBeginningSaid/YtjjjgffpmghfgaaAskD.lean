/-
  Asks: names, as the reference tells them.
-/
import Derived.Test.YtjjjgffpmghfgaaAskC
namespace Go.Proofs.Ytjjjgffpmghfgaa
open Go.RowKit

theorem nm_bad {s : ByteArray} {j : Nat} (hj : j < s.size) (h : nmC s j = false) : okNm s = false := by
  unfold okNm
  rw [rall_not hj h, Bool.and_false]
set_option maxHeartbeats 4000000 in
theorem goodname_any (s : ByteArray) (w : World) (hs : s.size ≤ maxLen) : Calls Try.prog 93 #[.string s] w fun e w' => e = .returned (.bool (okNm s)) ∧ w = w' := by
  by_cases h1 : s.size = 0
  · have e := empty_of h1
    subst e
    go_enter Try.func93, Try.ntmps93
    go_wp2_with fail
    go_ret
    exact ⟨rfl, rfl⟩
  · have d1 : decide ((s.size : Int) < 1) = false := by simp; omega
    by_cases h2 : s.size ≤ 12
    · have d2 : decide ((12 : Int) < s.size) = false := by simp; omega
      have H1 := Lib.hid h1
      have H2 := Lib.hid h2
      clear h1 h2
      go_enter Try.func93, Try.ntmps93
      go_wp2_with fail
      go_loopw [3] (fun k wr => ∃ j : Nat, j ≤ s.size ∧ k = .int .i64 j ∧ Hid (∀ k, k < j → nmC s k = true) ∧ Hid (w = wr)) (fun k _ => s.size - (intOf k).toNat)
      case atStart => exact ⟨0, by omega, rfl, fun k h1 => by omega, rfl⟩
      case round =>
        obtain ⟨j, hj, rfl, HI, HW⟩ := hrel
        by_cases hlt : j < s.size
        · have d : decide ((j : Int) < s.size) = true := by simpa using hlt
          have hb : s.size ≤ 12 := H2.out
          rcases (show (97 ≤ (s[j].toNat : Int) ∧ (s[j].toNat : Int) ≤ 122) ∨ (65 ≤ (s[j].toNat : Int) ∧ (s[j].toNat : Int) ≤ 90) ∨ (95 ≤ (s[j].toNat : Int) ∧ (s[j].toNat : Int) ≤ 95) ∨ ((s[j].toNat : Int) < 48) ∨ (48 ≤ (s[j].toNat : Int) ∧ (s[j].toNat : Int) ≤ 57) ∨ (57 < (s[j].toNat : Int) ∧ (s[j].toNat : Int) < 65) ∨ (90 < (s[j].toNat : Int) ∧ (s[j].toNat : Int) < 95) ∨ (95 < (s[j].toNat : Int) ∧ (s[j].toNat : Int) < 97) ∨ (122 < (s[j].toNat : Int)) from by omega) with ⟨x1, x2⟩ | ⟨x1, x2⟩ | ⟨x1, x2⟩ | x1 | ⟨x1, x2⟩ | ⟨x1, x2⟩ | ⟨x1, x2⟩ | ⟨x1, x2⟩ | x1
          · skip
            have f0 : decide (97 ≤ (s[j].toNat : Int)) = true := by simp; omega
            have f1 : decide ((s[j].toNat : Int) ≤ 122) = true := by simp; omega
            have f2 : decide (65 ≤ (s[j].toNat : Int)) = true := by simp; omega
            have f3 : decide ((s[j].toNat : Int) ≤ 90) = false := by simp; omega
            have f4 : ((s[j].toNat : Int) == 95) = false := by simp; omega
            have f5 : decide ((s[j].toNat : Int) < 48) = false := by simp; omega
            have f6 : decide (57 < (s[j].toNat : Int)) = true := by simp; omega
            cases dz : ((j : Int) == 0) with
            | true =>
              have HZ := Lib.hid (show j = 0 by simp at dz; omega)
              have HG : Hid (nmC s j = true) := Lib.hid (by have hz := HZ.out; unfold nmC ltr dig; rw [← bs_of hlt]; simp; omega)
              go_wp2_with fail
              go_round
              case rel => exact ⟨j + 1, by omega, by go_num, fun k h1 => by
                rcases Nat.lt_or_ge k j with z | z
                · exact HI.out k z
                · obtain rfl : k = j := by omega
                  exact HG.out, HW.out⟩
              case measure => simp [intOf]; omega
            | false =>
              have HZ := Lib.hid (show 0 < j by simp at dz; omega)
              have HG : Hid (nmC s j = true) := Lib.hid (by have hz := HZ.out; unfold nmC ltr dig; rw [← bs_of hlt]; simp; omega)
              go_wp2_with fail
              go_round
              case rel => exact ⟨j + 1, by omega, by go_num, fun k h1 => by
                rcases Nat.lt_or_ge k j with z | z
                · exact HI.out k z
                · obtain rfl : k = j := by omega
                  exact HG.out, HW.out⟩
              case measure => simp [intOf]; omega
          · skip
            have f0 : decide (97 ≤ (s[j].toNat : Int)) = false := by simp; omega
            have f1 : decide ((s[j].toNat : Int) ≤ 122) = true := by simp; omega
            have f2 : decide (65 ≤ (s[j].toNat : Int)) = true := by simp; omega
            have f3 : decide ((s[j].toNat : Int) ≤ 90) = true := by simp; omega
            have f4 : ((s[j].toNat : Int) == 95) = false := by simp; omega
            have f5 : decide ((s[j].toNat : Int) < 48) = false := by simp; omega
            have f6 : decide (57 < (s[j].toNat : Int)) = true := by simp; omega
            cases dz : ((j : Int) == 0) with
            | true =>
              have HZ := Lib.hid (show j = 0 by simp at dz; omega)
              have HG : Hid (nmC s j = true) := Lib.hid (by have hz := HZ.out; unfold nmC ltr dig; rw [← bs_of hlt]; simp; omega)
              go_wp2_with fail
              go_round
              case rel => exact ⟨j + 1, by omega, by go_num, fun k h1 => by
                rcases Nat.lt_or_ge k j with z | z
                · exact HI.out k z
                · obtain rfl : k = j := by omega
                  exact HG.out, HW.out⟩
              case measure => simp [intOf]; omega
            | false =>
              have HZ := Lib.hid (show 0 < j by simp at dz; omega)
              have HG : Hid (nmC s j = true) := Lib.hid (by have hz := HZ.out; unfold nmC ltr dig; rw [← bs_of hlt]; simp; omega)
              go_wp2_with fail
              go_round
              case rel => exact ⟨j + 1, by omega, by go_num, fun k h1 => by
                rcases Nat.lt_or_ge k j with z | z
                · exact HI.out k z
                · obtain rfl : k = j := by omega
                  exact HG.out, HW.out⟩
              case measure => simp [intOf]; omega
          · skip
            have f0 : decide (97 ≤ (s[j].toNat : Int)) = false := by simp; omega
            have f1 : decide ((s[j].toNat : Int) ≤ 122) = true := by simp; omega
            have f2 : decide (65 ≤ (s[j].toNat : Int)) = true := by simp; omega
            have f3 : decide ((s[j].toNat : Int) ≤ 90) = false := by simp; omega
            have f4 : ((s[j].toNat : Int) == 95) = true := by simp; omega
            have f5 : decide ((s[j].toNat : Int) < 48) = false := by simp; omega
            have f6 : decide (57 < (s[j].toNat : Int)) = true := by simp; omega
            cases dz : ((j : Int) == 0) with
            | true =>
              have HZ := Lib.hid (show j = 0 by simp at dz; omega)
              have HG : Hid (nmC s j = true) := Lib.hid (by have hz := HZ.out; unfold nmC ltr dig; rw [← bs_of hlt]; simp; omega)
              go_wp2_with fail
              go_round
              case rel => exact ⟨j + 1, by omega, by go_num, fun k h1 => by
                rcases Nat.lt_or_ge k j with z | z
                · exact HI.out k z
                · obtain rfl : k = j := by omega
                  exact HG.out, HW.out⟩
              case measure => simp [intOf]; omega
            | false =>
              have HZ := Lib.hid (show 0 < j by simp at dz; omega)
              have HG : Hid (nmC s j = true) := Lib.hid (by have hz := HZ.out; unfold nmC ltr dig; rw [← bs_of hlt]; simp; omega)
              go_wp2_with fail
              go_round
              case rel => exact ⟨j + 1, by omega, by go_num, fun k h1 => by
                rcases Nat.lt_or_ge k j with z | z
                · exact HI.out k z
                · obtain rfl : k = j := by omega
                  exact HG.out, HW.out⟩
              case measure => simp [intOf]; omega
          · skip
            have f0 : decide (97 ≤ (s[j].toNat : Int)) = false := by simp; omega
            have f1 : decide ((s[j].toNat : Int) ≤ 122) = true := by simp; omega
            have f2 : decide (65 ≤ (s[j].toNat : Int)) = false := by simp; omega
            have f3 : decide ((s[j].toNat : Int) ≤ 90) = true := by simp; omega
            have f4 : ((s[j].toNat : Int) == 95) = false := by simp; omega
            have f5 : decide ((s[j].toNat : Int) < 48) = true := by simp; omega
            have f6 : decide (57 < (s[j].toNat : Int)) = false := by simp; omega
            cases dz : ((j : Int) == 0) with
            | true =>
              have HZ := Lib.hid (show j = 0 by simp at dz; omega)
              have HE : Hid (okNm s = false) := Lib.hid (nm_bad hlt (by have hz := HZ.out; unfold nmC ltr dig; rw [← bs_of hlt]; simp; omega))
              go_wp2_with fail
              go_ret
              rw [HE.out]
              exact ⟨rfl, HW.out⟩
            | false =>
              have HZ := Lib.hid (show 0 < j by simp at dz; omega)
              have HE : Hid (okNm s = false) := Lib.hid (nm_bad hlt (by have hz := HZ.out; unfold nmC ltr dig; rw [← bs_of hlt]; simp; omega))
              go_wp2_with fail
              go_ret
              rw [HE.out]
              exact ⟨rfl, HW.out⟩
          · skip
            have f0 : decide (97 ≤ (s[j].toNat : Int)) = false := by simp; omega
            have f1 : decide ((s[j].toNat : Int) ≤ 122) = true := by simp; omega
            have f2 : decide (65 ≤ (s[j].toNat : Int)) = false := by simp; omega
            have f3 : decide ((s[j].toNat : Int) ≤ 90) = true := by simp; omega
            have f4 : ((s[j].toNat : Int) == 95) = false := by simp; omega
            have f5 : decide ((s[j].toNat : Int) < 48) = false := by simp; omega
            have f6 : decide (57 < (s[j].toNat : Int)) = false := by simp; omega
            cases dz : ((j : Int) == 0) with
            | true =>
              have HZ := Lib.hid (show j = 0 by simp at dz; omega)
              have HE : Hid (okNm s = false) := Lib.hid (nm_bad hlt (by have hz := HZ.out; unfold nmC ltr dig; rw [← bs_of hlt]; simp; omega))
              go_wp2_with fail
              go_ret
              rw [HE.out]
              exact ⟨rfl, HW.out⟩
            | false =>
              have HZ := Lib.hid (show 0 < j by simp at dz; omega)
              have HG : Hid (nmC s j = true) := Lib.hid (by have hz := HZ.out; unfold nmC ltr dig; rw [← bs_of hlt]; simp; omega)
              go_wp2_with fail
              go_round
              case rel => exact ⟨j + 1, by omega, by go_num, fun k h1 => by
                rcases Nat.lt_or_ge k j with z | z
                · exact HI.out k z
                · obtain rfl : k = j := by omega
                  exact HG.out, HW.out⟩
              case measure => simp [intOf]; omega
          · skip
            have f0 : decide (97 ≤ (s[j].toNat : Int)) = false := by simp; omega
            have f1 : decide ((s[j].toNat : Int) ≤ 122) = true := by simp; omega
            have f2 : decide (65 ≤ (s[j].toNat : Int)) = false := by simp; omega
            have f3 : decide ((s[j].toNat : Int) ≤ 90) = true := by simp; omega
            have f4 : ((s[j].toNat : Int) == 95) = false := by simp; omega
            have f5 : decide ((s[j].toNat : Int) < 48) = false := by simp; omega
            have f6 : decide (57 < (s[j].toNat : Int)) = true := by simp; omega
            cases dz : ((j : Int) == 0) with
            | true =>
              have HZ := Lib.hid (show j = 0 by simp at dz; omega)
              have HE : Hid (okNm s = false) := Lib.hid (nm_bad hlt (by have hz := HZ.out; unfold nmC ltr dig; rw [← bs_of hlt]; simp; omega))
              go_wp2_with fail
              go_ret
              rw [HE.out]
              exact ⟨rfl, HW.out⟩
            | false =>
              have HZ := Lib.hid (show 0 < j by simp at dz; omega)
              have HE : Hid (okNm s = false) := Lib.hid (nm_bad hlt (by have hz := HZ.out; unfold nmC ltr dig; rw [← bs_of hlt]; simp; omega))
              go_wp2_with fail
              go_ret
              rw [HE.out]
              exact ⟨rfl, HW.out⟩
          · skip
            have f0 : decide (97 ≤ (s[j].toNat : Int)) = false := by simp; omega
            have f1 : decide ((s[j].toNat : Int) ≤ 122) = true := by simp; omega
            have f2 : decide (65 ≤ (s[j].toNat : Int)) = true := by simp; omega
            have f3 : decide ((s[j].toNat : Int) ≤ 90) = false := by simp; omega
            have f4 : ((s[j].toNat : Int) == 95) = false := by simp; omega
            have f5 : decide ((s[j].toNat : Int) < 48) = false := by simp; omega
            have f6 : decide (57 < (s[j].toNat : Int)) = true := by simp; omega
            cases dz : ((j : Int) == 0) with
            | true =>
              have HZ := Lib.hid (show j = 0 by simp at dz; omega)
              have HE : Hid (okNm s = false) := Lib.hid (nm_bad hlt (by have hz := HZ.out; unfold nmC ltr dig; rw [← bs_of hlt]; simp; omega))
              go_wp2_with fail
              go_ret
              rw [HE.out]
              exact ⟨rfl, HW.out⟩
            | false =>
              have HZ := Lib.hid (show 0 < j by simp at dz; omega)
              have HE : Hid (okNm s = false) := Lib.hid (nm_bad hlt (by have hz := HZ.out; unfold nmC ltr dig; rw [← bs_of hlt]; simp; omega))
              go_wp2_with fail
              go_ret
              rw [HE.out]
              exact ⟨rfl, HW.out⟩
          · skip
            have f0 : decide (97 ≤ (s[j].toNat : Int)) = false := by simp; omega
            have f1 : decide ((s[j].toNat : Int) ≤ 122) = true := by simp; omega
            have f2 : decide (65 ≤ (s[j].toNat : Int)) = true := by simp; omega
            have f3 : decide ((s[j].toNat : Int) ≤ 90) = false := by simp; omega
            have f4 : ((s[j].toNat : Int) == 95) = false := by simp; omega
            have f5 : decide ((s[j].toNat : Int) < 48) = false := by simp; omega
            have f6 : decide (57 < (s[j].toNat : Int)) = true := by simp; omega
            cases dz : ((j : Int) == 0) with
            | true =>
              have HZ := Lib.hid (show j = 0 by simp at dz; omega)
              have HE : Hid (okNm s = false) := Lib.hid (nm_bad hlt (by have hz := HZ.out; unfold nmC ltr dig; rw [← bs_of hlt]; simp; omega))
              go_wp2_with fail
              go_ret
              rw [HE.out]
              exact ⟨rfl, HW.out⟩
            | false =>
              have HZ := Lib.hid (show 0 < j by simp at dz; omega)
              have HE : Hid (okNm s = false) := Lib.hid (nm_bad hlt (by have hz := HZ.out; unfold nmC ltr dig; rw [← bs_of hlt]; simp; omega))
              go_wp2_with fail
              go_ret
              rw [HE.out]
              exact ⟨rfl, HW.out⟩
          · skip
            have f0 : decide (97 ≤ (s[j].toNat : Int)) = true := by simp; omega
            have f1 : decide ((s[j].toNat : Int) ≤ 122) = false := by simp; omega
            have f2 : decide (65 ≤ (s[j].toNat : Int)) = true := by simp; omega
            have f3 : decide ((s[j].toNat : Int) ≤ 90) = false := by simp; omega
            have f4 : ((s[j].toNat : Int) == 95) = false := by simp; omega
            have f5 : decide ((s[j].toNat : Int) < 48) = false := by simp; omega
            have f6 : decide (57 < (s[j].toNat : Int)) = true := by simp; omega
            cases dz : ((j : Int) == 0) with
            | true =>
              have HZ := Lib.hid (show j = 0 by simp at dz; omega)
              have HE : Hid (okNm s = false) := Lib.hid (nm_bad hlt (by have hz := HZ.out; unfold nmC ltr dig; rw [← bs_of hlt]; simp; omega))
              go_wp2_with fail
              go_ret
              rw [HE.out]
              exact ⟨rfl, HW.out⟩
            | false =>
              have HZ := Lib.hid (show 0 < j by simp at dz; omega)
              have HE : Hid (okNm s = false) := Lib.hid (nm_bad hlt (by have hz := HZ.out; unfold nmC ltr dig; rw [← bs_of hlt]; simp; omega))
              go_wp2_with fail
              go_ret
              rw [HE.out]
              exact ⟨rfl, HW.out⟩
        · obtain rfl : j = s.size := by omega
          have d : decide ((s.size : Int) < s.size) = false := by simp
          have HE : Hid (okNm s = true) := Lib.hid (by
            unfold okNm
            rw [rall_of HI.out]
            have := H1.out
            have := H2.out
            simp; omega)
          clear hlt
          go_wp2_with fail
          go_ret
          rw [HE.out]
          exact ⟨rfl, HW.out⟩
    · have d2 : decide ((12 : Int) < s.size) = true := by simp; omega
      have HE : Hid (okNm s = false) := Lib.hid (by simp [okNm]; omega)
      clear h1 h2 hs
      go_enter Try.func93, Try.ntmps93
      go_wp2_with fail
      go_ret
      rw [HE.out]
      exact ⟨rfl, rfl⟩
end Go.Proofs.Ytjjjgffpmghfgaa
