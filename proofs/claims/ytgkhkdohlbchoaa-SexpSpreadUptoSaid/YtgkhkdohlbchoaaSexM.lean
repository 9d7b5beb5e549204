/-
  The reader's comments.
-/
import Derived.Test.YtgkhkdohlbchoaaSexL
import Derived.BigQuiet
import Derived.Lib.IndexLaws
import Derived.Lib.Strings
namespace Go.Proofs.Ytgkhkdohlbchoaa
open Go.RowKit
theorem bs_get {s : ByteArray} {j : Nat} (h : j < s.size) : ∃ b : UInt8, s.data.toList[j]? = some b ∧ bs s j = (b.toNat : Int) := by
  refine ⟨s[j], ?_, by simp [bs, h]⟩
  have h2 : j < s.data.toList.length := h
  rw [List.getElem?_eq_getElem h2]
  rfl
theorem toNat_ten {b : UInt8} : (b.toNat : Int) = 10 ↔ b = 10 := by
  constructor
  · intro h
    apply UInt8.toNat_inj.1
    have : b.toNat = 10 := by omega
    rw [this]; rfl
  · intro h; subst h; rfl
theorem cEnd_index (s : ByteArray) (i : Nat) (hi : i ≤ s.size) (x : Int) (hx : Lib.indexByte (s.extract i s.size).data.toList (Int.toNat 10).toUInt8 = x) :
    (x = -1 ∧ cEnd s i = s.size) ∨ (0 ≤ x ∧ x = (cEnd s i : Int) - i ∧ x < s.size) := by
  rw [Lib.extract_data] at hx
  have hten : (Int.toNat 10).toUInt8 = (10 : UInt8) := rfl
  rw [hten] at hx
  have hg : ∀ k, k < s.size - i → ((s.data.toList.drop i).take (s.size - i))[k]? = s.data.toList[i + k]? := fun k hk => by
    rw [List.getElem?_take_of_lt hk, List.getElem?_drop]
  have hge := Lib.indexByte_ge ((s.data.toList.drop i).take (s.size - i)) 10
  rw [hx] at hge
  by_cases h0 : x = -1
  · left
    refine ⟨h0, cEnd_here hi (Nat.le_refl _) (fun k h1 h2 => ?_) (fun z => absurd z (Nat.lt_irrefl _))⟩
    have := Lib.indexByte_none (by rw [hx, h0]) (k - i)
    rw [hg _ (by omega), show i + (k - i) = k by omega] at this
    obtain ⟨b, e1, e2⟩ := bs_get h2
    rw [e1] at this
    rw [e2]
    intro z
    exact this (by rw [toNat_ten.1 z])
  · right
    obtain ⟨o, rfl⟩ : ∃ o : Nat, x = o := ⟨x.toNat, by omega⟩
    obtain ⟨h1, h2⟩ := Lib.indexByte_some hx
    have ho : o < s.size - i := by
      rcases Nat.lt_or_ge o (s.size - i) with z | z
      · exact z
      · rw [List.getElem?_take_eq_none z] at h1; cases h1
    have e : cEnd s i = i + o := by
      refine cEnd_here (by omega) (by omega) (fun k q1 q2 => ?_) (fun z => ?_)
      · have := h2 (k - i) (by omega)
        rw [hg _ (by omega), show i + (k - i) = k by omega] at this
        obtain ⟨b, e1, e2⟩ := bs_get (show k < s.size by omega)
        rw [e1] at this
        rw [e2]
        intro z
        exact this (by rw [toNat_ten.1 z])
      · rw [hg _ ho] at h1
        obtain ⟨b, e1, e2⟩ := bs_get z
        rw [e1] at h1
        cases h1
        rw [e2]; rfl
    refine ⟨by omega, by rw [e]; omega, by omega⟩
set_option maxHeartbeats 2000000 in
theorem comment_any (B p i : Nat) (s : ByteArray) (st : List Fo) (w : World) (h : PS w B p s i st) (hi : i ≤ s.size) (hs : s.size ≤ 1000000) : Calls Try.prog 35 #[.pointer (some ⟨p, 0, none⟩)] w fun e w' => e = .returned (.tuple #[]) ∧ PS w' B p s (cEnd s i) st ∧ Below B w w' := by
  obtain ⟨go, cap, hp, hb⟩ := h.cell
  obtain ⟨c0, c1, c2, f0, f1, f2⟩ := hb.three
  have HP := Lib.hid h
  have HX := Lib.hid (cEnd_index s i hi)
  have hce := (cEnd_le hi).2
  generalize hc : cEnd s i = j at *
  generalize st.length = n at *
  clear h hb hc
  go_enter Try.func35, Try.ntmps35
  go_wp2_with fail
  go_quiet ((go_at_call 43; exact Calls.quiet_of_same (Try.strings_IndexByte _ _ _)))
  have hx := HX.out _ rfl
  generalize Lib.indexByte (s.extract i s.size).data.toList (Int.toNat 10).toUInt8 = x at *
  rcases hx with ⟨rfl, rfl⟩ | ⟨h0, h1, h2⟩
  · have e1 : (i : Int) + ((s.size : Int) - i) = s.size := by omega
    go_wp2_with fail
    go_quiet (fail)
    go_wp2_with fail
    first | go_end0 | refine bodyPost_ret (results_none rfl _ _ _) rfl ?_
    exact ⟨rfl, (HP.out.drewN _).move s.size, bw_far (below_dn (Below.refl _ _) _) hp (far_set _ _ _ _)⟩
  · have d1 : decide (x < 0) = false := by simp; omega
    have e1 : (i : Int) + x = j := by omega
    have HX2 := Lib.hid h1
    clear h1 h2
    go_wp2_with fail
    first | go_end0 | refine bodyPost_ret (results_none rfl _ _ _) rfl ?_
    exact ⟨rfl, (HP.out.drewN _).move j, bw_far (below_dn (Below.refl _ _) _) hp (far_set _ _ _ _)⟩
end Go.Proofs.Ytgkhkdohlbchoaa
