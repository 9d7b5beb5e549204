/-
  Asks: names, as the program and as the reference tell them.
-/
import Derived.Test.YtjjjgffpmghfgaaAskB
namespace Go.Proofs.Ytjjjgffpmghfgaa
open Go.RowKit

/-- Letters and digits. -/
def ltr (c : Int) : Bool := ((decide (97 ≤ c) && decide (c ≤ 122)) || (decide (65 ≤ c) && decide (c ≤ 90))) || c == 95
def dig (c : Int) : Bool := decide (48 ≤ c) && decide (c ≤ 57)
theorem isdigit_any (c : Int) (w : World) : Calls Try.prog 67 #[.int .u8 c] w fun e w' => e = .returned (.bool (dig c)) ∧ w = w' := by
  unfold dig
  cases d : decide (48 ≤ c) with
  | true =>
    rw [Bool.true_and]
    go_enter Try.func67, Try.ntmps67
    go_wp2
    go_ret
    exact ⟨rfl, rfl⟩
  | false =>
    rw [Bool.false_and]
    go_enter Try.func67, Try.ntmps67
    go_wp2
    go_ret
    exact ⟨rfl, rfl⟩
theorem isletter_any (c : Int) (w : World) : Calls Try.prog 68 #[.int .u8 c] w fun e w' => e = .returned (.bool (ltr c)) ∧ w = w' := by
  have fin : ∀ b : Bool, ltr c = b → (Calls Try.prog 68 #[.int .u8 c] w fun e w' => e = .returned (.bool b) ∧ w = w') → Calls Try.prog 68 #[.int .u8 c] w fun e w' => e = .returned (.bool (ltr c)) ∧ w = w' := fun b hb h => by rw [hb]; exact h
  cases d1 : decide (97 ≤ c) <;> cases d2 : decide (c ≤ 122) <;> cases d3 : decide (65 ≤ c) <;> cases d4 : decide (c ≤ 90) <;>
  first
    | (exfalso; simp at d1 d2 d3 d4; omega)
    | (refine fin true (by unfold ltr; rw [d1, d2, d3, d4]; rfl) ?_; clear fin; go_enter Try.func68, Try.ntmps68; go_wp2; go_ret; exact ⟨rfl, rfl⟩)
    | (refine fin (c == 95) (by unfold ltr; rw [d1, d2, d3, d4]; simp) ?_; clear fin; go_enter Try.func68, Try.ntmps68; go_wp2; go_ret; exact ⟨rfl, rfl⟩)
/-- A byte of a text. -/
def bs (s : ByteArray) (j : Nat) : Int := if h : j < s.size then (s[j].toNat : Int) else 0
theorem bs_of {s : ByteArray} {j : Nat} (h : j < s.size) : (s[j].toNat : Int) = bs s j := by simp [bs, h]
/-- May the byte at a place stand in a name? -/
def nmC (s : ByteArray) (j : Nat) : Bool := ltr (bs s j) || (dig (bs s j) && decide (0 < j))
def okNm (s : ByteArray) : Bool := decide (1 ≤ s.size) && decide (s.size ≤ 12) && (List.range s.size).all (nmC s)
theorem rall_of {n : Nat} {p : Nat → Bool} (h : ∀ j, j < n → p j = true) : (List.range n).all p = true := by
  rw [List.all_eq_true]; intro x hx; exact h x (List.mem_range.1 hx)
theorem rall_not {n i : Nat} {p : Nat → Bool} (hi : i < n) (h : p i = false) : (List.range n).all p = false := by
  rw [List.all_eq_false]; exact ⟨i, List.mem_range.2 hi, by rw [h]; simp⟩
theorem empty_of {s : ByteArray} (h : s.size = 0) : s = ByteArray.empty := by
  cases s with | mk d => simp [ByteArray.size] at h; subst h; rfl
theorem tl_ne {s : ByteArray} (h : ¬ s.size = 0) : s.toList.isEmpty = false := by
  rw [ByteArray.toList_eq]
  cases s with | mk d => cases d with | mk l => cases l with
    | nil => exact absurd rfl h
    | cons a l => rfl
theorem tl_e {s : ByteArray} (h : s.size = 0) : s.toList.isEmpty = true := by
  rw [empty_of h, ByteArray.toList_eq]; rfl
theorem ltr_dig {c : Int} (h : ltr c = true) : dig c = false := by
  unfold ltr at h
  unfold dig
  simp at h ⊢
  omega
set_option maxHeartbeats 1000000 in
theorem isname_any (s : ByteArray) (w : World) (hs : s.size ≤ maxLen) : Calls Try.prog 36 #[.string s] w fun e w' => e = .returned (.bool (okNm s)) ∧ w = w' := by
  by_cases h1 : s.size = 0
  · have e := empty_of h1
    subst e
    go_enter Try.func36, Try.ntmps36
    go_wp2_with fail
    go_ret
    exact ⟨rfl, rfl⟩
  · have d1 := tl_ne h1
    by_cases h2 : s.size ≤ 12
    · have d2 : decide ((12 : Int) < s.size) = false := by simp; omega
      have hpos : 0 < s.size := by omega
      cases hd : dig (bs s 0) with
      | true =>
        have HD := Lib.hid hd
        have HE : Hid (okNm s = false) := Lib.hid (by
          unfold okNm
          rw [rall_not hpos (by
            unfold nmC
            rw [hd]
            cases hl : ltr (bs s 0) with
            | true => rw [ltr_dig hl] at hd; cases hd
            | false => rfl), Bool.and_false])
        clear hd
        rw [HE.out]
        go_enter Try.func36, Try.ntmps36
        go_wp2_with fail
        rw [bs_of hpos]
        refine (isdigit_any _ _).mono ?_
        rintro e w1 ⟨rfl, rfl⟩
        rw [HD.out]
        go_wp2_with fail
        go_ret
        exact ⟨rfl, rfl⟩
      | false =>
        have HD := Lib.hid hd
        have H1 := Lib.hid h1
        have H2 := Lib.hid h2
        clear hd h1 h2
        go_enter Try.func36, Try.ntmps36
        go_wp2_with fail
        rw [bs_of hpos]
        refine (isdigit_any _ _).mono ?_
        rintro e w1 ⟨rfl, rfl⟩
        rw [HD.out]
        go_wp2_with fail
        go_loopw [3, 18] (fun _ k wr => ∃ j : Nat, j ≤ s.size ∧ k = .int .i64 j ∧ Hid (∀ k, k < j → nmC s k = true) ∧ Hid (w = wr)) (fun _ k _ => s.size - (intOf k).toNat)
        case atStart => exact ⟨0, by omega, rfl, fun k h1 => by omega, rfl⟩
        case round =>
          obtain ⟨j, hj, rfl, HI, HW⟩ := hrel
          by_cases hlt : j < s.size
          · have d : decide ((j : Int) < s.size) = true := by simpa using hlt
            have hb : s.size ≤ 12 := H2.out
            cases hl : ltr (bs s j) with
            | true =>
              have HL := Lib.hid hl
              clear hl
              go_wp2_with fail
              rw [bs_of hlt]
              refine (isletter_any _ _).mono ?_
              rintro e w1 ⟨rfl, rfl⟩
              rw [HL.out]
              go_wp2_with fail
              go_round
              case rel => exact ⟨j + 1, by omega, by go_num, fun k h1 => by
                rcases Nat.lt_or_ge k j with z | z
                · exact HI.out k z
                · obtain rfl : k = j := by omega
                  unfold nmC; rw [HL.out]; rfl, HW.out⟩
              case measure => simp [intOf]; omega
            | false =>
              have HL := Lib.hid hl
              cases hg : dig (bs s j) with
              | true =>
                have HG := Lib.hid hg
                clear hl hg
                go_wp2_with fail
                rw [bs_of hlt]
                refine (isletter_any _ _).mono ?_
                rintro e w1 ⟨rfl, rfl⟩
                rw [HL.out]
                go_wp2_with fail
                rw [bs_of hlt]
                refine (isdigit_any _ _).mono ?_
                rintro e w1 ⟨rfl, rfl⟩
                rw [HG.out]
                go_wp2_with fail
                go_round
                case rel => exact ⟨j + 1, by omega, by go_num, fun k h1 => by
                  rcases Nat.lt_or_ge k j with z | z
                  · exact HI.out k z
                  · obtain rfl : k = j := by omega
                    unfold nmC
                    rw [HG.out]
                    rcases Nat.eq_zero_or_pos k with q | q
                    · subst q; have a := HG.out; rw [HD.out] at a; cases a
                    · simp [q], HW.out⟩
                case measure => simp [intOf]; omega
              | false =>
                have HG := Lib.hid hg
                have HE : Hid (okNm s = false) := Lib.hid (by
                  unfold okNm
                  rw [rall_not hlt (by unfold nmC; rw [hl, hg]; rfl), Bool.and_false])
                clear hl hg
                go_wp2_with fail
                rw [bs_of hlt]
                refine (isletter_any _ _).mono ?_
                rintro e w1 ⟨rfl, rfl⟩
                rw [HL.out]
                go_wp2_with fail
                rw [bs_of hlt]
                refine (isdigit_any _ _).mono ?_
                rintro e w1 ⟨rfl, rfl⟩
                rw [HG.out]
                go_wp2_with fail
                go_ret
                rw [HE.out]
                exact ⟨rfl, HW.out⟩
          · obtain rfl : j = s.size := by omega
            have d : decide ((s.size : Int) < s.size) = false := by simp
            have HE : Hid (okNm s = true) := Lib.hid (by
              unfold okNm
              rw [rall_of HI.out]
              have := H1.out
              have := H2.out
              simp; omega)
            clear hlt
            go_wp2_with fail
            go_ret
            rw [HE.out]
            exact ⟨rfl, HW.out⟩
    · have d2 : decide ((12 : Int) < s.size) = true := by simp; omega
      have HE : Hid (okNm s = false) := Lib.hid (by simp [okNm]; omega)
      clear h1 h2 hs
      go_enter Try.func36, Try.ntmps36
      go_wp2_with fail
      go_ret
      rw [HE.out]
      exact ⟨rfl, rfl⟩
end Go.Proofs.Ytjjjgffpmghfgaa
