/-
  Package sexp: bytes of a word, a word's end, words; the same of the reference.
-/
import Derived.Test.YtgkhkdohlbchoaaFor
namespace Go.Proofs.Ytgkhkdohlbchoaa
open Go.RowKit

/-- May a byte stand in a word? -/
def inW (c : Int) : Bool := decide (33 ≤ c ∧ c ≤ 126 ∧ c ≠ 40 ∧ c ≠ 41 ∧ c ≠ 59)
theorem inword_any (c : Int) (w : World) : Calls Try.prog 36 #[.int .u8 c] w fun e w' => e = .returned (.bool (inW c)) ∧ w = w' := by
  by_cases h1 : 33 ≤ c
  · by_cases h2 : c ≤ 126
    · by_cases h3 : c = 40
      · have e : inW c = false := by simp [inW, h3]
        rw [e]
        subst h3
        go_enter Try.func36, Try.ntmps36
        go_wp2
        go_ret
        exact ⟨rfl, rfl⟩
      · by_cases h4 : c = 41
        · have e : inW c = false := by simp [inW, h4]
          rw [e]
          subst h4
          go_enter Try.func36, Try.ntmps36
          go_wp2
          go_ret
          exact ⟨rfl, rfl⟩
        · have e : inW c = (c != 59) := by simp only [inW, h1, h2, h3, h4, ne_eq, not_false_eq_true, true_and]; by_cases z : c = 59 <;> simp [z]
          rw [e]
          have d1 : decide (33 ≤ c) = true := by simpa using h1
          have d2 : decide (c ≤ 126) = true := by simpa using h2
          have d3 : (c != 40) = true := by simpa using h3
          have d4 : (c != 41) = true := by simpa using h4
          clear e
          go_enter Try.func36, Try.ntmps36
          go_wp2
          go_ret
          exact ⟨rfl, rfl⟩
    · have e : inW c = false := by simp [inW, h2]
      rw [e]
      have d1 : decide (33 ≤ c) = true := by simpa using h1
      have d2 : decide (c ≤ 126) = false := by simpa using h2
      clear e
      go_enter Try.func36, Try.ntmps36
      go_wp2
      go_ret
      exact ⟨rfl, rfl⟩
  · have e : inW c = false := by simp [inW, h1]
    rw [e]
    have d1 : decide (33 ≤ c) = false := by simpa using h1
    clear e
    go_enter Try.func36, Try.ntmps36
    go_wp2
    go_ret
    exact ⟨rfl, rfl⟩
theorem letter_any (c : Int) (w : World) : Calls Try.prog 40 #[.int .u8 c] w fun e w' => e = .returned (.bool (inW c)) ∧ w = w' := by
  by_cases h1 : 32 < c
  · by_cases h2 : c < 127
    · by_cases h3 : c = 40
      · have e : inW c = false := by simp [inW, h3]
        rw [e]
        subst h3
        go_enter Try.func40, Try.ntmps40
        go_wp2
        go_ret
        exact ⟨rfl, rfl⟩
      · by_cases h4 : c = 41
        · have e : inW c = false := by simp [inW, h4]
          rw [e]
          subst h4
          go_enter Try.func40, Try.ntmps40
          go_wp2
          go_ret
          exact ⟨rfl, rfl⟩
        · have e : inW c = (c != 59) := by simp only [inW, h3, h4, show 33 ≤ c by omega, show c ≤ 126 by omega, ne_eq, not_false_eq_true, true_and]; by_cases z : c = 59 <;> simp [z]
          rw [e]
          have d1 : decide (32 < c) = true := by simpa using h1
          have d2 : decide (c < 127) = true := by simpa using h2
          have d3 : (c != 40) = true := by simpa using h3
          have d4 : (c != 41) = true := by simpa using h4
          clear e
          go_enter Try.func40, Try.ntmps40
          go_wp2
          go_ret
          exact ⟨rfl, rfl⟩
    · have e : inW c = false := by simp [inW]; omega
      rw [e]
      have d1 : decide (32 < c) = true := by simpa using h1
      have d2 : decide (c < 127) = false := by simpa using h2
      clear e
      go_enter Try.func40, Try.ntmps40
      go_wp2
      go_ret
      exact ⟨rfl, rfl⟩
  · have e : inW c = false := by simp [inW]; omega
    rw [e]
    have d1 : decide (32 < c) = false := by simpa using h1
    clear e
    go_enter Try.func40, Try.ntmps40
    go_wp2
    go_ret
    exact ⟨rfl, rfl⟩
/-- A byte of a text. -/
def bs (s : ByteArray) (j : Nat) : Int := if h : j < s.size then (s[j].toNat : Int) else 0
theorem bs_of {s : ByteArray} {j : Nat} (h : j < s.size) : (s[j].toNat : Int) = bs s j := by simp [bs, h]
/-- Where the bytes of a word end that begin at a place. -/
def wEndF : Nat → ByteArray → Nat → Nat
  | 0, _, i => i
  | n + 1, s, i => if inW (bs s i) then wEndF n s (i + 1) else i
def wEnd (s : ByteArray) (i : Nat) : Nat := wEndF (s.size - i) s i
theorem wEnd_at {s : ByteArray} {i : Nat} (h : i < s.size) : wEnd s i = if inW (bs s i) then wEnd s (i + 1) else i := by
  unfold wEnd
  obtain ⟨n, hn⟩ : ∃ n, s.size - i = n + 1 := ⟨s.size - i - 1, by omega⟩
  have e : s.size - (i + 1) = n := by omega
  rw [hn, e, wEndF]
theorem wEnd_past {s : ByteArray} {i : Nat} (h : s.size ≤ i) : wEnd s i = i := by
  unfold wEnd
  rw [show s.size - i = 0 by omega, wEndF]
theorem wEnd_skip {s : ByteArray} {i j : Nat} (hij : i ≤ j) (hj : j ≤ s.size) (h : ∀ k, i ≤ k → k < j → inW (bs s k) = true) : wEnd s i = wEnd s j := by
  obtain ⟨n, rfl⟩ : ∃ n, j = i + n := ⟨j - i, by omega⟩
  induction n with
  | zero => rfl
  | succ n ih =>
    rw [ih (by omega) (by omega) (fun k h1 h2 => h k h1 (by omega)), wEnd_at (by omega), if_pos (h _ (by omega) (by omega))]
    rfl
theorem wEnd_here {s : ByteArray} {i j : Nat} (hij : i ≤ j) (hj : j ≤ s.size) (h : ∀ k, i ≤ k → k < j → inW (bs s k) = true) (he : j < s.size → inW (bs s j) = false) : wEnd s i = j := by
  rw [wEnd_skip hij hj h]
  by_cases z : j < s.size
  · rw [wEnd_at z, if_neg (by simp [he z])]
  · exact wEnd_past (by omega)
theorem wEnd_le {s : ByteArray} {i : Nat} (h : i ≤ s.size) : i ≤ wEnd s i ∧ wEnd s i ≤ s.size := by
  obtain ⟨n, hn⟩ : ∃ n, s.size - i = n := ⟨_, rfl⟩
  induction n generalizing i with
  | zero => rw [wEnd_past (by omega)]; omega
  | succ n ih =>
    rw [wEnd_at (by omega)]
    split
    · have := ih (i := i + 1) (by omega) (by omega); omega
    · omega
theorem wEnd_in {s : ByteArray} {i : Nat} (h : i ≤ s.size) : ∀ k, i ≤ k → k < wEnd s i → inW (bs s k) = true := by
  obtain ⟨n, hn⟩ : ∃ n, s.size - i = n := ⟨_, rfl⟩
  induction n generalizing i with
  | zero => intro k h1 h2; rw [wEnd_past (by omega)] at h2; omega
  | succ n ih =>
    intro k h1 h2
    rw [wEnd_at (by omega)] at h2
    split at h2
    · rcases Nat.lt_or_ge i k with z | z
      · exact ih (i := i + 1) (by omega) (by omega) k z h2
      · obtain rfl : k = i := by omega
        assumption
    · omega
theorem wEnd_out {s : ByteArray} {i : Nat} (h : i ≤ s.size) : wEnd s i < s.size → inW (bs s (wEnd s i)) = false := by
  obtain ⟨n, hn⟩ : ∃ n, s.size - i = n := ⟨_, rfl⟩
  induction n generalizing i with
  | zero => rw [wEnd_past (by omega)]; omega
  | succ n ih =>
    rw [wEnd_at (by omega)]
    split
    · exact ih (i := i + 1) (by omega) (by omega)
    · intro _; simp_all
set_option maxHeartbeats 1000000 in
theorem wordend_any (s : ByteArray) (i : Nat) (hi : i ≤ s.size) (hs : s.size ≤ maxLen) (w : World) : Calls Try.prog 44 #[.string s, .int .i64 i] w fun e w' => e = .returned (.int .i64 (wEnd s i)) ∧ w = w' := by
  unfold maxLen at hs
  go_enter Try.func44, Try.ntmps44
  go_wp2_with fail
  go_loop [1] (fun k => ∃ j : Nat, j ≤ s.size ∧ k = .int .i64 j ∧ Hid (i ≤ j ∧ ∀ k, i ≤ k → k < j → inW (bs s k) = true)) (fun k => s.size - (intOf k).toNat)
  case atStart => exact ⟨i, hi, rfl, by omega, fun k h1 h2 => by omega⟩
  case round =>
    obtain ⟨j, hj, rfl, HI⟩ := hrel
    by_cases hlt : j < s.size
    · have d : decide ((j : Int) < s.size) = true := by simpa using hlt
      by_cases hin : inW (bs s j) = true
      · have HIN := Lib.hid hin
        clear hin
        go_wp2_with fail
        rw [bs_of hlt]
        refine (inword_any _ _).mono ?_
        rintro e w1 ⟨rfl, rfl⟩
        rw [HIN.out]
        go_wp2
        go_round
        case rel => exact ⟨j + 1, by omega, by go_num, by have := HI.out; omega, fun k h1 h2 => by
          rcases Nat.lt_or_ge k j with z | z
          · exact HI.out.2 k h1 z
          · obtain rfl : k = j := by omega
            exact HIN.out⟩
        case measure => simp [intOf]; omega
      · have HIN := Lib.hid (by simpa using hin : inW (bs s j) = false)
        have HE := Lib.hid (wEnd_here HI.out.1 hj HI.out.2 (fun _ => HIN.out))
        clear hin
        go_wp2_with fail
        rw [bs_of hlt]
        refine (inword_any _ _).mono ?_
        rintro e w1 ⟨rfl, rfl⟩
        rw [HIN.out]
        go_wp2
        go_ret
        rw [HE.out]
        exact ⟨rfl, rfl⟩
    · obtain rfl : j = s.size := by omega
      have d : decide ((s.size : Int) < s.size) = false := by simp
      have HE := Lib.hid (wEnd_here HI.out.1 hj HI.out.2 (fun z => by omega))
      clear hlt
      go_wp2_with fail
      go_ret
      rw [HE.out]
      exact ⟨rfl, rfl⟩
/-- Is a text a word? -/
def okW (s : ByteArray) : Bool := decide (1 ≤ s.size ∧ s.size ≤ 24 ∧ wEnd s 0 = s.size)
theorem empty_of {s : ByteArray} (h : s.size = 0) : s = ByteArray.empty := by
  cases s with | mk d => simp [ByteArray.size] at h; subst h; rfl
theorem tl_ne {s : ByteArray} (h : ¬ s.size = 0) : s.toList.isEmpty = false := by
  rw [ByteArray.toList_eq]
  cases s with | mk d => cases d with | mk l => cases l with
    | nil => exact absurd rfl h
    | cons a l => rfl
set_option maxHeartbeats 1000000 in
theorem isword_any (s : ByteArray) (hs : s.size ≤ maxLen) (w : World) : Calls Try.prog 46 #[.string s] w fun e w' => e = .returned (.bool (okW s)) ∧ w = w' := by
  by_cases h1 : s.size = 0
  · have e := empty_of h1
    subst e
    go_enter Try.func46, Try.ntmps46
    go_wp2_with fail
    go_ret
    exact ⟨rfl, rfl⟩
  · have d1 := tl_ne h1
    by_cases h2 : s.size ≤ 24
    · have d2 : decide ((s.size : Int) ≤ 24) = true := by simp; omega
      have HS := Lib.hid hs
      have e : okW s = ((wEnd s 0 : Int) == (s.size : Int)) := by
        have a : 1 ≤ s.size := by omega
        have q : ((wEnd s 0 : Int) == (s.size : Int)) = decide (wEnd s 0 = s.size) := by
          by_cases z : wEnd s 0 = s.size <;> simp [z]
          omega
        rw [q]
        simp [okW, a, h2]
      have HE := Lib.hid e
      clear h1 hs h2 e
      go_enter Try.func46, Try.ntmps46
      go_wp2_with fail
      refine (wordend_any s 0 (by omega) HS.out _).mono ?_
      rintro e w1 ⟨rfl, rfl⟩
      go_wp2_with fail
      go_ret
      rw [HE.out]
      exact ⟨rfl, rfl⟩
    · have d2 : decide ((s.size : Int) ≤ 24) = false := by simp; omega
      have HE : Hid (okW s = false) := Lib.hid (by simp [okW]; omega)
      clear h1 hs h2
      go_enter Try.func46, Try.ntmps46
      go_wp2_with fail
      go_ret
      rw [HE.out]
      exact ⟨rfl, rfl⟩
set_option maxHeartbeats 1000000 in
theorem goodword_any (s : ByteArray) (hs : s.size ≤ maxLen) (w : World) : Calls Try.prog 39 #[.string s] w fun e w' => e = .returned (.bool (okW s)) ∧ w = w' := by
  by_cases h1 : s.size = 0
  · have e := empty_of h1
    subst e
    go_enter Try.func39, Try.ntmps39
    go_wp2_with fail
    go_ret
    exact ⟨rfl, rfl⟩
  · have d1 : decide ((s.size : Int) < 1) = false := by simp; omega
    by_cases h2 : s.size ≤ 24
    · have d2 : decide ((24 : Int) < s.size) = false := by simp; omega
      have HS := Lib.hid hs
      have HW := Lib.hid h1
      have H2 := Lib.hid h2
      clear h1 hs h2
      go_enter Try.func39, Try.ntmps39
      go_wp2_with fail
      go_loop [3] (fun k => ∃ j : Nat, j ≤ s.size ∧ k = .int .i64 j ∧ Hid (∀ k, 0 ≤ k → k < j → inW (bs s k) = true)) (fun k => s.size - (intOf k).toNat)
      case atStart => exact ⟨0, by omega, rfl, fun k h1 h2 => by omega⟩
      case round =>
        obtain ⟨j, hj, rfl, HI⟩ := hrel
        by_cases hlt : j < s.size
        · have d : decide ((j : Int) < s.size) = true := by simpa using hlt
          have hb : s.size ≤ 24 := H2.out
          by_cases hin : inW (bs s j) = true
          · have HIN := Lib.hid hin
            clear hin
            go_wp2_with fail
            rw [bs_of hlt]
            refine (letter_any _ _).mono ?_
            rintro e w1 ⟨rfl, rfl⟩
            rw [HIN.out]
            go_wp2
            go_round
            case rel => exact ⟨j + 1, by omega, by go_num, fun k h1 h2 => by
              rcases Nat.lt_or_ge k j with z | z
              · exact HI.out k h1 z
              · obtain rfl : k = j := by omega
                exact HIN.out⟩
            case measure => simp [intOf]; omega
          · have HIN := Lib.hid (by simpa using hin : inW (bs s j) = false)
            have HE := Lib.hid (show okW s = false by
              have := wEnd_here (i := 0) (by omega) hj HI.out (fun _ => HIN.out)
              simp [okW, this]; omega)
            clear hin
            go_wp2_with fail
            rw [bs_of hlt]
            refine (letter_any _ _).mono ?_
            rintro e w1 ⟨rfl, rfl⟩
            rw [HIN.out]
            go_wp2
            go_ret
            rw [HE.out]
            exact ⟨rfl, rfl⟩
        · obtain rfl : j = s.size := by omega
          have d : decide ((s.size : Int) < s.size) = false := by simp
          have HE := Lib.hid (show okW s = true by
              have := wEnd_here (i := 0) (by omega) hj HI.out (fun z => by omega)
              have a := HW.out
              have b := H2.out
              simp [okW, this]; omega)
          clear hlt
          go_wp2_with fail
          go_ret
          rw [HE.out]
          exact ⟨rfl, rfl⟩
    · have d2 : decide ((24 : Int) < s.size) = true := by simp; omega
      have HE : Hid (okW s = false) := Lib.hid (by simp [okW]; omega)
      clear h1 hs h2
      go_enter Try.func39, Try.ntmps39
      go_wp2_with fail
      go_ret
      rw [HE.out]
      exact ⟨rfl, rfl⟩
end Go.Proofs.Ytgkhkdohlbchoaa
