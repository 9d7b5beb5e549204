/-
  Asks: the letters of the reference, and the sort that the program tells.
-/
import Derived.Test.YtjjjgffpmghfgaaAskW
namespace Go.Proofs.Ytjjjgffpmghfgaa
open Go.RowKit

/-- The letter that a kid at a place must be. -/
def ltAt (s : ByteArray) (k : Nat) : Int := if k < s.size ∧ bs s k ≠ 42 then bs s k else bs s 0
def okK (s : ByteArray) (ks : List Int) (k : Nat) : Bool := ftC (ltAt s k) (nth ks k) && !((ltAt s k == 119) && (nth ks k != nth ks 0))
theorem lt_st {x : UInt8} {s : ByteArray} (hs : s = ⟨#[x, 42]⟩) (k : Nat) : ltAt s k = (x.toNat : Int) := by
  subst hs
  have h0 : bs ⟨#[x, 42]⟩ 0 = (x.toNat : Int) := by
    unfold bs
    rw [dif_pos (by show 0 < 2; omega)]
    rfl
  have h1 : bs ⟨#[x, 42]⟩ 1 = 42 := by
    unfold bs
    rw [dif_pos (by show 1 < 2; omega)]
    rfl
  have hz : (ByteArray.mk #[x, 42]).size = 2 := rfl
  unfold ltAt
  rw [hz]
  match k with
  | 0 => split <;> exact h0
  | 1 => rw [if_neg (fun z => z.2 h1)]; exact h0
  | k + 2 => rw [if_neg (by omega)]; exact h0
theorem len1 {L : List Int} (h : L.length = 1) : ∃ a, L = [a] := by
  match L, h with
  | [a], _ => exact ⟨a, rfl⟩
theorem len2 {L : List Int} (h : L.length = 2) : ∃ a b, L = [a, b] := by
  match L, h with
  | [a, b], _ => exact ⟨a, b, rfl⟩
theorem len3 {L : List Int} (h : L.length = 3) : ∃ a b c, L = [a, b, c] := by
  match L, h with
  | [a, b, c], _ => exact ⟨a, b, c, rfl⟩
theorem wpos (s : Int) : decide (0 < wBits s) = sWd s := by
  cases h : sWd s with
  | true => have := wb_pos h; simp at this; unfold sWd at h; unfold wBits; simp at h; rw [if_pos h]; simp; omega
  | false => rw [wb_nil h]; rfl
/-- The tail of the reference's sort. -/
def refT (op d : Int) (L : List Int) : Int :=
  if op = 7 then (if nth L 1 ≠ nth L 2 ∨ nth L 1 = 5 then 0 else nth L 1)
  else if op = 8 then (if (sNu (nth L 0) && sNu (nth L 1)) = false ∧ (nth L 0 ≠ nth L 1 ∨ (nth L 0 ≠ 4 ∧ wBits (nth L 0) = 0)) then 0 else 1)
  else if op = 10 ∨ op = 11 ∨ op = 12 then (if L.all sIn = true ∧ d ≤ 1 then 2 else 3)
  else if op = 15 then 10 + d
  else if (16 ≤ op ∧ op ≤ 21) ∨ op = 23 then nth L 0
  else if op = 24 then 4 else if op = 25 then 5 else 1
theorem ok_star {op x : Int} {y : UInt8} (h : wtB op = ⟨#[y, 42]⟩) (hx : (y.toNat : Int) = x) (hn : x ≠ 119) (L : List Int) (k : Nat) : okK (wtB op) L k = ftC x (nth L k) := by
  unfold okK
  rw [lt_st h, hx]
  simp [hn]
set_option maxHeartbeats 2000000 in
theorem srt_bad {op d ds : Int} {L : List Int} (h1 : 1 ≤ op) (h2 : op ≤ 25) (h9 : op ≠ 9) (hn : kcN op = -1 ∨ kcN op = (L.length : Int)) {m : Nat} (hm : m < L.length) (h : okK (wtB op) L m = false) : srt op d ds L = 0 := by
  rcases op_cases h1 h2 with rfl | rfl | rfl | rfl | rfl | rfl | rfl | rfl | rfl | rfl | rfl | rfl | rfl | rfl | rfl | rfl | rfl | rfl | rfl | rfl | rfl | rfl | rfl | rfl | rfl
  · exfalso; rw [show kcN 1 = 0 by decide] at hn; omega
  · exfalso; rw [show kcN 2 = 0 by decide] at hn; omega
  · obtain ⟨a, rfl⟩ := len1 (L := L) (by rw [show kcN 3 = 1 by decide] at hn; omega)
    have o0 : okK (wtB 3) [a] 0 = sBo a := by
      unfold okK
      rw [show ltAt (wtB 3) 0 = 98 by decide]
      simp [ftC, nth]
    simp only [List.length_cons, List.length_nil] at hm
    have hmm : m = 0 := by omega
    rcases hmm with rfl
    · rw [o0] at h
      simp [srt, h, whn]
  · rw [ok_star (y := 98) (x := 98) (by decide) (by decide) (by decide)] at h
    have h' : sBo (nth L m) = false := by simpa [ftC] using h
    rw [show srt 4 d ds L = whn (L.all sBo) 1 by simp [srt], not_all hm h']
    rfl
  · rw [ok_star (y := 98) (x := 98) (by decide) (by decide) (by decide)] at h
    have h' : sBo (nth L m) = false := by simpa [ftC] using h
    rw [show srt 5 d ds L = whn (L.all sBo) 1 by simp [srt], not_all hm h']
    rfl
  · obtain ⟨a, b, rfl⟩ := len2 (L := L) (by rw [show kcN 6 = 2 by decide] at hn; omega)
    have o0 : okK (wtB 6) [a, b] 0 = sBo a := by
      unfold okK
      rw [show ltAt (wtB 6) 0 = 98 by decide]
      simp [ftC, nth]
    have o1 : okK (wtB 6) [a, b] 1 = sBo b := by
      unfold okK
      rw [show ltAt (wtB 6) 1 = 98 by decide]
      simp [ftC, nth]
    simp only [List.length_cons, List.length_nil] at hm
    have hmm : m = 0 ∨ m = 1 := by omega
    rcases hmm with rfl | rfl
    · rw [o0] at h
      simp [srt, h, whn]
    · rw [o1] at h
      simp [srt, h, whn]
  · obtain ⟨a, b, c, rfl⟩ := len3 (L := L) (by rw [show kcN 7 = 3 by decide] at hn; omega)
    have o0 : okK (wtB 7) [a, b, c] 0 = sBo a := by
      unfold okK
      rw [show ltAt (wtB 7) 0 = 98 by decide]
      simp [ftC, nth]
    have o1 : okK (wtB 7) [a, b, c] 1 = true := by
      unfold okK
      rw [show ltAt (wtB 7) 1 = 120 by decide]
      simp [ftC, nth]
    have o2 : okK (wtB 7) [a, b, c] 2 = true := by
      unfold okK
      rw [show ltAt (wtB 7) 2 = 121 by decide]
      simp [ftC, nth]
    simp only [List.length_cons, List.length_nil] at hm
    have hmm : m = 0 ∨ m = 1 ∨ m = 2 := by omega
    rcases hmm with rfl | rfl | rfl
    · rw [o0] at h
      simp [srt, whn, nth, h]
    · rw [o1] at h
      cases h
    · rw [o2] at h
      cases h
  · obtain ⟨a, b, rfl⟩ := len2 (L := L) (by rw [show kcN 8 = 2 by decide] at hn; omega)
    have o0 : okK (wtB 8) [a, b] 0 = true := by
      unfold okK
      rw [show ltAt (wtB 8) 0 = 63 by decide]
      simp [ftC, nth]
    have o1 : okK (wtB 8) [a, b] 1 = true := by
      unfold okK
      rw [show ltAt (wtB 8) 1 = 63 by decide]
      simp [ftC, nth]
    simp only [List.length_cons, List.length_nil] at hm
    have hmm : m = 0 ∨ m = 1 := by omega
    rcases hmm with rfl | rfl
    · rw [o0] at h
      cases h
    · rw [o1] at h
      cases h
  · exact absurd rfl h9
  · exfalso; rw [show kcN 10 = 0 by decide] at hn; omega
  · rw [ok_star (y := 110) (x := 110) (by decide) (by decide) (by decide)] at h
    have h' : sNu (nth L m) = false := by simpa [ftC] using h
    rw [show srt 11 d ds L = whn (L.all sNu) (numS 11 d L) by simp [srt], not_all hm h']
    rfl
  · obtain ⟨a, rfl⟩ := len1 (L := L) (by rw [show kcN 12 = 1 by decide] at hn; omega)
    have o0 : okK (wtB 12) [a] 0 = sNu a := by
      unfold okK
      rw [show ltAt (wtB 12) 0 = 110 by decide]
      simp [ftC, nth]
    simp only [List.length_cons, List.length_nil] at hm
    have hmm : m = 0 := by omega
    rcases hmm with rfl
    · rw [o0] at h
      simp [srt, h, whn]
  · obtain ⟨a, b, rfl⟩ := len2 (L := L) (by rw [show kcN 13 = 2 by decide] at hn; omega)
    have o0 : okK (wtB 13) [a, b] 0 = sNu a := by
      unfold okK
      rw [show ltAt (wtB 13) 0 = 110 by decide]
      simp [ftC, nth]
    have o1 : okK (wtB 13) [a, b] 1 = sNu b := by
      unfold okK
      rw [show ltAt (wtB 13) 1 = 110 by decide]
      simp [ftC, nth]
    simp only [List.length_cons, List.length_nil] at hm
    have hmm : m = 0 ∨ m = 1 := by omega
    rcases hmm with rfl | rfl
    · rw [o0] at h
      simp [srt, h, whn]
    · rw [o1] at h
      simp [srt, h, whn]
  · obtain ⟨a, b, rfl⟩ := len2 (L := L) (by rw [show kcN 14 = 2 by decide] at hn; omega)
    have o0 : okK (wtB 14) [a, b] 0 = sNu a := by
      unfold okK
      rw [show ltAt (wtB 14) 0 = 110 by decide]
      simp [ftC, nth]
    have o1 : okK (wtB 14) [a, b] 1 = sNu b := by
      unfold okK
      rw [show ltAt (wtB 14) 1 = 110 by decide]
      simp [ftC, nth]
    simp only [List.length_cons, List.length_nil] at hm
    have hmm : m = 0 ∨ m = 1 := by omega
    rcases hmm with rfl | rfl
    · rw [o0] at h
      simp [srt, h, whn]
    · rw [o1] at h
      simp [srt, h, whn]
  · exfalso; rw [show kcN 15 = 0 by decide] at hn; omega
  · obtain ⟨a, rfl⟩ := len1 (L := L) (by rw [show kcN 16 = 1 by decide] at hn; omega)
    have o0 : okK (wtB 16) [a] 0 = (sWd a && !(a != a)) := by
      unfold okK
      rw [show ltAt (wtB 16) 0 = 119 by decide]
      simp [ftC, nth, wpos]
    simp only [List.length_cons, List.length_nil] at hm
    have hmm : m = 0 := by omega
    rcases hmm with rfl
    · rw [o0] at h
      simp [srt, whn, sSw, nth]; simp at h ⊢; first | (intro q; simp_all; done) | (intro q; intro z; simp_all; done) | simp_all
  · obtain ⟨a, b, rfl⟩ := len2 (L := L) (by rw [show kcN 17 = 2 by decide] at hn; omega)
    have o0 : okK (wtB 17) [a, b] 0 = (sWd a && !(a != a)) := by
      unfold okK
      rw [show ltAt (wtB 17) 0 = 119 by decide]
      simp [ftC, nth, wpos]
    have o1 : okK (wtB 17) [a, b] 1 = (sWd b && !(b != a)) := by
      unfold okK
      rw [show ltAt (wtB 17) 1 = 119 by decide]
      simp [ftC, nth, wpos]
    simp only [List.length_cons, List.length_nil] at hm
    have hmm : m = 0 ∨ m = 1 := by omega
    rcases hmm with rfl | rfl
    · rw [o0] at h
      simp [srt, whn, sSw, nth]; simp at h ⊢; first | (intro q; simp_all; done) | (intro q; intro z; simp_all; done) | simp_all
    · rw [o1] at h
      simp [srt, whn, sSw, nth]; simp at h ⊢; first | (intro q; simp_all; done) | (intro q; intro z; simp_all; done) | simp_all
  · obtain ⟨a, b, rfl⟩ := len2 (L := L) (by rw [show kcN 18 = 2 by decide] at hn; omega)
    have o0 : okK (wtB 18) [a, b] 0 = (sWd a && !(a != a)) := by
      unfold okK
      rw [show ltAt (wtB 18) 0 = 119 by decide]
      simp [ftC, nth, wpos]
    have o1 : okK (wtB 18) [a, b] 1 = (sWd b && !(b != a)) := by
      unfold okK
      rw [show ltAt (wtB 18) 1 = 119 by decide]
      simp [ftC, nth, wpos]
    simp only [List.length_cons, List.length_nil] at hm
    have hmm : m = 0 ∨ m = 1 := by omega
    rcases hmm with rfl | rfl
    · rw [o0] at h
      simp [srt, whn, sSw, nth]; simp at h ⊢; first | (intro q; simp_all; done) | (intro q; intro z; simp_all; done) | simp_all
    · rw [o1] at h
      simp [srt, whn, sSw, nth]; simp at h ⊢; first | (intro q; simp_all; done) | (intro q; intro z; simp_all; done) | simp_all
  · obtain ⟨a, b, rfl⟩ := len2 (L := L) (by rw [show kcN 19 = 2 by decide] at hn; omega)
    have o0 : okK (wtB 19) [a, b] 0 = (sWd a && !(a != a)) := by
      unfold okK
      rw [show ltAt (wtB 19) 0 = 119 by decide]
      simp [ftC, nth, wpos]
    have o1 : okK (wtB 19) [a, b] 1 = (sWd b && !(b != a)) := by
      unfold okK
      rw [show ltAt (wtB 19) 1 = 119 by decide]
      simp [ftC, nth, wpos]
    simp only [List.length_cons, List.length_nil] at hm
    have hmm : m = 0 ∨ m = 1 := by omega
    rcases hmm with rfl | rfl
    · rw [o0] at h
      simp [srt, whn, sSw, nth]; simp at h ⊢; first | (intro q; simp_all; done) | (intro q; intro z; simp_all; done) | simp_all
    · rw [o1] at h
      simp [srt, whn, sSw, nth]; simp at h ⊢; first | (intro q; simp_all; done) | (intro q; intro z; simp_all; done) | simp_all
  · obtain ⟨a, b, rfl⟩ := len2 (L := L) (by rw [show kcN 20 = 2 by decide] at hn; omega)
    have o0 : okK (wtB 20) [a, b] 0 = (sWd a && !(a != a)) := by
      unfold okK
      rw [show ltAt (wtB 20) 0 = 119 by decide]
      simp [ftC, nth, wpos]
    have o1 : okK (wtB 20) [a, b] 1 = (sWd b && !(b != a)) := by
      unfold okK
      rw [show ltAt (wtB 20) 1 = 119 by decide]
      simp [ftC, nth, wpos]
    simp only [List.length_cons, List.length_nil] at hm
    have hmm : m = 0 ∨ m = 1 := by omega
    rcases hmm with rfl | rfl
    · rw [o0] at h
      simp [srt, whn, sSw, nth]; simp at h ⊢; first | (intro q; simp_all; done) | (intro q; intro z; simp_all; done) | simp_all
    · rw [o1] at h
      simp [srt, whn, sSw, nth]; simp at h ⊢; first | (intro q; simp_all; done) | (intro q; intro z; simp_all; done) | simp_all
  · obtain ⟨a, b, rfl⟩ := len2 (L := L) (by rw [show kcN 21 = 2 by decide] at hn; omega)
    have o0 : okK (wtB 21) [a, b] 0 = (sWd a && !(a != a)) := by
      unfold okK
      rw [show ltAt (wtB 21) 0 = 119 by decide]
      simp [ftC, nth, wpos]
    have o1 : okK (wtB 21) [a, b] 1 = (sWd b && !(b != a)) := by
      unfold okK
      rw [show ltAt (wtB 21) 1 = 119 by decide]
      simp [ftC, nth, wpos]
    simp only [List.length_cons, List.length_nil] at hm
    have hmm : m = 0 ∨ m = 1 := by omega
    rcases hmm with rfl | rfl
    · rw [o0] at h
      simp [srt, whn, sSw, nth]; simp at h ⊢; first | (intro q; simp_all; done) | (intro q; intro z; simp_all; done) | simp_all
    · rw [o1] at h
      simp [srt, whn, sSw, nth]; simp at h ⊢; first | (intro q; simp_all; done) | (intro q; intro z; simp_all; done) | simp_all
  · obtain ⟨a, b, rfl⟩ := len2 (L := L) (by rw [show kcN 22 = 2 by decide] at hn; omega)
    have o0 : okK (wtB 22) [a, b] 0 = (sWd a && !(a != a)) := by
      unfold okK
      rw [show ltAt (wtB 22) 0 = 119 by decide]
      simp [ftC, nth, wpos]
    have o1 : okK (wtB 22) [a, b] 1 = (sWd b && !(b != a)) := by
      unfold okK
      rw [show ltAt (wtB 22) 1 = 119 by decide]
      simp [ftC, nth, wpos]
    simp only [List.length_cons, List.length_nil] at hm
    have hmm : m = 0 ∨ m = 1 := by omega
    rcases hmm with rfl | rfl
    · rw [o0] at h
      simp [srt, whn, sSw, nth]; simp at h ⊢; first | (intro q; simp_all; done) | (intro q; intro z; simp_all; done) | simp_all
    · rw [o1] at h
      simp [srt, whn, sSw, nth]; simp at h ⊢; first | (intro q; simp_all; done) | (intro q; intro z; simp_all; done) | simp_all
  · obtain ⟨a, rfl⟩ := len1 (L := L) (by rw [show kcN 23 = 1 by decide] at hn; omega)
    have o0 : okK (wtB 23) [a] 0 = (sWd a && !(a != a)) := by
      unfold okK
      rw [show ltAt (wtB 23) 0 = 119 by decide]
      simp [ftC, nth, wpos]
    simp only [List.length_cons, List.length_nil] at hm
    have hmm : m = 0 := by omega
    rcases hmm with rfl
    · rw [o0] at h
      simp [srt, whn, sSw, nth]; simp at h ⊢; first | (intro q; simp_all; done) | (intro q; intro z; simp_all; done) | simp_all
  · obtain ⟨a, b, rfl⟩ := len2 (L := L) (by rw [show kcN 24 = 2 by decide] at hn; omega)
    have o0 : okK (wtB 24) [a, b] 0 = (a == 5) := by
      unfold okK
      rw [show ltAt (wtB 24) 0 = 97 by decide]
      simp [ftC, nth]
    have o1 : okK (wtB 24) [a, b] 1 = sTh b := by
      unfold okK
      rw [show ltAt (wtB 24) 1 = 116 by decide]
      simp [ftC, nth]
    simp only [List.length_cons, List.length_nil] at hm
    have hmm : m = 0 ∨ m = 1 := by omega
    rcases hmm with rfl | rfl
    · rw [o0] at h
      simp [srt, whn, nth]; first | (simp at h; simp [h]; done) | simp [h]
    · rw [o1] at h
      simp [srt, whn, nth]; first | (simp at h; simp [h]; done) | simp [h]
  · obtain ⟨a, b, c, rfl⟩ := len3 (L := L) (by rw [show kcN 25 = 3 by decide] at hn; omega)
    have o0 : okK (wtB 25) [a, b, c] 0 = (a == 5) := by
      unfold okK
      rw [show ltAt (wtB 25) 0 = 97 by decide]
      simp [ftC, nth]
    have o1 : okK (wtB 25) [a, b, c] 1 = sTh b := by
      unfold okK
      rw [show ltAt (wtB 25) 1 = 116 by decide]
      simp [ftC, nth]
    have o2 : okK (wtB 25) [a, b, c] 2 = sTh c := by
      unfold okK
      rw [show ltAt (wtB 25) 2 = 116 by decide]
      simp [ftC, nth]
    simp only [List.length_cons, List.length_nil] at hm
    have hmm : m = 0 ∨ m = 1 ∨ m = 2 := by omega
    rcases hmm with rfl | rfl | rfl
    · rw [o0] at h
      simp [srt, whn, nth]; first | (simp at h; simp [h]; done) | simp [h]
    · rw [o1] at h
      simp [srt, whn, nth]; first | (simp at h; simp [h]; done) | simp [h]
    · rw [o2] at h
      simp [srt, whn, nth]; first | (simp at h; simp [h]; done) | simp [h]
theorem snu_iff (a : Int) : sNu a = true ↔ a = 2 ∨ a = 3 := by unfold sNu; simp
theorem snu_not (a : Int) : sNu a = false ↔ ¬ (a = 2 ∨ a = 3) := by unfold sNu; simp
theorem sth_iff (a : Int) : sTh a = true ↔ a = 4 := by unfold sTh; simp
theorem swd_iff (a : Int) : sWd a = true ↔ 10 < a ∧ a ≤ 18 := by unfold sWd; simp
theorem wb_iff (a : Int) : wBits a = 0 ↔ ¬ (10 < a ∧ a ≤ 18) := by unfold wBits; split <;> omega
theorem same8 (a b : Int) : (if (sNu a = true ∧ sNu b = true ∨ sTh a = true ∧ sTh b = true) ∨ sWd a = true ∧ b = a then (1 : Int) else 0) = if (sNu a = true → sNu b = false) ∧ (¬a = b ∨ ¬a = 4 ∧ wBits a = 0) then 0 else 1 := by
  simp only [snu_iff, snu_not, sth_iff, swd_iff, wb_iff]
  split <;> split <;> first | rfl | (exfalso; omega)
set_option maxHeartbeats 2000000 in
theorem srt_good {op d ds : Int} {L : List Int} (h1 : 1 ≤ op) (h2 : op ≤ 25) (h9 : op ≠ 9) (hn : kcN op = -1 ∨ kcN op = (L.length : Int)) (hd : op = 10 ∨ op = 12 → 1 ≤ d) (hd2 : op = 11 → d = 0) (h : ∀ m, m < L.length → okK (wtB op) L m = true) : srt op d ds L = refT op d L := by
  rcases op_cases h1 h2 with rfl | rfl | rfl | rfl | rfl | rfl | rfl | rfl | rfl | rfl | rfl | rfl | rfl | rfl | rfl | rfl | rfl | rfl | rfl | rfl | rfl | rfl | rfl | rfl | rfl
  · have hl : L = [] := List.eq_nil_of_length_eq_zero (by rw [show kcN 1 = 0 by decide] at hn; omega)
    subst hl
    rfl
  · have hl : L = [] := List.eq_nil_of_length_eq_zero (by rw [show kcN 2 = 0 by decide] at hn; omega)
    subst hl
    rfl
  · obtain ⟨a, rfl⟩ := len1 (L := L) (by rw [show kcN 3 = 1 by decide] at hn; omega)
    have o0 : okK (wtB 3) [a] 0 = sBo a := by
      unfold okK
      rw [show ltAt (wtB 3) 0 = 98 by decide]
      simp [ftC, nth]
    have p0 := h 0 (by simp)
    rw [o0] at p0
    simp [srt, refT, whn, p0]
  · have ha : L.all sBo = true := all_of fun m hm => by
      have := h m hm
      rw [ok_star (y := 98) (x := 98) (by decide) (by decide) (by decide)] at this
      simpa [ftC] using this
    rw [show srt 4 d ds L = whn (L.all sBo) 1 by simp [srt], ha]
    rfl
  · have ha : L.all sBo = true := all_of fun m hm => by
      have := h m hm
      rw [ok_star (y := 98) (x := 98) (by decide) (by decide) (by decide)] at this
      simpa [ftC] using this
    rw [show srt 5 d ds L = whn (L.all sBo) 1 by simp [srt], ha]
    rfl
  · obtain ⟨a, b, rfl⟩ := len2 (L := L) (by rw [show kcN 6 = 2 by decide] at hn; omega)
    have o0 : okK (wtB 6) [a, b] 0 = sBo a := by
      unfold okK
      rw [show ltAt (wtB 6) 0 = 98 by decide]
      simp [ftC, nth]
    have o1 : okK (wtB 6) [a, b] 1 = sBo b := by
      unfold okK
      rw [show ltAt (wtB 6) 1 = 98 by decide]
      simp [ftC, nth]
    have p0 := h 0 (by simp)
    rw [o0] at p0
    have p1 := h 1 (by simp)
    rw [o1] at p1
    simp [srt, refT, whn, p0, p1]
  · obtain ⟨a, b, c, rfl⟩ := len3 (L := L) (by rw [show kcN 7 = 3 by decide] at hn; omega)
    have o0 : okK (wtB 7) [a, b, c] 0 = sBo a := by
      unfold okK
      rw [show ltAt (wtB 7) 0 = 98 by decide]
      simp [ftC, nth]
    have o1 : okK (wtB 7) [a, b, c] 1 = true := by
      unfold okK
      rw [show ltAt (wtB 7) 1 = 120 by decide]
      simp [ftC, nth]
    have o2 : okK (wtB 7) [a, b, c] 2 = true := by
      unfold okK
      rw [show ltAt (wtB 7) 2 = 121 by decide]
      simp [ftC, nth]
    have p0 := h 0 (by simp)
    rw [o0] at p0
    have p1 := h 1 (by simp)
    rw [o1] at p1
    have p2 := h 2 (by simp)
    rw [o2] at p2
    simp [srt, refT, whn, nth, p0]; by_cases q1 : b = c <;> by_cases q2 : b = 5 <;> simp [q1, q2] <;> simp_all
  · obtain ⟨a, b, rfl⟩ := len2 (L := L) (by rw [show kcN 8 = 2 by decide] at hn; omega)
    have o0 : okK (wtB 8) [a, b] 0 = true := by
      unfold okK
      rw [show ltAt (wtB 8) 0 = 63 by decide]
      simp [ftC, nth]
    have o1 : okK (wtB 8) [a, b] 1 = true := by
      unfold okK
      rw [show ltAt (wtB 8) 1 = 63 by decide]
      simp [ftC, nth]
    have p0 := h 0 (by simp)
    rw [o0] at p0
    have p1 := h 1 (by simp)
    rw [o1] at p1
    simp only [srt, refT, whn, nth, sSw]; simp; exact same8 a b
  · exact absurd rfl h9
  · have hl : L = [] := List.eq_nil_of_length_eq_zero (by rw [show kcN 10 = 0 by decide] at hn; omega)
    subst hl
    have := hd (.inl rfl)
    simp [srt, refT, whn, numS]; split <;> split <;> first | rfl | omega
  · have ha : L.all sNu = true := all_of fun m hm => by
      have := h m hm
      rw [ok_star (y := 110) (x := 110) (by decide) (by decide) (by decide)] at this
      simpa [ftC] using this
    rw [show srt 11 d ds L = whn (L.all sNu) (numS 11 d L) by simp [srt], ha]
    have hd0 := hd2 rfl; subst hd0; unfold refT whn numS; cases hq : L.all sIn <;> simp
  · obtain ⟨a, rfl⟩ := len1 (L := L) (by rw [show kcN 12 = 1 by decide] at hn; omega)
    have o0 : okK (wtB 12) [a] 0 = sNu a := by
      unfold okK
      rw [show ltAt (wtB 12) 0 = 110 by decide]
      simp [ftC, nth]
    have p0 := h 0 (by simp)
    rw [o0] at p0
    have hd0 := hd (.inr rfl); simp [srt, refT, whn, numS, p0]; by_cases q : d = 1 <;> cases r : sIn a <;> simp [q] <;> omega
  · obtain ⟨a, b, rfl⟩ := len2 (L := L) (by rw [show kcN 13 = 2 by decide] at hn; omega)
    have o0 : okK (wtB 13) [a, b] 0 = sNu a := by
      unfold okK
      rw [show ltAt (wtB 13) 0 = 110 by decide]
      simp [ftC, nth]
    have o1 : okK (wtB 13) [a, b] 1 = sNu b := by
      unfold okK
      rw [show ltAt (wtB 13) 1 = 110 by decide]
      simp [ftC, nth]
    have p0 := h 0 (by simp)
    rw [o0] at p0
    have p1 := h 1 (by simp)
    rw [o1] at p1
    simp [srt, refT, whn, p0, p1]
  · obtain ⟨a, b, rfl⟩ := len2 (L := L) (by rw [show kcN 14 = 2 by decide] at hn; omega)
    have o0 : okK (wtB 14) [a, b] 0 = sNu a := by
      unfold okK
      rw [show ltAt (wtB 14) 0 = 110 by decide]
      simp [ftC, nth]
    have o1 : okK (wtB 14) [a, b] 1 = sNu b := by
      unfold okK
      rw [show ltAt (wtB 14) 1 = 110 by decide]
      simp [ftC, nth]
    have p0 := h 0 (by simp)
    rw [o0] at p0
    have p1 := h 1 (by simp)
    rw [o1] at p1
    simp [srt, refT, whn, p0, p1]
  · have hl : L = [] := List.eq_nil_of_length_eq_zero (by rw [show kcN 15 = 0 by decide] at hn; omega)
    subst hl
    simp [srt, refT]
  · obtain ⟨a, rfl⟩ := len1 (L := L) (by rw [show kcN 16 = 1 by decide] at hn; omega)
    have o0 : okK (wtB 16) [a] 0 = (sWd a && !(a != a)) := by
      unfold okK
      rw [show ltAt (wtB 16) 0 = 119 by decide]
      simp [ftC, nth, wpos]
    have p0 := h 0 (by simp)
    rw [o0] at p0
    simp at p0; simp [srt, refT, whn, sSw, nth, p0]
  · obtain ⟨a, b, rfl⟩ := len2 (L := L) (by rw [show kcN 17 = 2 by decide] at hn; omega)
    have o0 : okK (wtB 17) [a, b] 0 = (sWd a && !(a != a)) := by
      unfold okK
      rw [show ltAt (wtB 17) 0 = 119 by decide]
      simp [ftC, nth, wpos]
    have o1 : okK (wtB 17) [a, b] 1 = (sWd b && !(b != a)) := by
      unfold okK
      rw [show ltAt (wtB 17) 1 = 119 by decide]
      simp [ftC, nth, wpos]
    have p0 := h 0 (by simp)
    rw [o0] at p0
    have p1 := h 1 (by simp)
    rw [o1] at p1
    simp at p0 p1; simp [srt, refT, whn, sSw, nth, p0, p1]
  · obtain ⟨a, b, rfl⟩ := len2 (L := L) (by rw [show kcN 18 = 2 by decide] at hn; omega)
    have o0 : okK (wtB 18) [a, b] 0 = (sWd a && !(a != a)) := by
      unfold okK
      rw [show ltAt (wtB 18) 0 = 119 by decide]
      simp [ftC, nth, wpos]
    have o1 : okK (wtB 18) [a, b] 1 = (sWd b && !(b != a)) := by
      unfold okK
      rw [show ltAt (wtB 18) 1 = 119 by decide]
      simp [ftC, nth, wpos]
    have p0 := h 0 (by simp)
    rw [o0] at p0
    have p1 := h 1 (by simp)
    rw [o1] at p1
    simp at p0 p1; simp [srt, refT, whn, sSw, nth, p0, p1]
  · obtain ⟨a, b, rfl⟩ := len2 (L := L) (by rw [show kcN 19 = 2 by decide] at hn; omega)
    have o0 : okK (wtB 19) [a, b] 0 = (sWd a && !(a != a)) := by
      unfold okK
      rw [show ltAt (wtB 19) 0 = 119 by decide]
      simp [ftC, nth, wpos]
    have o1 : okK (wtB 19) [a, b] 1 = (sWd b && !(b != a)) := by
      unfold okK
      rw [show ltAt (wtB 19) 1 = 119 by decide]
      simp [ftC, nth, wpos]
    have p0 := h 0 (by simp)
    rw [o0] at p0
    have p1 := h 1 (by simp)
    rw [o1] at p1
    simp at p0 p1; simp [srt, refT, whn, sSw, nth, p0, p1]
  · obtain ⟨a, b, rfl⟩ := len2 (L := L) (by rw [show kcN 20 = 2 by decide] at hn; omega)
    have o0 : okK (wtB 20) [a, b] 0 = (sWd a && !(a != a)) := by
      unfold okK
      rw [show ltAt (wtB 20) 0 = 119 by decide]
      simp [ftC, nth, wpos]
    have o1 : okK (wtB 20) [a, b] 1 = (sWd b && !(b != a)) := by
      unfold okK
      rw [show ltAt (wtB 20) 1 = 119 by decide]
      simp [ftC, nth, wpos]
    have p0 := h 0 (by simp)
    rw [o0] at p0
    have p1 := h 1 (by simp)
    rw [o1] at p1
    simp at p0 p1; simp [srt, refT, whn, sSw, nth, p0, p1]
  · obtain ⟨a, b, rfl⟩ := len2 (L := L) (by rw [show kcN 21 = 2 by decide] at hn; omega)
    have o0 : okK (wtB 21) [a, b] 0 = (sWd a && !(a != a)) := by
      unfold okK
      rw [show ltAt (wtB 21) 0 = 119 by decide]
      simp [ftC, nth, wpos]
    have o1 : okK (wtB 21) [a, b] 1 = (sWd b && !(b != a)) := by
      unfold okK
      rw [show ltAt (wtB 21) 1 = 119 by decide]
      simp [ftC, nth, wpos]
    have p0 := h 0 (by simp)
    rw [o0] at p0
    have p1 := h 1 (by simp)
    rw [o1] at p1
    simp at p0 p1; simp [srt, refT, whn, sSw, nth, p0, p1]
  · obtain ⟨a, b, rfl⟩ := len2 (L := L) (by rw [show kcN 22 = 2 by decide] at hn; omega)
    have o0 : okK (wtB 22) [a, b] 0 = (sWd a && !(a != a)) := by
      unfold okK
      rw [show ltAt (wtB 22) 0 = 119 by decide]
      simp [ftC, nth, wpos]
    have o1 : okK (wtB 22) [a, b] 1 = (sWd b && !(b != a)) := by
      unfold okK
      rw [show ltAt (wtB 22) 1 = 119 by decide]
      simp [ftC, nth, wpos]
    have p0 := h 0 (by simp)
    rw [o0] at p0
    have p1 := h 1 (by simp)
    rw [o1] at p1
    simp at p0 p1; simp [srt, refT, whn, sSw, nth, p0, p1]
  · obtain ⟨a, rfl⟩ := len1 (L := L) (by rw [show kcN 23 = 1 by decide] at hn; omega)
    have o0 : okK (wtB 23) [a] 0 = (sWd a && !(a != a)) := by
      unfold okK
      rw [show ltAt (wtB 23) 0 = 119 by decide]
      simp [ftC, nth, wpos]
    have p0 := h 0 (by simp)
    rw [o0] at p0
    simp at p0; simp [srt, refT, whn, sSw, nth, p0]
  · obtain ⟨a, b, rfl⟩ := len2 (L := L) (by rw [show kcN 24 = 2 by decide] at hn; omega)
    have o0 : okK (wtB 24) [a, b] 0 = (a == 5) := by
      unfold okK
      rw [show ltAt (wtB 24) 0 = 97 by decide]
      simp [ftC, nth]
    have o1 : okK (wtB 24) [a, b] 1 = sTh b := by
      unfold okK
      rw [show ltAt (wtB 24) 1 = 116 by decide]
      simp [ftC, nth]
    have p0 := h 0 (by simp)
    rw [o0] at p0
    have p1 := h 1 (by simp)
    rw [o1] at p1
    simp at p0; simp [srt, refT, whn, nth, p0, p1]
  · obtain ⟨a, b, c, rfl⟩ := len3 (L := L) (by rw [show kcN 25 = 3 by decide] at hn; omega)
    have o0 : okK (wtB 25) [a, b, c] 0 = (a == 5) := by
      unfold okK
      rw [show ltAt (wtB 25) 0 = 97 by decide]
      simp [ftC, nth]
    have o1 : okK (wtB 25) [a, b, c] 1 = sTh b := by
      unfold okK
      rw [show ltAt (wtB 25) 1 = 116 by decide]
      simp [ftC, nth]
    have o2 : okK (wtB 25) [a, b, c] 2 = sTh c := by
      unfold okK
      rw [show ltAt (wtB 25) 2 = 116 by decide]
      simp [ftC, nth]
    have p0 := h 0 (by simp)
    rw [o0] at p0
    have p1 := h 1 (by simp)
    rw [o1] at p1
    have p2 := h 2 (by simp)
    rw [o2] at p2
    simp at p0; simp [srt, refT, whn, nth, p0, p1, p2]
end Go.Proofs.Ytjjjgffpmghfgaa
