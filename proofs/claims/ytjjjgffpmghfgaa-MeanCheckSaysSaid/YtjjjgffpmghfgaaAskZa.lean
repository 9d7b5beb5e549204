/-
  Asks: the tail of the reference, case by case.
-/
import Derived.Test.YtjjjgffpmghfgaaAskZ
namespace Go.Proofs.Ytjjjgffpmghfgaa
open Go.RowKit

theorem r7a {d : Int} {L : List Int} (h : (nth L 1 != nth L 2) = true) : refT 7 d L = 0 := by
  have : nth L 1 ≠ nth L 2 := by simpa using h
  unfold refT
  rw [if_pos rfl, if_pos (.inl this)]
theorem r7b {d : Int} {L : List Int} (h : (nth L 1 == 5) = true) : refT 7 d L = 0 := by
  have : nth L 1 = 5 := by simpa using h
  unfold refT
  rw [if_pos rfl, if_pos (.inr this)]
theorem r7c {d : Int} {L : List Int} (h : (nth L 1 != nth L 2) = false) (h2 : (nth L 1 == 5) = false) : refT 7 d L = nth L 1 := by
  have h1 : nth L 1 = nth L 2 := by simpa using h
  have h3 : ¬ nth L 1 = 5 := by simpa using h2
  unfold refT
  rw [if_pos rfl, if_neg (by rintro (z | z); exact z h1; exact h3 z)]
theorem r8 {d : Int} {L : List Int} : refT 8 d L = if (sNu (nth L 0) && sNu (nth L 1)) = false ∧ (nth L 0 ≠ nth L 1 ∨ (nth L 0 ≠ 4 ∧ wBits (nth L 0) = 0)) then 0 else 1 := by
  unfold refT
  rw [if_neg (by decide), if_pos rfl]
theorem r8a {d : Int} {L : List Int} (h : (sNu (nth L 0) && sNu (nth L 1)) = false) (q : (nth L 0 != nth L 1) = true) : refT 8 d L = 0 := by
  have : nth L 0 ≠ nth L 1 := by simpa using q
  rw [r8, if_pos ⟨h, .inl this⟩]
theorem r8b {d : Int} {L : List Int} (q : (nth L 0 != nth L 1) = false) (q2 : (nth L 0 != 4) = false) : refT 8 d L = 1 := by
  have h1 : nth L 0 = nth L 1 := by simpa using q
  have h2 : nth L 0 = 4 := by simpa using q2
  rw [r8, if_neg (by rintro ⟨_, z | z⟩; exact z h1; exact z.1 h2)]
theorem r8c {d : Int} {L : List Int} (h : (sNu (nth L 0) && sNu (nth L 1)) = false) (q2 : (nth L 0 != 4) = true) (q3 : wBits (nth L 0) = 0) : refT 8 d L = 0 := by
  have h2 : ¬ nth L 0 = 4 := by simpa using q2
  rw [r8, if_pos ⟨h, .inr ⟨h2, q3⟩⟩]
theorem r8d {d : Int} {L : List Int} (q : (nth L 0 != nth L 1) = false) (q3 : ¬ wBits (nth L 0) = 0) : refT 8 d L = 1 := by
  have h1 : nth L 0 = nth L 1 := by simpa using q
  rw [r8, if_neg (by rintro ⟨_, z | z⟩; exact z h1; exact q3 z.2)]
theorem r8e {d : Int} {L : List Int} (h : (sNu (nth L 0) && sNu (nth L 1)) = true) : refT 8 d L = 1 := by
  rw [r8, if_neg (by rintro ⟨z, _⟩; rw [h] at z; cases z)]
theorem rA {op d : Int} {L : List Int} (ho : op = 10 ∨ op = 11 ∨ op = 12) (h : L.all sIn = false ∨ ¬ d ≤ 1) : refT op d L = 3 := by
  have h7 : ¬ op = 7 := by omega
  have h8 : ¬ op = 8 := by omega
  unfold refT
  rw [if_neg h7, if_neg h8, if_pos ho, if_neg]
  rintro ⟨z1, z2⟩
  rcases h with h | h
  · rw [h] at z1; cases z1
  · exact h z2
theorem rB {op d : Int} {L : List Int} (ho : op = 10 ∨ op = 11 ∨ op = 12) (h : L.all sIn = true) (hd : d ≤ 1) : refT op d L = 2 := by
  have h7 : ¬ op = 7 := by omega
  have h8 : ¬ op = 8 := by omega
  unfold refT
  rw [if_neg h7, if_neg h8, if_pos ho, if_pos ⟨h, hd⟩]
end Go.Proofs.Ytjjjgffpmghfgaa
