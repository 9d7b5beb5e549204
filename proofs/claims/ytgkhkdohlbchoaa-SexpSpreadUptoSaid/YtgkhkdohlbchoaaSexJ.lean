/-
  Reading a text, plainly: what is read so far, level by level (the innermost first), and how it ends.
-/
import Derived.Test.YtgkhkdohlbchoaaSexA
namespace Go.Proofs.Ytgkhkdohlbchoaa
open Go.RowKit

/-- One more behind the others. -/
def Fo.snoc : Fo → ByteArray → Bool → Fo → Fo
  | .nil, s, l, k => .cons s l k .nil
  | .cons s' l' k' r, s, l, k => .cons s' l' k' (r.snoc s l k)
theorem Fo.len_snoc (f : Fo) (s : ByteArray) (l : Bool) (k : Fo) : (f.snoc s l k).len = f.len + 1 := by
  induction f with
  | nil => rfl
  | cons s' l' k' r _ ih => simp [Fo.snoc, Fo.len, ih]
theorem Fo.size_snoc (f : Fo) (s : ByteArray) (l : Bool) (k : Fo) : (f.snoc s l k).size = f.size + k.size + 1 := by
  induction f with
  | nil => simp [Fo.snoc, Fo.size]
  | cons s' l' k' r _ ih => simp [Fo.snoc, Fo.size, ih]; omega
/-- How a reading ends: with a fault, or with expressions. -/
inductive Res where
  | bad (c : Int) (a : Nat) : Res
  | good (f : Fo) : Res
/-- Where a comment ends. -/
def cEndF : Nat → ByteArray → Nat → Nat
  | 0, _, i => i
  | n + 1, s, i => if bs s i = 10 then i else cEndF n s (i + 1)
def cEnd (s : ByteArray) (i : Nat) : Nat := cEndF (s.size - i) s i
theorem cEnd_at {s : ByteArray} {i : Nat} (h : i < s.size) : cEnd s i = if bs s i = 10 then i else cEnd s (i + 1) := by
  unfold cEnd
  obtain ⟨n, hn⟩ : ∃ n, s.size - i = n + 1 := ⟨s.size - i - 1, by omega⟩
  have e : s.size - (i + 1) = n := by omega
  rw [hn, e, cEndF]
theorem cEnd_past {s : ByteArray} {i : Nat} (h : s.size ≤ i) : cEnd s i = i := by
  unfold cEnd
  rw [show s.size - i = 0 by omega, cEndF]
theorem cEnd_skip {s : ByteArray} {i j : Nat} (hij : i ≤ j) (hj : j ≤ s.size) (h : ∀ k, i ≤ k → k < j → bs s k ≠ 10) : cEnd s i = cEnd s j := by
  obtain ⟨n, rfl⟩ : ∃ n, j = i + n := ⟨j - i, by omega⟩
  induction n with
  | zero => rfl
  | succ n ih =>
    rw [ih (by omega) (by omega) (fun k h1 h2 => h k h1 (by omega)), cEnd_at (by omega), if_neg (h _ (by omega) (by omega))]
    rfl
theorem cEnd_here {s : ByteArray} {i j : Nat} (hij : i ≤ j) (hj : j ≤ s.size) (h : ∀ k, i ≤ k → k < j → bs s k ≠ 10) (he : j < s.size → bs s j = 10) : cEnd s i = j := by
  rw [cEnd_skip hij hj h]
  by_cases z : j < s.size
  · rw [cEnd_at z, if_pos (he z)]
  · exact cEnd_past (by omega)
theorem cEnd_le {s : ByteArray} {i : Nat} (h : i ≤ s.size) : i ≤ cEnd s i ∧ cEnd s i ≤ s.size := by
  obtain ⟨n, hn⟩ : ∃ n, s.size - i = n := ⟨_, rfl⟩
  induction n generalizing i with
  | zero => rw [cEnd_past (by omega)]; omega
  | succ n ih =>
    rw [cEnd_at (by omega)]
    split
    · omega
    · have := ih (i := i + 1) (by omega) (by omega); omega
/-- The bytes from a place to another. -/
def cut (s : ByteArray) (i j : Nat) : ByteArray := s.extract i j
/-- One step: a fault, or a new place and new levels. -/
def stepR (s : ByteArray) (i : Nat) (st : List Fo) : Except Int (Nat × List Fo) :=
  if bs s i = 40 then (if 40 < st.length - 1 then .error 10 else .ok (i + 1, .nil :: st))
  else if bs s i = 41 then
    (match st with
    | k :: f :: st => .ok (i + 1, f.snoc ByteArray.empty true k :: st)
    | _ => .error 1)
  else if bs s i = 59 then .ok (cEnd s i, st)
  else if inW (bs s i) = true then
    (if 24 < wEnd s i - i then .error 12 else if 40 < st.length - 1 then .error 10 else
      match st with
      | f :: st => .ok (wEnd s i, f.snoc (cut s i (wEnd s i)) false .nil :: st)
      | [] => .error 1)
  else if bs s i = 32 ∨ bs s i = 9 ∨ bs s i = 10 ∨ bs s i = 13 then .ok (i + 1, st)
  else .error 1
/-- The end of a text. -/
def endR (s : ByteArray) : List Fo → Res
  | [f] => .good f
  | _ => .bad 1 s.size
/-- All steps, as many as there may be. -/
def runF : Nat → ByteArray → Nat → List Fo → Res
  | 0, s, _, st => endR s st
  | n + 1, s, i, st => if i < s.size then (match stepR s i st with | .error c => .bad c i | .ok (j, st') => runF n s j st') else endR s st
def run (s : ByteArray) (i : Nat) (st : List Fo) : Res := runF (s.size - i) s i st
theorem stepR_lt {s : ByteArray} {i : Nat} {st : List Fo} {j : Nat} {st' : List Fo} (hi : i < s.size) (h : stepR s i st = .ok (j, st')) : i < j ∧ j ≤ s.size ∧ (st ≠ [] → st' ≠ []) := by
  unfold stepR at h
  by_cases h1 : bs s i = 40
  · rw [if_pos h1] at h
    split at h
    · cases h
    · cases h; exact ⟨by omega, by omega, fun _ => by simp⟩
  rw [if_neg h1] at h
  by_cases h2 : bs s i = 41
  · rw [if_pos h2] at h
    split at h
    · cases h; exact ⟨by omega, by omega, fun _ => by simp⟩
    · cases h
  rw [if_neg h2] at h
  by_cases h3 : bs s i = 59
  · rw [if_pos h3] at h
    cases h
    have e := cEnd_at hi
    rw [if_neg (by rw [h3]; decide)] at e
    have := cEnd_le (s := s) (i := i + 1) (by omega)
    exact ⟨by omega, by omega, fun z => z⟩
  rw [if_neg h3] at h
  by_cases h4 : inW (bs s i) = true
  · rw [if_pos h4] at h
    have e := wEnd_at hi
    rw [if_pos h4] at e
    have := wEnd_le (s := s) (i := i + 1) (by omega)
    split at h
    · cases h
    · split at h
      · cases h
      · split at h
        · cases h; exact ⟨by omega, by omega, fun _ => by simp⟩
        · cases h
  rw [if_neg h4] at h
  split at h
  · cases h; exact ⟨by omega, by omega, fun z => z⟩
  · cases h
theorem runF_more (s : ByteArray) : ∀ (n m i : Nat) (st : List Fo), s.size - i ≤ n → s.size - i ≤ m → runF n s i st = runF m s i st := by
  intro n
  induction n with
  | zero =>
    intro m i st h1 h2
    cases m with
    | zero => rfl
    | succ m => rw [runF, runF, if_neg (by omega)]
  | succ n ih =>
    intro m i st h1 h2
    cases m with
    | zero => rw [runF, runF, if_neg (by omega)]
    | succ m =>
      rw [runF, runF]
      by_cases hi : i < s.size
      · rw [if_pos hi, if_pos hi]
        cases e : stepR s i st with
        | error c => rfl
        | ok x =>
          obtain ⟨j, st'⟩ := x
          have := stepR_lt hi e
          exact ih m j st' (by omega) (by omega)
      · rw [if_neg hi, if_neg hi]
theorem run_end {s : ByteArray} {i : Nat} (st : List Fo) (h : s.size ≤ i) : run s i st = endR s st := by
  unfold run
  rw [show s.size - i = 0 by omega, runF]
theorem run_step {s : ByteArray} {i : Nat} {st : List Fo} {j : Nat} {st' : List Fo} (hi : i < s.size) (h : stepR s i st = .ok (j, st')) : run s i st = run s j st' := by
  unfold run
  obtain ⟨n, hn⟩ : ∃ n, s.size - i = n + 1 := ⟨s.size - i - 1, by omega⟩
  have := stepR_lt hi h
  rw [hn, runF, if_pos hi, h]
  exact runF_more s _ _ _ _ (by omega) (by omega)
theorem run_bad {s : ByteArray} {i : Nat} {st : List Fo} {c : Int} (hi : i < s.size) (h : stepR s i st = .error c) : run s i st = .bad c i := by
  unfold run
  obtain ⟨n, hn⟩ : ∃ n, s.size - i = n + 1 := ⟨s.size - i - 1, by omega⟩
  rw [hn, runF, if_pos hi, h]
end Go.Proofs.Ytgkhkdohlbchoaa
