/-
  What is read is as it must be; what is written of it is read again as it was.
-/
import Derived.Test.YtgkhkdohlbchoaaSexX
import Derived.Test.YtgkhkdohlbchoaaSexS
namespace Go.Proofs.Ytgkhkdohlbchoaa
open Go.RowKit
theorem Fo.bad_of {s : ByteArray} {l : Bool} {k r : Fo} {d : Nat} (h1 : wrongC s l k.len d = 0) (h2 : k.bad (d + 1) = 0) (h3 : r.bad d = 0) : (Fo.cons s l k r).bad d = 0 := by
  unfold Fo.bad
  rw [if_pos h1, if_pos h2, h3]
theorem Fo.bad_snoc {f : Fo} {s : ByteArray} {l : Bool} {k : Fo} {d : Nat} (h1 : wrongC s l k.len d = 0) (h2 : k.bad (d + 1) = 0) : f.bad d = 0 → (f.snoc s l k).bad d = 0 := by
  induction f with
  | nil => intro _; exact Fo.bad_of h1 h2 rfl
  | cons s' l' k' r' _ ih =>
    intro h
    obtain ⟨a, b, c⟩ := Fo.bad_cons h
    exact Fo.bad_of a b (ih c)
theorem bs_cut {s : ByteArray} {i j k : Nat} (hij : i ≤ j) (hj : j ≤ s.size) (hk : k < j - i) : bs (cut s i j) k = bs s (i + k) := by
  have h1 : k < (cut s i j).size := by unfold cut; rw [ByteArray.size_extract]; omega
  obtain ⟨b, e1, e2⟩ := bs_get h1
  obtain ⟨b', e3, e4⟩ := bs_get (show i + k < s.size by omega)
  unfold cut at e1
  rw [Lib.extract_data, List.getElem?_take_of_lt (by omega), List.getElem?_drop, e3] at e1
  cases e1
  rw [e2, e4]
theorem okW_cut {s : ByteArray} {i : Nat} (hi : i < s.size) (hin : inW (bs s i) = true) (hl : ¬ 24 < wEnd s i - i) : okW (cut s i (wEnd s i)) = true := by
  have hle := wEnd_le (s := s) (i := i + 1) (by omega)
  have e := wEnd_at hi
  rw [if_pos hin] at e
  have hsz : (cut s i (wEnd s i)).size = wEnd s i - i := by unfold cut; rw [ByteArray.size_extract]; omega
  have hw : wEnd (cut s i (wEnd s i)) 0 = (cut s i (wEnd s i)).size := by
    refine wEnd_here (by omega) (Nat.le_refl _) (fun k _ h2 => ?_) (fun z => absurd z (Nat.lt_irrefl _))
    rw [hsz] at h2
    rw [bs_cut (by omega) (by omega) h2]
    exact wEnd_in (s := s) (i := i) (by omega) (i + k) (by omega) (by omega)
  simp only [okW, hw, decide_eq_true_eq, and_true]
  omega
theorem wrong_list {k : Fo} {d : Nat} (hd : ¬ 40 < d) : wrongC ByteArray.empty true k.len d = 0 := by
  unfold wrongC
  rw [if_neg (by simp), if_neg (by simp), if_neg hd]
theorem wrong_ok {x : ByteArray} {d : Nat} (hx : okW x = true) (hd : ¬ 40 < d) : wrongC x false Fo.nil.len d = 0 := by
  unfold wrongC
  rw [if_neg (by simp [Fo.len]), if_neg (by simp [hx]), if_neg hd]
/-- Each level is as it must be. -/
def VL : List Fo → Prop
  | [] => True
  | f :: st => f.bad st.length = 0 ∧ VL st
def total : List Fo → Nat
  | [] => 0
  | f :: st => f.size + total st
theorem valid_step {s : ByteArray} {i : Nat} {st : List Fo} {j : Nat} {st' : List Fo} (hi : i < s.size) (h : stepR s i st = .ok (j, st')) (hv : VL st) (ht : total st + st.length ≤ i + 1) (hl : st.length ≤ 42) : VL st' ∧ total st' + st'.length ≤ j + 1 ∧ st'.length ≤ 42 := by
  have hlt := stepR_lt hi h
  unfold stepR at h
  by_cases h1 : bs s i = 40
  · rw [if_pos h1] at h
    split at h
    · cases h
    · cases h
      refine ⟨⟨rfl, hv⟩, ?_, by simp; omega⟩
      simp [total, Fo.size]; omega
  rw [if_neg h1] at h
  by_cases h2 : bs s i = 41
  · rw [if_pos h2] at h
    split at h
    · rename_i k f st
      cases h
      obtain ⟨a, b, c⟩ := hv
      simp only [List.length_cons] at hl ht a
      refine ⟨⟨Fo.bad_snoc (wrong_list (by omega)) a b, c⟩, ?_, by simp; omega⟩
      simp only [total, Fo.size_snoc, List.length_cons] at ht ⊢
      omega
    · cases h
  rw [if_neg h2] at h
  by_cases h3 : bs s i = 59
  · rw [if_pos h3] at h
    cases h
    exact ⟨hv, by omega, hl⟩
  rw [if_neg h3] at h
  by_cases h4 : inW (bs s i) = true
  · rw [if_pos h4] at h
    split at h
    · cases h
    · rename_i hlong
      split at h
      · cases h
      · rename_i hdeep
        split at h
        · rename_i f st
          cases h
          obtain ⟨a, b⟩ := hv
          simp only [List.length_cons] at hl ht hdeep
          refine ⟨⟨Fo.bad_snoc (wrong_ok (okW_cut hi h4 hlong) (by omega)) rfl a, b⟩, ?_, by simp; omega⟩
          simp only [total, Fo.size_snoc, List.length_cons, Fo.size] at ht ⊢
          omega
        · cases h
  rw [if_neg h4] at h
  split at h
  · cases h; exact ⟨hv, by omega, hl⟩
  · cases h
theorem valid_runF (s : ByteArray) : ∀ (n i : Nat) (st : List Fo) (f : Fo), runF n s i st = .good f → VL st → total st + st.length ≤ i + 1 → st.length ≤ 42 → i ≤ s.size → f.bad 0 = 0 ∧ f.size ≤ s.size := by
  have hend : ∀ (i : Nat) (st : List Fo) (f : Fo), endR s st = .good f → VL st → total st + st.length ≤ i + 1 → i ≤ s.size → f.bad 0 = 0 ∧ f.size ≤ s.size := fun i st f h hv ht hi => by
    unfold endR at h
    split at h
    · cases h
      simp only [VL, total, List.length_nil, List.length_cons] at hv ht
      exact ⟨hv.1, by omega⟩
    · cases h
  intro n
  induction n with
  | zero => intro i st f h hv ht _ hi; exact hend i st f h hv ht hi
  | succ n ih =>
    intro i st f h hv ht hl hi
    rw [runF] at h
    by_cases hlt : i < s.size
    · rw [if_pos hlt] at h
      cases e : stepR s i st with
      | error c => rw [e] at h; cases h
      | ok x =>
        obtain ⟨j, st'⟩ := x
        rw [e] at h
        obtain ⟨a, b, c⟩ := valid_step hlt e hv ht hl
        exact ih j st' f h a b c (stepR_lt hlt e).2.1
    · rw [if_neg hlt] at h
      exact hend i st f h hv ht hi
theorem run_valid {s : ByteArray} {f : Fo} (hs : s.size ≤ 4000) (h : run s 0 [.nil] = .good f) : f.chkC = 0 := by
  obtain ⟨h1, h2⟩ := valid_runF s _ 0 [.nil] f h ⟨rfl, trivial⟩ (by simp [total, Fo.size]) (by simp) (by omega)
  unfold Fo.chkC
  rw [if_neg (by omega), h1]
theorem Hd.tk (f : Fo) : Hd (f.tk false) := by
  cases f with
  | nil => exact Hd.nil
  | cons s l k r => exact Hd.cons (by decide)
theorem bad_parts {s : ByteArray} {l : Bool} {k : Fo} {d : Nat} (h : wrongC s l k.len d = 0) : ¬ 40 < d ∧ ((l = true ∧ s = ByteArray.empty) ∨ (l = false ∧ k = .nil ∧ okW s = true)) := by
  unfold wrongC at h
  by_cases h1 : (l = true ∧ ¬ s.size = 0) ∨ (l = false ∧ 0 < k.len)
  · rw [if_pos h1] at h; cases h
  rw [if_neg h1] at h
  by_cases h2 : l = false ∧ okW s = false
  · rw [if_pos h2] at h; cases h
  rw [if_neg h2] at h
  by_cases h3 : 40 < d
  · rw [if_pos h3] at h; cases h
  refine ⟨h3, ?_⟩
  cases l with
  | true =>
    left
    refine ⟨rfl, empty_of ?_⟩
    rcases Nat.eq_zero_or_pos s.size with z | z
    · exact z
    · exact absurd (.inl ⟨rfl, by omega⟩) h1
  | false =>
    right
    refine ⟨rfl, ?_, ?_⟩
    · cases k with
      | nil => rfl
      | cons a b c e => exact absurd (.inr ⟨rfl, by simp [Fo.len]⟩) h1
    · by_cases q : okW s = true
      · exact q
      · exact absurd ⟨rfl, by simpa using q⟩ h2
theorem rd_one {s : ByteArray} {l : Bool} {k : Fo} {d : Nat} (h : wrongC s l k.len d = 0) (hk : Rd (d + 1) k (k.tk true)) : Rd d (.cons s l k .nil) (oneT s l k) := by
  obtain ⟨hd, ⟨rfl, rfl⟩ | ⟨rfl, rfl, hx⟩⟩ := bad_parts h
  · exact Rd.list hk hd
  · exact Rd.word hx hd
theorem Rd.pre {d : Nat} {f : Fo} {t t' : List UInt8} (h : Sk t) (h' : Rd d f t') : Rd d f (t ++ t') := fun s i g outer hs ho hn => by
  rw [List.length_append, ← Nat.add_assoc] at hn ⊢
  rw [h s i _ hs.left, h' s _ g outer hs.right ho hn]
theorem cons_split (s : ByteArray) (l : Bool) (k r : Fo) : Fo.cons s l k r = (Fo.cons s l k .nil).app r := by rw [Fo.cons_app, Fo.nil_app]
theorem rd_tk (f : Fo) : ∀ d z, f.bad d = 0 → Rd d f (f.tk z) := by
  induction f with
  | nil => intro d z _; exact Rd.skip Sk.nil
  | cons s l k r ihk ihr =>
    intro d z h
    obtain ⟨h1, h2, h3⟩ := Fo.bad_cons h
    rw [Fo.tk_cons, cons_split]
    exact Rd.pre (by cases z; exact Sk.blank (by decide); exact Sk.nil) (Rd.app (rd_one h1 (ihk _ _ h2)) (ihr _ _ h3) (Hd.tk r))
theorem rd_lines (f : Fo) : f.bad 0 = 0 → Rd 0 f f.lines := by
  induction f with
  | nil => intro _; exact Rd.skip Sk.nil
  | cons s l k r _ ihr =>
    intro h
    obtain ⟨h1, h2, h3⟩ := Fo.bad_cons h
    rw [Fo.lines, cons_split]
    exact Rd.app (rd_one h1 (rd_tk k _ _ h2)) (Rd.pre (t := [10]) (Sk.blank (by decide)) (ihr h3)) (Hd.cons (by decide))
/-- A text that reads as a forest. -/
theorem Rd.parse {f : Fo} {t : List UInt8} (h : Rd 0 f t) (hl : t.length ≤ 4000) : parseR ⟨t.toArray⟩ = .good f := by
  have hsz : (⟨t.toArray⟩ : ByteArray).size = t.length := by simp [ByteArray.size]
  unfold parseR
  rw [if_neg (by rw [hsz]; omega)]
  have hs := seg_all ⟨t.toArray⟩
  have e : (⟨t.toArray⟩ : ByteArray).data.toList = t := by simp
  rw [e] at hs
  rw [h _ 0 .nil [] hs rfl (fun z => by rw [hsz] at z; omega), run_end _ (by rw [hsz]; omega), Fo.nil_app]
  rfl
theorem parse_lines {f : Fo} (h : f.chkC = 0) (hl : f.lines.length ≤ 4000) : parseR ⟨f.lines.toArray⟩ = .good f := (rd_lines f (Fo.chk_good h).2.2).parse hl
theorem parseR_valid {s : ByteArray} {f : Fo} (h : parseR s = .good f) : f.chkC = 0 := by
  unfold parseR at h
  by_cases z : 4000 < s.size
  · rw [if_pos z] at h; cases h
  · rw [if_neg z] at h
    exact run_valid (by omega) h
end Go.Proofs.Ytgkhkdohlbchoaa
