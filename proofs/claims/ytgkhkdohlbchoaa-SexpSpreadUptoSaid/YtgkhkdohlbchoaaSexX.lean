/-
  What is written is read again, plainly; also with more between its words.
-/
import Derived.Test.YtgkhkdohlbchoaaSexT
import Derived.Test.YtgkhkdohlbchoaaSexH
import Derived.Test.YtgkhkdohlbchoaaSexM
namespace Go.Proofs.Ytgkhkdohlbchoaa
open Go.RowKit
/-- One behind the other. -/
def Fo.app : Fo → Fo → Fo
  | f, .nil => f
  | f, .cons s l k r => (f.snoc s l k).app r
theorem Fo.app_nil (f : Fo) : f.app .nil = f := by cases f <;> rfl
theorem Fo.app_cons (f : Fo) (s : ByteArray) (l : Bool) (k r : Fo) : f.app (.cons s l k r) = (f.snoc s l k).app r := by cases f <;> rfl
theorem Fo.snoc_cons (s' : ByteArray) (l' : Bool) (k' r : Fo) (s : ByteArray) (l : Bool) (k : Fo) : (Fo.cons s' l' k' r).snoc s l k = .cons s' l' k' (r.snoc s l k) := rfl
theorem Fo.cons_app (g : Fo) : ∀ (s : ByteArray) (l : Bool) (k r : Fo), (Fo.cons s l k r).app g = .cons s l k (r.app g) := by
  induction g with
  | nil => intro s l k r; rw [Fo.app_nil, Fo.app_nil]
  | cons s' l' k' r' _ ih => intro s l k r; rw [Fo.app_cons, Fo.app_cons, Fo.snoc_cons, ih]
theorem Fo.nil_app (g : Fo) : Fo.nil.app g = g := by
  induction g with
  | nil => rfl
  | cons s l k r _ ih => rw [Fo.app_cons]; show (Fo.cons s l k .nil).app r = _; rw [Fo.cons_app, ih]
theorem Fo.app_assoc (h : Fo) : ∀ f g : Fo, (f.app g).app h = f.app (g.app h) := by
  induction h with
  | nil => intro f g; rw [Fo.app_nil, Fo.app_nil]
  | cons s l k r _ ih =>
    intro f g
    rw [Fo.app_cons, Fo.app_cons, ← ih]
    congr 1
    clear ih
    induction g generalizing f with
    | nil => rw [Fo.app_nil]; show _ = f.app (.cons s l k .nil); rw [Fo.app_cons, Fo.app_nil]
    | cons s' l' k' r' _ ih => rw [Fo.snoc_cons, Fo.app_cons, Fo.app_cons, ih]
/-- Bytes stand in a text from a place on. -/
def Seg (s : ByteArray) (i : Nat) (t : List UInt8) : Prop := ∀ k, k < t.length → s.data.toList[i + k]? = t[k]?
theorem Seg.left {s : ByteArray} {i : Nat} {a b : List UInt8} (h : Seg s i (a ++ b)) : Seg s i a := fun k hk => by
  rw [h k (by simp; omega), List.getElem?_append_left hk]
theorem Seg.right {s : ByteArray} {i : Nat} {a b : List UInt8} (h : Seg s i (a ++ b)) : Seg s (i + a.length) b := fun k hk => by
  have := h (a.length + k) (by simp; omega)
  rw [← Nat.add_assoc, List.getElem?_append_right (by omega), Nat.add_sub_cancel_left] at this
  exact this
theorem Seg.head {s : ByteArray} {i : Nat} {c : UInt8} {t : List UInt8} (h : Seg s i (c :: t)) : i < s.size ∧ bs s i = (c.toNat : Int) := by
  have h0 := h 0 (by simp)
  simp at h0
  have hi : i < s.size := by
    rcases Nat.lt_or_ge i s.size with z | z
    · exact z
    · rw [Array.getElem?_eq_none z] at h0; cases h0
  obtain ⟨b, e1, e2⟩ := bs_get hi
  simp at e1
  rw [h0] at e1
  cases e1
  exact ⟨hi, e2⟩
theorem Seg.tail {s : ByteArray} {i : Nat} {c : UInt8} {t : List UInt8} (h : Seg s i (c :: t)) : Seg s (i + 1) t := Seg.right (a := [c]) h
theorem seg_all (s : ByteArray) : Seg s 0 s.data.toList := fun k _ => by rw [Nat.zero_add]
theorem Seg.le {s : ByteArray} {i : Nat} {t : List UInt8} (h : Seg s i t) (h0 : t ≠ []) : i + t.length ≤ s.size := by
  have hp : 0 < t.length := List.length_pos_iff.2 h0
  have := h (t.length - 1) (by omega)
  rcases Nat.lt_or_ge (i + (t.length - 1)) s.size with z | z
  · omega
  · rw [List.getElem?_eq_none (show s.data.toList.length ≤ _ from z), List.getElem?_eq_getElem (by omega)] at this; cases this
/-- No byte of a word stands there. -/
def Nx (s : ByteArray) (j : Nat) : Prop := j < s.size → inW (bs s j) = false
/-- Bytes that may stand behind a word. -/
def Hd (t : List UInt8) : Prop := ∀ c r, t = c :: r → inW (c.toNat : Int) = false
theorem Hd.nil : Hd [] := fun _ _ h => by cases h
theorem Hd.cons {c : UInt8} {r : List UInt8} (h : inW (c.toNat : Int) = false) : Hd (c :: r) := fun _ _ e => by cases e; exact h
theorem Hd.app {a b : List UInt8} (ha : Hd a) (hb : Hd b) : Hd (a ++ b) := by
  cases a with
  | nil => exact hb
  | cons c r => exact Hd.cons (ha c r rfl)
theorem Hd.nx {s : ByteArray} {i : Nat} {t : List UInt8} (h : Hd t) (hs : Seg s i t) (hn : Nx s (i + t.length)) : Nx s i := by
  cases t with
  | nil => exact hn
  | cons c r => intro _; rw [hs.head.2]; exact h c r rfl
/-- Bytes that are read over. -/
def Sk (t : List UInt8) : Prop := ∀ s i st, Seg s i t → run s i st = run s (i + t.length) st
theorem Sk.nil : Sk [] := fun _ _ _ _ => rfl
theorem Sk.app {a b : List UInt8} (ha : Sk a) (hb : Sk b) : Sk (a ++ b) := fun s i st h => by
  rw [ha s i st h.left, hb s _ st h.right, List.length_append, Nat.add_assoc]
theorem Sk.blank {c : UInt8} (h : (c.toNat : Int) = 32 ∨ (c.toNat : Int) = 9 ∨ (c.toNat : Int) = 10 ∨ (c.toNat : Int) = 13) : Sk [c] := fun s i st hs => by
  obtain ⟨h1, h2⟩ := hs.head
  exact run_blank h1 (by rw [h2]; exact h)
/-- A comment and its line's end. -/
theorem Sk.comment {t : List UInt8} (h : ∀ c ∈ t, (c.toNat : Int) ≠ 10) : Sk (59 :: (t ++ [10])) := fun s i st hs => by
  obtain ⟨h1, h2⟩ := hs.head
  have ht := hs.tail
  have hn := ht.right.head
  have e : cEnd s i = i + 1 + t.length := by
    refine cEnd_here (by omega) (by omega) (fun k q1 q2 => ?_) (fun _ => hn.2)
    rcases Nat.eq_or_lt_of_le q1 with rfl | q3
    · rw [h2]; decide
    · have q := ht.left (k - (i + 1)) (by omega)
      rw [show i + 1 + (k - (i + 1)) = k by omega] at q
      obtain ⟨b, e1, e2⟩ := bs_get (show k < s.size by omega)
      rw [e1] at q
      rw [e2]
      exact h b (List.mem_of_getElem? q.symm)
  rw [run_comment h1 (by rw [h2]; rfl), e, run_blank hn.1 (by rw [hn.2]; exact .inr (.inr (.inl rfl)))]
  congr 1
  simp
  omega
/-- Bytes that read as a forest, within so many lists. -/
def Rd (d : Nat) (f : Fo) (t : List UInt8) : Prop := ∀ s i g outer, Seg s i t → outer.length = d → Nx s (i + t.length) → run s i (g :: outer) = run s (i + t.length) (g.app f :: outer)
theorem Rd.skip {d : Nat} {t : List UInt8} (h : Sk t) : Rd d .nil t := fun s i g outer hs _ _ => by rw [h s i _ hs, Fo.app_nil]
theorem Rd.app {d : Nat} {f f' : Fo} {t t' : List UInt8} (h : Rd d f t) (h' : Rd d f' t') (hd : Hd t') : Rd d (f.app f') (t ++ t') := fun s i g outer hs ho hn => by
  rw [List.length_append, ← Nat.add_assoc] at hn ⊢
  rw [h s i g outer hs.left ho (hd.nx hs.right hn), h' s _ _ outer hs.right ho hn, Fo.app_assoc]
theorem Rd.word {d : Nat} {x : ByteArray} (hx : okW x = true) (hd : ¬ 40 < d) : Rd d (.cons x false .nil .nil) x.data.toList := fun s i g outer hs ho hn => by
  simp [okW] at hx
  obtain ⟨h1, h2, h3⟩ := hx
  have hl : x.data.toList.length = x.size := rfl
  have hbyte : ∀ k, k < x.size → i + k < s.size ∧ bs s (i + k) = bs x k := fun k hk => by
    have := hs k hk
    obtain ⟨b, e1, e2⟩ := bs_get hk
    rw [e1] at this
    have hi : i + k < s.size := by
      rcases Nat.lt_or_ge (i + k) s.size with z | z
      · exact z
      · rw [List.getElem?_eq_none (show s.data.toList.length ≤ _ from z)] at this; cases this
    obtain ⟨b', e3, e4⟩ := bs_get hi
    rw [e3] at this
    cases this
    exact ⟨hi, by rw [e4, e2]⟩
  have hin : ∀ k, k < x.size → inW (bs x k) = true := fun k hk => wEnd_in (s := x) (i := 0) (by omega) k (by omega) (by omega)
  have hle : i + x.size ≤ s.size := by have := (hbyte (x.size - 1) (by omega)).1; omega
  have e : wEnd s i = i + x.size := by
    refine wEnd_here (by omega) hle (fun k q1 q2 => ?_) hn
    have := (hbyte (k - i) (by omega)).2
    rw [show i + (k - i) = k by omega] at this
    rw [this]
    exact hin _ (by omega)
  have h0 := hbyte 0 (by omega)
  simp only [Nat.add_zero] at h0
  have hc : cut s i (wEnd s i) = x := by
    apply Go.WideShapes.bytes_inj
    unfold cut
    rw [Lib.extract_data, e]
    apply List.ext_getElem?
    intro k
    rcases Nat.lt_or_ge k x.size with z | z
    · rw [List.getElem?_take_of_lt (by omega), List.getElem?_drop, hs k z]
    · rw [List.getElem?_take_eq_none (by omega), List.getElem?_eq_none (by rw [hl]; exact z)]
  rw [run_word h0.1 (by rw [h0.2]; exact hin 0 (by omega)) (by rw [e]; omega) (by simp [ho]; omega), hc, e, hl, Fo.app_cons, Fo.app_nil]
theorem Rd.list {d : Nat} {k : Fo} {t : List UInt8} (h : Rd (d + 1) k t) (hd : ¬ 40 < d) : Rd d (.cons ByteArray.empty true k .nil) (40 :: (t ++ [41])) := fun s i g outer hs ho hn => by
  obtain ⟨h1, h2⟩ := hs.head
  have ht := hs.tail
  obtain ⟨h3, h4⟩ := ht.right.head
  rw [run_open h1 (by rw [h2]; rfl) (by simp [ho]; omega), h s (i + 1) .nil (g :: outer) ht.left (by simp [ho]) (fun _ => by rw [h4]; decide), Fo.nil_app, run_close h3 (by rw [h4]; rfl), Fo.app_cons, Fo.app_nil]
  congr 1
  simp
  omega
end Go.Proofs.Ytgkhkdohlbchoaa
