/-
  With more between its words a text reads as it did.
-/
import Derived.Test.YtgkhkdohlbchoaaSexY
namespace Go.Proofs.Ytgkhkdohlbchoaa
open Go.RowKit
/-- What stands for a blank or a line's end. -/
def gapT (r : Int) : List UInt8 := if r = 0 then [32, 32] else if r = 1 then [9, 13, 32] else [10, 59, 41, 120, 10]
/-- What stands behind a bracket. -/
def tailT (r : Int) : List UInt8 := if r = 0 then [] else [10]
/-- What stands ahead of all. -/
def headT (r : Int) : List UInt8 := if r = 0 then [] else if r = 1 then [32] else [59, 32, 40, 10]
/-- What stands for a byte at a place. -/
def ex (g : Int) (i : Nat) (c : UInt8) : List UInt8 :=
  if c = 32 ∨ c = 10 then gapT ((g.tdiv 3 + i) % 3) else if c = 40 ∨ c = 41 then 32 :: c :: tailT ((g.tdiv 9 + i) % 2) else [c]
def exs (g : Int) : Nat → List UInt8 → List UInt8
  | _, [] => []
  | i, c :: r => ex g i c ++ exs g (i + 1) r
theorem exs_app (g : Int) (b : List UInt8) : ∀ (a : List UInt8) (i : Nat), exs g i (a ++ b) = exs g i a ++ exs g (i + a.length) b := by
  intro a
  induction a with
  | nil => intro i; rfl
  | cons c r ih =>
    intro i
    show ex g i c ++ exs g (i + 1) (r ++ b) = (ex g i c ++ exs g (i + 1) r) ++ _
    rw [ih, List.append_assoc, List.length_cons]
    congr 3
    omega
theorem sk_gap (r : Int) : Sk (gapT r) := by
  unfold gapT
  split
  · exact Sk.app (a := [32]) (Sk.blank (by decide)) (Sk.blank (by decide))
  · split
    · exact Sk.app (a := [9]) (Sk.blank (by decide)) (Sk.app (a := [13]) (Sk.blank (by decide)) (Sk.blank (by decide)))
    · exact Sk.app (a := [10]) (Sk.blank (by decide)) (Sk.comment (t := [41, 120]) (by decide))
theorem sk_tail (r : Int) : Sk (tailT r) := by
  unfold tailT
  split
  · exact Sk.nil
  · exact Sk.blank (by decide)
theorem sk_head (r : Int) : Sk (headT r) := by
  unfold headT
  split
  · exact Sk.nil
  · split
    · exact Sk.blank (by decide)
    · exact Sk.comment (t := [32, 40]) (by decide)
theorem hd_gap (r : Int) (t : List UInt8) : Hd (gapT r ++ t) := by
  unfold gapT
  split
  · exact Hd.cons (by decide)
  · split <;> exact Hd.cons (by decide)
theorem hd_tail (r : Int) : Hd (tailT r) := by
  unfold tailT
  split
  · exact Hd.nil
  · exact Hd.cons (by decide)
theorem exs_word (g : Int) : ∀ (t : List UInt8) (i : Nat), (∀ c ∈ t, inW (c.toNat : Int) = true) → exs g i t = t := by
  intro t
  induction t with
  | nil => intro i _; rfl
  | cons c r ih =>
    intro i h
    have hc := h c (by simp)
    have h1 : ¬ (c = 32 ∨ c = 10) := by rintro (rfl | rfl) <;> exact absurd hc (by decide)
    have h2 : ¬ (c = 40 ∨ c = 41) := by rintro (rfl | rfl) <;> exact absurd hc (by decide)
    show ex g i c ++ exs g (i + 1) r = _
    rw [ih (i + 1) (fun c hc => h c (by simp [hc])), ex, if_neg h1, if_neg h2]
    rfl
theorem word_bytes {x : ByteArray} (hx : okW x = true) : ∀ c ∈ x.data.toList, inW (c.toNat : Int) = true := fun c hc => by
  simp [okW] at hx
  obtain ⟨k, hk, e⟩ := List.getElem_of_mem hc
  have hk' : k < x.size := hk
  obtain ⟨b, e1, e2⟩ := bs_get hk'
  rw [List.getElem?_eq_getElem hk, e] at e1
  cases e1
  rw [← e2]
  exact wEnd_in (s := x) (i := 0) (by omega) k (by omega) (by omega)
theorem ex_blank (g : Int) (i : Nat) {c : UInt8} (h : c = 32 ∨ c = 10) : ex g i c = gapT ((g.tdiv 3 + i) % 3) := by unfold ex; rw [if_pos h]
theorem ex_brack (g : Int) (i : Nat) {c : UInt8} (h : c = 40 ∨ c = 41) : ex g i c = 32 :: c :: tailT ((g.tdiv 9 + i) % 2) := by
  unfold ex
  rw [if_neg (by rcases h with rfl | rfl <;> decide), if_pos h]
theorem Rd.post {d : Nat} {f : Fo} {t t' : List UInt8} (h : Rd d f t) (h' : Sk t') (hd : Hd t') : Rd d f (t ++ t') := by
  have := Rd.app h (Rd.skip (d := d) h') hd
  rwa [Fo.app_nil] at this
theorem rdx_one (g : Int) (i : Nat) {s : ByteArray} {l : Bool} {k : Fo} {d : Nat} (h : wrongC s l k.len d = 0) (hk : ∀ i, Rd (d + 1) k (exs g i (k.tk true))) : Rd d (.cons s l k .nil) (exs g i (oneT s l k)) := by
  obtain ⟨hd, ⟨rfl, rfl⟩ | ⟨rfl, rfl, hx⟩⟩ := bad_parts h
  · show Rd d _ (exs g i (40 :: (k.tk true ++ [41])))
    have e : exs g i (40 :: (k.tk true ++ [41])) = [32] ++ ((40 :: ((tailT ((g.tdiv 9 + i) % 2) ++ (exs g (i + 1) (k.tk true) ++ [32])) ++ [41])) ++ tailT ((g.tdiv 9 + ((i + 1 + (k.tk true).length : Nat) : Int)) % 2)) := by
      show ex g i 40 ++ exs g (i + 1) (k.tk true ++ [41]) = _
      rw [exs_app, ex_brack g i (.inl rfl)]
      show _ ++ (_ ++ (ex g (i + 1 + (k.tk true).length) 41 ++ [])) = _
      rw [ex_brack _ _ (.inr rfl)]
      simp
    rw [e]
    exact Rd.pre (Sk.blank (by decide)) (Rd.post (Rd.list (Rd.pre (sk_tail _) (Rd.post (hk (i + 1)) (Sk.blank (by decide)) (Hd.cons (by decide)))) hd) (sk_tail _) (hd_tail _))
  · show Rd d _ (exs g i s.data.toList)
    rw [exs_word g _ i (word_bytes hx)]
    exact Rd.word hx hd
theorem hdx_tk (g : Int) (i : Nat) (f : Fo) : Hd (exs g i (f.tk false)) := by
  cases f with
  | nil => exact Hd.nil
  | cons s l k r =>
    show Hd (ex g i 32 ++ _)
    rw [ex_blank g i (.inl rfl)]
    exact hd_gap _ _
theorem rdx_tk (g : Int) (f : Fo) : ∀ d z i, f.bad d = 0 → Rd d f (exs g i (f.tk z)) := by
  induction f with
  | nil => intro d z i _; exact Rd.skip Sk.nil
  | cons s l k r ihk ihr =>
    intro d z i h
    obtain ⟨h1, h2, h3⟩ := Fo.bad_cons h
    rw [Fo.tk_cons, cons_split, exs_app, exs_app]
    refine Rd.pre ?_ (Rd.app (rdx_one g _ h1 (fun i => ihk _ _ i h2)) (ihr _ _ _ h3) (hdx_tk _ _ r))
    cases z with
    | true => exact Sk.nil
    | false =>
      show Sk (ex g i 32 ++ [])
      rw [ex_blank g i (.inl rfl), List.append_nil]
      exact sk_gap _
theorem rdx_lines (g : Int) (f : Fo) : ∀ i, f.bad 0 = 0 → Rd 0 f (exs g i f.lines) := by
  induction f with
  | nil => intro i _; exact Rd.skip Sk.nil
  | cons s l k r _ ihr =>
    intro i h
    obtain ⟨h1, h2, h3⟩ := Fo.bad_cons h
    rw [Fo.lines, cons_split, exs_app]
    show Rd 0 _ (_ ++ (ex g _ 10 ++ exs g _ r.lines))
    rw [ex_blank _ _ (.inr rfl)]
    exact Rd.app (rdx_one g _ h1 (fun i => rdx_tk g k _ _ i h2)) (Rd.pre (sk_gap _) (ihr _ h3)) (hd_gap _ _)
/-- The wide text. -/
def wideT (g : Int) (t : List UInt8) : List UInt8 := headT (g % 3) ++ exs g 0 t
theorem parse_wide (g : Int) {f : Fo} (h : f.chkC = 0) (hl : (wideT g f.lines).length ≤ 4000) : parseR ⟨(wideT g f.lines).toArray⟩ = .good f :=
  (Rd.pre (sk_head _) (rdx_lines g f 0 (Fo.chk_good h).2.2)).parse hl
end Go.Proofs.Ytgkhkdohlbchoaa
