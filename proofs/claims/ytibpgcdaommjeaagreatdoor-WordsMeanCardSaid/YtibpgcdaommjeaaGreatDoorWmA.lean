/-
  Words and meanings: an ask of two words and what is made of them; mathematics.
-/
import Derived.Test.YtibpgcdaommjeaaGreatDoorG23
namespace Go.Proofs.YtibpgcdaommjeaaGreatDoor
open Go.RowKit

theorem nm_nil : (⟨#[]⟩ : ByteArray).toList.isEmpty = true := by
  unfold ByteArray.toList
  unfold ByteArray.toList.loop
  simp [ByteArray.size]
/-- The third node. -/
def xN (op n : Int) : Nd := ⟨op, if op = 16 ∨ op = 23 then [0] else [0, 1], if op = 23 then n else 0, 0, ⟨#[]⟩⟩
def wN (a k : Int) : Nd := ⟨15, [], a, k, ⟨#[]⟩⟩
def askN (op k a b n : Int) : List Nd := [wN a k, wN b k, xN op n]
/-- Is the shift no shift? -/
def badN (op n : Int) : Bool := decide (op = 23) && (decide (n < 0) || decide (8 < n))
theorem nd_word {a k : Int} {i : Nat} {srts : List Int} (k1 : 1 ≤ k) (k8 : k ≤ 8) (a0 : 0 ≤ a) (ha : a < 2 ^ k.toNat) : ndC [] (wN a k) i srts = 0 ∧ ndT [] (wN a k) srts = 10 + k := by
  have e : ndT [] (wN a k) srts = 10 + k := by simp [ndT, wN, srt]
  refine ⟨?_, e⟩
  unfold ndC
  rw [e]
  have f : flC 15 a k true = 0 := by
    unfold flC
    rw [if_neg (by simp), if_neg (by simp), if_neg (by simp), if_neg (by simp), if_neg (by simp; omega), if_neg (by simp)]
  have f2 : flC (wN a k).op (wN a k).n (wN a k).d (wN a k).name.toList.isEmpty = 0 := by
    rw [show (wN a k).name.toList.isEmpty = true from nm_nil]
    exact f
  rw [f2]
  simp [wN, kWant, kcN, kIn]
  omega
theorem ask_srt {op k a b n : Int} (k1 : 1 ≤ k) (k8 : k ≤ 8) (a0 : 0 ≤ a) (ha : a < 2 ^ k.toNat) (b0 : 0 ≤ b) (hb : b < 2 ^ k.toNat) :
    srtL [] (askN op k a b n) 2 = [10 + k, 10 + k] ∧ nC [] (askN op k a b n) 0 = 0 ∧ nC [] (askN op k a b n) 1 = 0 := by
  obtain ⟨c0, t0⟩ := nd_word (i := 0) (srts := []) k1 k8 a0 ha
  obtain ⟨c1, t1⟩ := nd_word (i := 1) (srts := [10 + k]) k1 k8 b0 hb
  have n0 : nn (askN op k a b n) 0 = wN a k := rfl
  have n1 : nn (askN op k a b n) 1 = wN b k := rfl
  have s1 : srtL [] (askN op k a b n) 1 = [10 + k] := by
    unfold srtL srtL ndS
    rw [n0, c0, if_pos rfl, t0]
    rfl
  have s2 : srtL [] (askN op k a b n) 2 = [10 + k, 10 + k] := by
    unfold srtL ndS
    rw [s1, n1, c1, if_pos rfl, t1]
    rfl
  refine ⟨s2, ?_, ?_⟩
  · unfold nC
    rw [n0]
    exact c0
  · unfold nC
    rw [n1, s1]
    exact c1
theorem nd_op {op k n : Int} (k1 : 1 ≤ k) (k8 : k ≤ 8) (o1 : 16 ≤ op) (o2 : op ≤ 23) (hn : badN op n = false) : ndC [] (xN op n) 2 [10 + k, 10 + k] = 0 ∧ ndT [] (xN op n) [10 + k, 10 + k] = if op = 22 then 1 else 10 + k := by
  have hs : ∀ l : List Int, (l = [10 + k] ∨ l = [10 + k, 10 + k]) → sSw l = true := by
    rintro l (rfl | rfl) <;> simp [sSw, sWd, nth] <;> omega
  have cs : op = 16 ∨ op = 17 ∨ op = 18 ∨ op = 19 ∨ op = 20 ∨ op = 21 ∨ op = 22 ∨ op = 23 := by omega
  have ht : ndT [] (xN op n) [10 + k, 10 + k] = if op = 22 then 1 else 10 + k := by
    have h1 := hs [10 + k] (.inl rfl)
    have h2 := hs [10 + k, 10 + k] (.inr rfl)
    rcases cs with rfl | rfl | rfl | rfl | rfl | rfl | rfl | rfl <;> simp [ndT, xN, kSo, srt, nth, whn, List.getD] <;> first | (rw [h1]; rfl) | (rw [h2]; rfl) | simp [h1, h2] | skip
  refine ⟨?_, ht⟩
  unfold ndC
  rw [ht]
  have f : flC (xN op n).op (xN op n).n (xN op n).d (xN op n).name.toList.isEmpty = 0 := by
    have e0 : (xN op n).name.toList.isEmpty = true := nm_nil
    rw [e0]
    unfold badN at hn
    rcases cs with rfl | rfl | rfl | rfl | rfl | rfl | rfl | rfl <;> simp [flC, xN] at hn ⊢ <;> omega
  rw [f]
  rcases cs with rfl | rfl | rfl | rfl | rfl | rfl | rfl | rfl <;> simp [xN, kWant, kcN, kIn] <;> omega
theorem nd_bad {n k : Int} (hn : n < 0 ∨ 8 < n) : ndC [] (xN 23 n) 2 [10 + k, 10 + k] = 3 := by
  have f : flC (xN 23 n).op (xN 23 n).n (xN 23 n).d (xN 23 n).name.toList.isEmpty = 3 := by
    have e0 : (xN 23 n).name.toList.isEmpty = true := nm_nil
    rw [e0]
    simp [flC, xN]
    omega
  unfold ndC
  rw [f]
  simp [xN, kWant, kcN, kIn]
theorem fsc_nil (code : Nat → Int) (lim : Nat) : fsC code 0 lim = 0 := by simp [fsC, fsI]
theorem fsc_three {code : Nat → Int} (h0 : code 0 = 0) (h1 : code 1 = 0) : fsC code 3 200 = code 2 ∧ (code 2 ≠ 0 → fsA code 3 200 = 2) := by
  have hr : List.range 3 = [0, 1, 2] := rfl
  unfold fsC fsA fsI
  rw [hr]
  by_cases h2 : code 2 = 0
  · simp [List.findIdx_cons, h0, h1, h2]
  · have : (code 2 != 0) = true := by simpa using h2
    simp [List.findIdx_cons, h0, h1, this]
section
variable {op k a b n : Int} (k1 : 1 ≤ k) (k8 : k ≤ 8) (a0 : 0 ≤ a) (ha : a < 2 ^ k.toNat) (b0 : 0 ≤ b) (hb : b < 2 ^ k.toNat)
include k1 k8 a0 ha b0 hb
theorem ask_c2 : nC [] (askN op k a b n) 2 = ndC [] (xN op n) 2 [10 + k, 10 + k] := by
  unfold nC
  rw [(ask_srt k1 k8 a0 ha b0 hb).1]
  rfl
theorem ask_bad (h : op = 23) (hn : n < 0 ∨ 8 < n) : mvR [] (askN op k a b n) [] [] = .error (3, 2) := by
  subst h
  obtain ⟨_, c0, c1⟩ := ask_srt (op := 23) (n := n) k1 k8 a0 ha b0 hb
  have c2 : nC [] (askN 23 k a b n) 2 = 3 := by rw [ask_c2 k1 k8 a0 ha b0 hb]; exact nd_bad hn
  obtain ⟨f1, f2⟩ := fsc_three c0 c1
  rw [c2] at f1
  have f2' := f2 (by rw [c2]; decide)
  have hl : (askN 23 k a b n).length = 3 := rfl
  have hc : akC [] (askN 23 k a b n) [] = 3 := by
    unfold akC
    rw [hl, f1, show ([] : List Dc).length = 0 from rfl, fsc_nil, if_neg (by decide), if_pos (by decide)]
  have hca : akA [] (askN 23 k a b n) [] = 2 := by
    unfold akA
    rw [hl, f1, f2', show ([] : List Dc).length = 0 from rfl, fsc_nil, if_neg (by decide), if_pos (by decide)]
  have hm : meC [] (askN 23 k a b n) [] [] = 3 := by unfold meC; rw [hc, if_neg (by decide)]
  have hma : meA [] (askN 23 k a b n) [] [] = 2 := by unfold meA; rw [hc, hca, if_neg (by decide)]
  unfold mvR
  rw [hm, hma, if_neg (by decide)]
/-- What the third node means. -/
def wmF (op k a b n : Int) : Int := if op = 22 then (if a < b then 1 else 0) else wrdF op (if op = 23 then n else 0) (mds (10 + k)) (if op = 16 ∨ op = 23 then [(a, 1)] else [(a, 1), (b, 1)])
theorem ask_ok (o1 : 16 ≤ op) (o2 : op ≤ 23) (hn : badN op n = false) : mvR [] (askN op k a b n) [] [] = .ok [whV a, whV b, whV (wmF op k a b n)] := by
  obtain ⟨s2, c0, c1⟩ := ask_srt (op := op) (n := n) k1 k8 a0 ha b0 hb
  obtain ⟨n2, t2⟩ := nd_op k1 k8 o1 o2 hn
  have c2 : nC [] (askN op k a b n) 2 = 0 := by rw [ask_c2 k1 k8 a0 ha b0 hb]; exact n2
  obtain ⟨f1, _⟩ := fsc_three c0 c1
  rw [c2] at f1
  have hl : (askN op k a b n).length = 3 := rfl
  have hc : akC [] (askN op k a b n) [] = 0 := by
    unfold akC
    rw [hl, f1, show ([] : List Dc).length = 0 from rfl, show ([] : List Int).length = 0 from rfl, fsc_nil, fsc_nil, if_neg (by decide), if_neg (by decide)]
  have hm : meC [] (askN op k a b n) [] [] = 0 := by
    unfold meC
    rw [hc, if_pos rfl, show ([] : List Dc).length = 0 from rfl, show ([] : List Mg).length = 0 from rfl, if_pos rfl, fsc_nil]
  have s3 : srtL [] (askN op k a b n) 3 = [10 + k, 10 + k, if op = 22 then 1 else 10 + k] := by
    have n2' : nn (askN op k a b n) 2 = xN op n := rfl
    unfold srtL ndS
    rw [s2, n2', n2, if_pos rfl, t2]
    rfl
  have S1 : ¬ (10 + k) = 1 := by omega
  have e0 : evOf [] (askN op k a b n) [] 0 [] = (whV a, 0) := by
    unfold evOf
    rw [hl, s3]
    show evV 15 (10 + k) a k _ _ = _
    unfold evV evF
    rw [if_neg (by decide), if_neg (by decide), if_neg (by decide), if_neg (by decide), if_neg (by decide), if_neg S1]
    rfl
  have e1 : evOf [] (askN op k a b n) [] 1 [whV a] = (whV b, 0) := by
    unfold evOf
    rw [hl, s3]
    show evV 15 (10 + k) b k _ _ = _
    unfold evV evF
    rw [if_neg (by decide), if_neg (by decide), if_neg (by decide), if_neg (by decide), if_neg (by decide), if_neg S1]
    rfl
  have e2 : evOf [] (askN op k a b n) [] 2 [whV a, whV b] = (whV (wmF op k a b n), 0) := by
    unfold evOf
    rw [hl, s3]
    show evV op (if op = 22 then 1 else 10 + k) (if op = 23 then n else 0) 0 _ _ = _
    have hk : numsOf (kidsV (askN op k a b n) 2 [whV a, whV b]) = if op = 16 ∨ op = 23 then [(a, 1)] else [(a, 1), (b, 1)] := by
      unfold kidsV
      show numsOf ((if op = 16 ∨ op = 23 then [0] else [0, 1] : List Int).map _) = _
      by_cases h : op = 16 ∨ op = 23
      · rw [if_pos h, if_pos h]; rfl
      · rw [if_neg h, if_neg h]; rfl
    unfold evV evF
    rw [hk, if_neg (by omega), if_neg (by omega), if_neg (by omega), if_neg (by omega), if_neg (by omega)]
    unfold wmF
    by_cases h : op = 22
    · subst h
      have hfs : (if (22 : Int) = 16 ∨ (22 : Int) = 23 then [(a, (1 : Int))] else [(a, 1), (b, 1)]) = [(a, 1), (b, 1)] := if_neg (by decide)
      rw [hfs]
      have : truF 22 [(a, 1), (b, 1)] = decide (a < b) := by simp [truF, ltF, cn]
      rw [this]
      by_cases q : a < b
      · simp [q]
      · simp [q]
    · rw [if_neg h, if_neg S1, if_neg h]
  unfold mvR
  rw [hm, if_pos rfl, hl]
  unfold valsE valsE valsE valsE
  simp only
  rw [e0]
  simp only [if_pos]
  rw [show ([] : List Vl) ++ [whV a] = [whV a] from rfl, e1]
  simp only [if_pos]
  rw [show [whV a] ++ [whV b] = [whV a, whV b] from rfl, e2]
  rfl
end
end Go.Proofs.YtibpgcdaommjeaaGreatDoor
