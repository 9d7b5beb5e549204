/-
  Asks: the letters that the reference goes by.
  Asks: how many kids a node has, and which, by the reference.
  Asks: the first fault, stage by stage.
-/
import Derived.Test.YtibpgcdaommjeaaG11
import Derived.Test.YtibpgcdaommjeaaG12
import Derived.Test.YtibpgcdaommjeaaG13
namespace Go.Proofs.Ytibpgcdaommjeaa
open Go.RowKit

/-- The letters of an operator's kids. -/
def wtB (op : Int) : ByteArray :=
  if op = 3 then ⟨#[98]⟩ else
  if op = 4 then ⟨#[98, 42]⟩ else
  if op = 5 then ⟨#[98, 42]⟩ else
  if op = 6 then ⟨#[98, 98]⟩ else
  if op = 7 then ⟨#[98, 120, 121]⟩ else
  if op = 8 then ⟨#[63, 63]⟩ else
  if op = 11 then ⟨#[110, 42]⟩ else
  if op = 12 then ⟨#[110]⟩ else
  if op = 13 then ⟨#[110, 110]⟩ else
  if op = 14 then ⟨#[110, 110]⟩ else
  if op = 16 then ⟨#[119]⟩ else
  if op = 17 then ⟨#[119, 119]⟩ else
  if op = 18 then ⟨#[119, 119]⟩ else
  if op = 19 then ⟨#[119, 119]⟩ else
  if op = 20 then ⟨#[119, 119]⟩ else
  if op = 21 then ⟨#[119, 119]⟩ else
  if op = 22 then ⟨#[119, 119]⟩ else
  if op = 23 then ⟨#[119]⟩ else
  if op = 24 then ⟨#[97, 116]⟩ else
  if op = 25 then ⟨#[97, 116, 116]⟩ else
  ⟨#[]⟩
/-- May a kid of a sort stand for a letter? -/
def ftC (c s : Int) : Bool := if c = 98 then sBo s else if c = 110 then sNu s else if c = 116 then sTh s else if c = 97 then s == 5 else if c = 119 then decide (0 < wBits s) else true
end Go.Proofs.Ytibpgcdaommjeaa
namespace Go.Proofs.Ytibpgcdaommjeaa
open Go.RowKit

/-- Does the list of letters end in a star? -/
def stB (s : ByteArray) : Bool := decide (0 < s.size) && (bs s (s.size - 1) == 42)
theorem wt_star {op : Int} (h1 : 1 ≤ op) (h2 : op ≤ 25) (h9 : op ≠ 9) : (stB (wtB op) = true ∧ kcN op = -1) ∨ (stB (wtB op) = false ∧ kcN op = ((wtB op).size : Int)) := by
  rcases op_cases h1 h2 with rfl | rfl | rfl | rfl | rfl | rfl | rfl | rfl | rfl | rfl | rfl | rfl | rfl | rfl | rfl | rfl | rfl | rfl | rfl | rfl | rfl | rfl | rfl | rfl | rfl <;> first | exact absurd rfl h9 | (left; decide) | (right; decide)
theorem wt_small {op : Int} (h1 : 1 ≤ op) (h2 : op ≤ 25) : (wtB op).size ≤ 3 := by
  rcases op_cases h1 h2 with rfl | rfl | rfl | rfl | rfl | rfl | rfl | rfl | rfl | rfl | rfl | rfl | rfl | rfl | rfl | rfl | rfl | rfl | rfl | rfl | rfl | rfl | rfl | rfl | rfl <;> decide
/-- What is wrong with a node's kids: how many there are, and which. -/
def kdC (qs : List Dc) (q : Nd) (i : Nat) : Int :=
  if 8 < q.kids.length ∨ (kWant qs q ≠ -1 ∧ (q.kids.length : Int) ≠ kWant qs q) then 9 else if kIn i q.kids = false then 3 else 0
theorem kin_not {i : Nat} {ks : List Int} {j : Nat} (hj : j < ks.length) (h : nth ks j < 0 ∨ (i : Int) ≤ nth ks j) : kIn i ks = false := by
  unfold kIn
  exact not_all hj (by simp; omega)
theorem kin_all {i : Nat} {ks : List Int} (h : ∀ j, j < ks.length → 0 ≤ nth ks j ∧ nth ks j < i) : kIn i ks = true := by
  unfold kIn
  exact all_of fun j hj => by simpa using h j hj
end Go.Proofs.Ytibpgcdaommjeaa
namespace Go.Proofs.Ytibpgcdaommjeaa
open Go.RowKit

theorem ak_L {qs : List Dc} {ns : List Nd} {hs : List Int} {c : Int} (h : akC qs ns hs = c) (hc : c ≠ 0) : akL qs ns hs = [] := by
  unfold akL; rw [h, if_neg hc]
theorem fs_many {code : Nat → Int} {n lim : Nat} (h : lim < n) : fsC code n lim = 2 ∧ fsA code n lim = 0 := by
  unfold fsC fsA; rw [if_pos h, if_pos h]; exact ⟨rfl, rfl⟩
theorem fs_at {code : Nat → Int} {n lim i : Nat} (h : n ≤ lim) (hi : i < n) (hp : ∀ j, j < i → code j = 0) (hc : code i ≠ 0) : fsC code n lim = code i ∧ fsA code n lim = i := by
  have e := fs_hit hi hp hc
  unfold fsC fsA; rw [e, if_neg (by omega), if_pos hi, if_neg (by omega), if_pos hi]; exact ⟨rfl, rfl⟩
theorem fs_ok {code : Nat → Int} {n lim : Nat} (h : n ≤ lim) (hp : ∀ j, j < n → code j = 0) : fsC code n lim = 0 ∧ fsA code n lim = 0 := by
  have e := fs_miss hp
  unfold fsC fsA; rw [e, if_neg (by omega), if_neg (by omega), if_neg (by omega), if_neg (by omega)]; exact ⟨rfl, rfl⟩
theorem ak1 {qs : List Dc} {ns : List Nd} {hs : List Int} {c a : Int} (h : fsC (dcC qs) qs.length 30 = c ∧ fsA (dcC qs) qs.length 30 = a) (hc : c ≠ 0) : akC qs ns hs = c ∧ akA qs ns hs = a ∧ akL qs ns hs = [] := by
  have e : akC qs ns hs = c := by unfold akC; rw [h.1, if_pos hc]
  exact ⟨e, by unfold akA; rw [h.1, if_pos hc, h.2], ak_L e hc⟩
theorem ak2 {qs : List Dc} {ns : List Nd} {hs : List Int} {c a : Int} (h0 : fsC (dcC qs) qs.length 30 = 0) (h : fsC (nC qs ns) ns.length 200 = c ∧ fsA (nC qs ns) ns.length 200 = a) (hc : c ≠ 0) : akC qs ns hs = c ∧ akA qs ns hs = a ∧ akL qs ns hs = [] := by
  have e : akC qs ns hs = c := by unfold akC; rw [h0, if_neg (by simp), h.1, if_pos hc]
  exact ⟨e, by unfold akA; rw [h0, if_neg (by simp), h.1, if_pos hc, h.2], ak_L e hc⟩
theorem ak3 {qs : List Dc} {ns : List Nd} {hs : List Int} {c a : Int} (h0 : fsC (dcC qs) qs.length 30 = 0) (h1 : fsC (nC qs ns) ns.length 200 = 0) (h : fsC (hC qs ns hs) hs.length 200 = c ∧ fsA (hC qs ns hs) hs.length 200 = a) (hc : c ≠ 0) : akC qs ns hs = c ∧ akA qs ns hs = a ∧ akL qs ns hs = [] := by
  have e : akC qs ns hs = c := by unfold akC; rw [h0, if_neg (by simp), h1, if_neg (by simp), h.1]
  exact ⟨e, by unfold akA; rw [h0, if_neg (by simp), h1, if_neg (by simp), h.2], ak_L e hc⟩
theorem ak4 {qs : List Dc} {ns : List Nd} {hs : List Int} (h0 : fsC (dcC qs) qs.length 30 = 0) (h1 : fsC (nC qs ns) ns.length 200 = 0) (h : fsC (hC qs ns hs) hs.length 200 = 0 ∧ fsA (hC qs ns hs) hs.length 200 = 0) : akC qs ns hs = 0 ∧ akA qs ns hs = 0 ∧ akL qs ns hs = srtL qs ns ns.length := by
  have e : akC qs ns hs = 0 := by unfold akC; rw [h0, if_neg (by simp), h1, if_neg (by simp), h.1]
  exact ⟨e, by unfold akA; rw [h0, if_neg (by simp), h1, if_neg (by simp), h.2], by unfold akL; rw [e, if_pos rfl]⟩
theorem nd_split {qs : List Dc} {q : Nd} {i : Nat} {sorts : List Int} (h1 : ¬ (q.op < 1 ∨ 25 < q.op)) (h2 : ¬ (q.op = 9 ∧ fdZ qs q.name < 0)) :
    ndC qs q i sorts = if kdC qs q i ≠ 0 then kdC qs q i else if flC q.op q.n q.d q.name.toList.isEmpty ≠ 0 then flC q.op q.n q.d q.name.toList.isEmpty else if ndT qs q sorts = 0 then 8 else 0 := by
  unfold ndC kdC
  rw [if_neg h1, if_neg h2]
  by_cases a : 8 < q.kids.length ∨ (kWant qs q ≠ -1 ∧ (q.kids.length : Int) ≠ kWant qs q)
  · rw [if_pos a, if_pos a]; rfl
  · rw [if_neg a, if_neg a]
    by_cases b : kIn i q.kids = false
    · rw [if_pos b, if_pos b]; rfl
    · rw [if_neg b, if_neg b]; rfl
theorem kd_zero {qs : List Dc} {q : Nd} {i : Nat} (h : kdC qs q i = 0) : q.kids.length ≤ 8 ∧ (q.op ≠ 9 → kcN q.op = -1 ∨ kcN q.op = q.kids.length) ∧ kIn i q.kids = true := by
  unfold kdC at h
  by_cases a : 8 < q.kids.length ∨ (kWant qs q ≠ -1 ∧ (q.kids.length : Int) ≠ kWant qs q)
  · rw [if_pos a] at h; cases h
  · rw [if_neg a] at h
    by_cases b : kIn i q.kids = false
    · rw [if_pos b] at h; cases h
    · refine ⟨by omega, fun h9 => ?_, by simpa using b⟩
      have e : kWant qs q = kcN q.op := by unfold kWant; rw [if_neg h9]
      rw [e] at a
      omega
end Go.Proofs.Ytibpgcdaommjeaa
