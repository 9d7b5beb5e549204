/-
  Asks: the first fault, stage by stage.
-/
import Derived.Test.YtjjjgffpmghfgaaAskU
import Derived.Test.YtjjjgffpmghfgaaAskW
namespace Go.Proofs.Ytjjjgffpmghfgaa
open Go.RowKit

theorem ak_L {qs : List Dc} {ns : List Nd} {hs : List Int} {c : Int} (h : akC qs ns hs = c) (hc : c ≠ 0) : akL qs ns hs = [] := by
  unfold akL; rw [h, if_neg hc]
theorem fs_many {code : Nat → Int} {n lim : Nat} (h : lim < n) : fsC code n lim = 2 ∧ fsA code n lim = 0 := by
  unfold fsC fsA; rw [if_pos h, if_pos h]; exact ⟨rfl, rfl⟩
theorem fs_at {code : Nat → Int} {n lim i : Nat} (h : n ≤ lim) (hi : i < n) (hp : ∀ j, j < i → code j = 0) (hc : code i ≠ 0) : fsC code n lim = code i ∧ fsA code n lim = i := by
  have e := fs_hit hi hp hc
  unfold fsC fsA; rw [e, if_neg (by omega), if_pos hi, if_neg (by omega), if_pos hi]; exact ⟨rfl, rfl⟩
theorem fs_ok {code : Nat → Int} {n lim : Nat} (h : n ≤ lim) (hp : ∀ j, j < n → code j = 0) : fsC code n lim = 0 ∧ fsA code n lim = 0 := by
  have e := fs_miss hp
  unfold fsC fsA; rw [e, if_neg (by omega), if_neg (by omega), if_neg (by omega), if_neg (by omega)]; exact ⟨rfl, rfl⟩
theorem ak1 {qs : List Dc} {ns : List Nd} {hs : List Int} {c a : Int} (h : fsC (dcC qs) qs.length 30 = c ∧ fsA (dcC qs) qs.length 30 = a) (hc : c ≠ 0) : akC qs ns hs = c ∧ akA qs ns hs = a ∧ akL qs ns hs = [] := by
  have e : akC qs ns hs = c := by unfold akC; rw [h.1, if_pos hc]
  exact ⟨e, by unfold akA; rw [h.1, if_pos hc, h.2], ak_L e hc⟩
theorem ak2 {qs : List Dc} {ns : List Nd} {hs : List Int} {c a : Int} (h0 : fsC (dcC qs) qs.length 30 = 0) (h : fsC (nC qs ns) ns.length 200 = c ∧ fsA (nC qs ns) ns.length 200 = a) (hc : c ≠ 0) : akC qs ns hs = c ∧ akA qs ns hs = a ∧ akL qs ns hs = [] := by
  have e : akC qs ns hs = c := by unfold akC; rw [h0, if_neg (by simp), h.1, if_pos hc]
  exact ⟨e, by unfold akA; rw [h0, if_neg (by simp), h.1, if_pos hc, h.2], ak_L e hc⟩
theorem ak3 {qs : List Dc} {ns : List Nd} {hs : List Int} {c a : Int} (h0 : fsC (dcC qs) qs.length 30 = 0) (h1 : fsC (nC qs ns) ns.length 200 = 0) (h : fsC (hC qs ns hs) hs.length 200 = c ∧ fsA (hC qs ns hs) hs.length 200 = a) (hc : c ≠ 0) : akC qs ns hs = c ∧ akA qs ns hs = a ∧ akL qs ns hs = [] := by
  have e : akC qs ns hs = c := by unfold akC; rw [h0, if_neg (by simp), h1, if_neg (by simp), h.1]
  exact ⟨e, by unfold akA; rw [h0, if_neg (by simp), h1, if_neg (by simp), h.2], ak_L e hc⟩
theorem ak4 {qs : List Dc} {ns : List Nd} {hs : List Int} (h0 : fsC (dcC qs) qs.length 30 = 0) (h1 : fsC (nC qs ns) ns.length 200 = 0) (h : fsC (hC qs ns hs) hs.length 200 = 0 ∧ fsA (hC qs ns hs) hs.length 200 = 0) : akC qs ns hs = 0 ∧ akA qs ns hs = 0 ∧ akL qs ns hs = srtL qs ns ns.length := by
  have e : akC qs ns hs = 0 := by unfold akC; rw [h0, if_neg (by simp), h1, if_neg (by simp), h.1]
  exact ⟨e, by unfold akA; rw [h0, if_neg (by simp), h1, if_neg (by simp), h.2], by unfold akL; rw [e, if_pos rfl]⟩
theorem nd_split {qs : List Dc} {q : Nd} {i : Nat} {sorts : List Int} (h1 : ¬ (q.op < 1 ∨ 25 < q.op)) (h2 : ¬ (q.op = 9 ∧ fdZ qs q.name < 0)) :
    ndC qs q i sorts = if kdC qs q i ≠ 0 then kdC qs q i else if flC q.op q.n q.d q.name.toList.isEmpty ≠ 0 then flC q.op q.n q.d q.name.toList.isEmpty else if ndT qs q sorts = 0 then 8 else 0 := by
  unfold ndC kdC
  rw [if_neg h1, if_neg h2]
  by_cases a : 8 < q.kids.length ∨ (kWant qs q ≠ -1 ∧ (q.kids.length : Int) ≠ kWant qs q)
  · rw [if_pos a, if_pos a]; rfl
  · rw [if_neg a, if_neg a]
    by_cases b : kIn i q.kids = false
    · rw [if_pos b, if_pos b]; rfl
    · rw [if_neg b, if_neg b]; rfl
theorem kd_zero {qs : List Dc} {q : Nd} {i : Nat} (h : kdC qs q i = 0) : q.kids.length ≤ 8 ∧ (q.op ≠ 9 → kcN q.op = -1 ∨ kcN q.op = q.kids.length) ∧ kIn i q.kids = true := by
  unfold kdC at h
  by_cases a : 8 < q.kids.length ∨ (kWant qs q ≠ -1 ∧ (q.kids.length : Int) ≠ kWant qs q)
  · rw [if_pos a] at h; cases h
  · rw [if_neg a] at h
    by_cases b : kIn i q.kids = false
    · rw [if_pos b] at h; cases h
    · refine ⟨by omega, fun h9 => ?_, by simpa using b⟩
      have e : kWant qs q = kcN q.op := by unfold kWant; rw [if_neg h9]
      rw [e] at a
      omega
end Go.Proofs.Ytjjjgffpmghfgaa
