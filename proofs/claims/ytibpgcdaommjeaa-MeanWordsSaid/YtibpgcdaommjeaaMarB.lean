/-
  MeanArrays: what its ask is worth in any good world: what was put is got, and all else is as it was.
-/
import Derived.Test.YtibpgcdaommjeaaG23
import Derived.Test.YtibpgcdaommjeaaG24
namespace Go.Proofs.Ytibpgcdaommjeaa
open Go.RowKit

theorem vals_some {ev : Nat → List Vl → Vl × Int} : ∀ {n : Nat}, (∀ i vs, i < n → (ev i vs).2 = 0) → ∃ vs, valsE ev n = .ok vs := by
  intro n
  induction n with
  | zero => intro _; exact ⟨[], rfl⟩
  | succ n ih =>
    intro h
    obtain ⟨vs, hv⟩ := ih fun i vs hi => h i vs (by omega)
    refine ⟨vs ++ [(ev n vs).1], ?_⟩
    rw [valsE_succ, hv]
    dsimp only
    rw [if_pos (h n vs (by omega))]
theorem vals_upto {ev : Nat → List Vl → Vl × Int} : ∀ {n : Nat} {vs : List Vl}, valsE ev n = .ok vs → ∀ k, k ≤ n → valsE ev k = .ok (vs.take k) := by
  intro n
  induction n with
  | zero =>
    intro vs h k hk
    obtain rfl : k = 0 := by omega
    injection h with h
    subst h
    rfl
  | succ n ih =>
    intro vs h k hk
    rw [valsE_succ] at h
    cases hp : valsE ev n with
    | error e => rw [hp] at h; cases h
    | ok us =>
      rw [hp] at h
      dsimp only at h
      split at h
      · rename_i h0
        injection h with h
        subst h
        have hl := valsE_len hp
        rcases Nat.lt_or_ge k (n + 1) with z | z
        · rw [List.take_append_of_le_length (by omega)]
          exact ih hp k (by omega)
        · obtain rfl : k = n + 1 := by omega
          rw [List.take_of_length_le (by rw [List.length_append, hl]; exact Nat.le_refl _), valsE_succ, hp]
          dsimp only
          rw [if_pos h0]
      · cases h
theorem vals_one {ev : Nat → List Vl → Vl × Int} {n : Nat} {vs : List Vl} (h : valsE ev n = .ok vs) {i : Nat} (hi : i < n) : vn vs i = (ev i (vs.take i)).1 := by
  have h1 := vals_upto h (i + 1) (by omega)
  rw [valsE_succ, vals_upto h i (by omega)] at h1
  dsimp only at h1
  split at h1
  · injection h1 with h1
    have hl := valsE_len h
    have e : vn (vs.take i ++ [(ev i (vs.take i)).1]) i = vn (vs.take (i + 1)) i := by rw [h1]
    have e1 : vn (vs.take i ++ [(ev i (vs.take i)).1]) i = (ev i (vs.take i)).1 := by
      unfold vn
      rw [List.getD_eq_getElem?_getD, List.getElem?_append_right (by rw [List.length_take]; omega), List.length_take]
      simp [Nat.min_eq_left (by omega : i ≤ vs.length)]
    have e2 : vn (vs.take (i + 1)) i = vn vs i := by
      unfold vn
      rw [List.getD_eq_getElem?_getD, List.getD_eq_getElem?_getD, List.getElem?_take_of_lt (by omega)]
    rw [e1, e2] at e
    exact e.symm
  · cases h1
theorem one_val {qs : List Dc} {ns : List Nd} {ms : List Mg} {n : Nat} {vs : List Vl} (h : valsE (evOf qs ns ms) n = .ok vs) {i : Nat} (hi : i < n) (hk : ∀ k ∈ (nn ns i).kids, 0 ≤ k ∧ k < i) :
    vn vs i = (evV (nn ns i).op (nth (srtL qs ns ns.length) i) (nn ns i).n (nn ns i).d (mn ms (fdI qs (nn ns i).name)) ((nn ns i).kids.map fun k => vn vs k.toNat)).1 := by
  rw [vals_one h hi]
  unfold evOf
  have e : kidsV ns i (vs.take i) = (nn ns i).kids.map fun k => vn vs k.toNat := by
    unfold kidsV
    apply List.map_congr_left
    intro k hk'
    have := hk k hk'
    unfold vn
    rw [List.getD_eq_getElem?_getD, List.getD_eq_getElem?_getD, List.getElem?_take_of_lt (by omega)]
  rw [e]
theorem find_and {α : Type} {l : List α} {p q : α → Bool} : (l.filter p).find? q = l.find? fun a => p a && q a := by
  rw [List.find?_filter]
  congr 1
  funext a
  simp
/-- What was put is got, and all else is as it was. -/
theorem get_put (v : Vl) (t u c : Int) : getF (putF v t u) c = if c = t then u else getF v c := by
  unfold getF putF
  dsimp only
  rw [List.find?_append, List.find?_append, find_and, find_and]
  by_cases e : c = t
  · subst e
    rw [if_pos rfl]
    have n1 : (v.cells.find? fun a => decide (a.1 < c) && a.1 == c) = none := List.find?_eq_none.2 fun a _ => by
      simp only [Bool.and_eq_true, decide_eq_true_eq, beq_iff_eq]; omega
    have n2 : (v.cells.find? fun a => decide (c < a.1) && a.1 == c) = none := List.find?_eq_none.2 fun a _ => by
      simp only [Bool.and_eq_true, decide_eq_true_eq, beq_iff_eq]; omega
    rw [n1, n2]
    by_cases z : u = v.rest
    · rw [if_pos z]; exact z.symm
    · rw [if_neg z]; simp
  · rw [if_neg e]
    have n3 : (if u = v.rest then ([] : List (Int × Int)) else [(t, u)]).find? (fun a => a.1 == c) = none := by
      split
      · rfl
      · simp [Ne.symm e]
    rw [n3]
    rcases Int.lt_or_lt_of_ne e with z | z
    · have n1 : (v.cells.find? fun a => decide (a.1 < t) && a.1 == c) = v.cells.find? fun a => a.1 == c := by
        congr 1; funext a
        by_cases y : a.1 = c
        · simp [y, z]
        · simp [y]
      have n2 : (v.cells.find? fun a => decide (t < a.1) && a.1 == c) = none := List.find?_eq_none.2 fun a _ => by
        simp only [Bool.and_eq_true, decide_eq_true_eq, beq_iff_eq]; omega
      rw [n1, n2]
      simp
    · have n1 : (v.cells.find? fun a => decide (t < a.1) && a.1 == c) = v.cells.find? fun a => a.1 == c := by
        congr 1; funext a
        by_cases y : a.1 = c
        · simp [y, z]
        · simp [y]
      have n2 : (v.cells.find? fun a => decide (a.1 < t) && a.1 == c) = none := List.find?_eq_none.2 fun a _ => by
        simp only [Bool.and_eq_true, decide_eq_true_eq, beq_iff_eq]; omega
      rw [n1, n2]
      simp
/-- Its nodes. -/
def arN : List Nd := [⟨9, [], 0, 0, ⟨#[109]⟩⟩, ⟨9, [], 0, 0, ⟨#[97]⟩⟩, ⟨9, [], 0, 0, ⟨#[98]⟩⟩, ⟨9, [], 0, 0, ⟨#[99]⟩⟩, ⟨25, [0, 1, 2], 0, 0, ⟨#[]⟩⟩, ⟨24, [4, 3], 0, 0, ⟨#[]⟩⟩, ⟨24, [0, 3], 0, 0, ⟨#[]⟩⟩, ⟨8, [1, 3], 0, 0, ⟨#[]⟩⟩, ⟨7, [7, 2, 6], 0, 0, ⟨#[]⟩⟩, ⟨8, [5, 8], 0, 0, ⟨#[]⟩⟩]
theorem world_zero {ns : List Nd} {ms : List Mg} (h : akC dqs ns [] = 0) (hm : ms.length = 14) (hg : ∀ i, i < 14 → mcF dqs ms i = 0) : meC dqs ns [] ms = 0 := by
  unfold meC
  rw [if_pos h, if_pos (by rw [hm]; rfl)]
  exact (fs_ok (by decide) hg).1
theorem ar_ak : akC dqs arN [] = 0 := by decide +kernel
theorem ar_srt : srtL dqs arN arN.length = [5, 4, 4, 4, 5, 4, 4, 1, 4, 1] := by decide +kernel
theorem thing_val {v : Vl} (h : gdV 4 v = true) : v.den = 1 := by
  obtain ⟨_, _, c⟩ := (gdv_w (by decide)).1 h
  obtain ⟨_, d⟩ := gdn_iff.1 c
  rcases d with d | ⟨d, _⟩
  · exact absurd d (by decide)
  · exact d
theorem ar_sound {ms : List Mg} (i : Nat) (vs : List Vl) (hi : i < 10) : (evOf dqs arN ms i vs).2 = 0 := by
  unfold evOf
  rcases (show i = 0 ∨ i = 1 ∨ i = 2 ∨ i = 3 ∨ i = 4 ∨ i = 5 ∨ i = 6 ∨ i = 7 ∨ i = 8 ∨ i = 9 by omega) with rfl | rfl | rfl | rfl | rfl | rfl | rfl | rfl | rfl | rfl
  all_goals first | rfl | (rw [ar_srt]; rfl)
theorem ar_last {ms : List Mg} (h0 : meC dqs arN [] ms = 0) : ∃ vs, valsE (evOf dqs arN ms) 10 = .ok vs ∧ vs.length = 10 ∧ (vn vs 9).num = 1 := by
  obtain ⟨vs, hv⟩ := vals_some (ev := evOf dqs arN ms) (n := 10) fun i vs hi => ar_sound i vs hi
  refine ⟨vs, hv, valsE_len hv, ?_⟩
  have gd := vals_good (nd_known h0).2 (Nat.le_refl _) hv
  have d1 : (vn vs 1).den = 1 := thing_val (by have := gd 1 (by decide); rwa [ar_srt] at this)
  have d2 : (vn vs 2).den = 1 := thing_val (by have := gd 2 (by decide); rwa [ar_srt] at this)
  have d3 : (vn vs 3).den = 1 := thing_val (by have := gd 3 (by decide); rwa [ar_srt] at this)
  have v4 : vn vs 4 = putF (vn vs 0) (vn vs 1).num (vn vs 2).num := (one_val hv (i := 4) (by decide) (by decide)).trans rfl
  have v5 : vn vs 5 = whV (getF (vn vs 4) (vn vs 3).num) := (one_val hv (i := 5) (by decide) (by decide)).trans rfl
  have v6 : vn vs 6 = whV (getF (vn vs 0) (vn vs 3).num) := (one_val hv (i := 6) (by decide) (by decide)).trans rfl
  have v7 : vn vs 7 = whV (if eqF ((vn vs 1).num, (vn vs 1).den) ((vn vs 3).num, (vn vs 3).den) then 1 else 0) := (one_val hv (i := 7) (by decide) (by decide)).trans (by rw [ar_srt]; rfl)
  have v8 : vn vs 8 = frVl (pickF [((vn vs 7).num, (vn vs 7).den), ((vn vs 2).num, (vn vs 2).den), ((vn vs 6).num, (vn vs 6).den)]) := (one_val hv (i := 8) (by decide) (by decide)).trans rfl
  have v9 : vn vs 9 = whV (if eqF ((vn vs 5).num, (vn vs 5).den) ((vn vs 8).num, (vn vs 8).den) then 1 else 0) := (one_val hv (i := 9) (by decide) (by decide)).trans (by rw [ar_srt]; rfl)
  rw [v4, get_put] at v5
  rw [d1, d3] at v7
  rw [v9, v8, v7, v6, v5, d2]
  by_cases e : (vn vs 3).num = (vn vs 1).num
  · simp [eqF, whV, frVl, pickF, e, cn]
  · have e' : ¬ (vn vs 1).num = (vn vs 3).num := fun z => e z.symm
    simp [eqF, whV, frVl, pickF, e, e', cn]
end Go.Proofs.Ytibpgcdaommjeaa
