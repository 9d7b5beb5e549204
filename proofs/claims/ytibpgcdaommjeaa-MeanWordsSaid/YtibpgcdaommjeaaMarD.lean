/-
  MeanWords: what its ask is worth in any good world: words are reckoned as numbers.
-/
import Derived.Test.YtibpgcdaommjeaaMarB
namespace Go.Proofs.Ytibpgcdaommjeaa
open Go.RowKit

/-- Its nodes. -/
def woN : List Nd := [⟨9, [], 0, 0, ⟨#[118]⟩⟩, ⟨9, [], 0, 0, ⟨#[119]⟩⟩, ⟨20, [0, 1], 0, 0, ⟨#[]⟩⟩, ⟨19, [0, 1], 0, 0, ⟨#[]⟩⟩, ⟨17, [0, 1], 0, 0, ⟨#[]⟩⟩, ⟨23, [4], 1, 0, ⟨#[]⟩⟩, ⟨20, [3, 5], 0, 0, ⟨#[]⟩⟩, ⟨8, [2, 6], 0, 0, ⟨#[]⟩⟩, ⟨16, [0], 0, 0, ⟨#[]⟩⟩, ⟨20, [0, 8], 0, 0, ⟨#[]⟩⟩, ⟨15, [], 7, 3, ⟨#[]⟩⟩, ⟨8, [9, 10], 0, 0, ⟨#[]⟩⟩, ⟨15, [], 3, 3, ⟨#[]⟩⟩, ⟨21, [0, 12], 0, 0, ⟨#[]⟩⟩, ⟨23, [0], 1, 0, ⟨#[]⟩⟩, ⟨20, [0, 14], 0, 0, ⟨#[]⟩⟩, ⟨8, [13, 15], 0, 0, ⟨#[]⟩⟩]
theorem wo_ak : akC dqs woN [] = 0 := by decide +kernel
theorem wo_srt : srtL dqs woN woN.length = [13, 13, 13, 13, 13, 13, 13, 1, 13, 13, 13, 1, 13, 13, 13, 13, 1] := by decide +kernel
theorem word3_val {v : Vl} (h : gdV 13 v = true) : v.den = 1 ∧ 0 ≤ v.num ∧ v.num ≤ 7 := by
  obtain ⟨_, _, c⟩ := (gdv_w (by decide)).1 h
  obtain ⟨_, d⟩ := gdn_iff.1 c
  have e : grt 13 = 7 := by decide
  rw [e] at d
  rcases d with d | ⟨d1, d | d⟩
  · exact absurd d (by decide)
  · exact absurd d (by decide)
  · exact ⟨d1, d⟩
theorem wo_sound {ms : List Mg} (i : Nat) (vs : List Vl) (hi : i < 17) : (evOf dqs woN ms i vs).2 = 0 := by
  unfold evOf
  rcases (show i = 0 ∨ i = 1 ∨ i = 2 ∨ i = 3 ∨ i = 4 ∨ i = 5 ∨ i = 6 ∨ i = 7 ∨ i = 8 ∨ i = 9 ∨ i = 10 ∨ i = 11 ∨ i = 12 ∨ i = 13 ∨ i = 14 ∨ i = 15 ∨ i = 16 by omega) with rfl | rfl | rfl | rfl | rfl | rfl | rfl | rfl | rfl | rfl | rfl | rfl | rfl | rfl | rfl | rfl | rfl
  all_goals first | rfl | (rw [wo_srt]; rfl)
/-- Words of three bits: the three laws. -/
def woF (x y : Int) : Bool :=
  (wrdF 20 0 8 [(x, 1), (y, 1)] == wrdF 20 0 8 [(wrdF 19 0 8 [(x, 1), (y, 1)], 1), (wrdF 23 1 8 [(wrdF 17 0 8 [(x, 1), (y, 1)], 1)], 1)]) && wrdF 20 0 8 [(x, 1), (wrdF 16 0 8 [(x, 1)], 1)] == 7 &&
  wrdF 21 0 8 [(x, 1), (3, 1)] == wrdF 20 0 8 [(x, 1), (wrdF 23 1 8 [(x, 1)], 1)]
theorem wof_all : ((List.range 8).all fun x => (List.range 8).all fun y => woF x y) = true := by decide +kernel
theorem wof {x y : Int} (h1 : 0 ≤ x) (h2 : x ≤ 7) (h3 : 0 ≤ y) (h4 : y ≤ 7) : woF x y = true := by
  have := List.all_eq_true.1 (List.all_eq_true.1 wof_all x.toNat (List.mem_range.2 (by omega))) y.toNat (List.mem_range.2 (by omega))
  rwa [Int.toNat_of_nonneg h1, Int.toNat_of_nonneg h3] at this
theorem same_one {p q : Int × Int} (h : p = q) : (whV (if eqF p q then 1 else 0)).num = 1 := by
  subst h
  simp [eqF, whV]
theorem wo_last {ms : List Mg} (h0 : meC dqs woN [] ms = 0) : ∃ vs, valsE (evOf dqs woN ms) 17 = .ok vs ∧ vs.length = 17 ∧ (vn vs 7).num = 1 ∧ (vn vs 11).num = 1 ∧ (vn vs 16).num = 1 := by
  obtain ⟨vs, hv⟩ := vals_some (ev := evOf dqs woN ms) (n := 17) fun i vs hi => wo_sound i vs hi
  refine ⟨vs, hv, valsE_len hv, ?_⟩
  have gd := vals_good (nd_known h0).2 (Nat.le_refl _) hv
  obtain ⟨d0, x0, x7⟩ := word3_val (by have := gd 0 (by decide); rwa [wo_srt] at this)
  obtain ⟨d1, y0, y7⟩ := word3_val (by have := gd 1 (by decide); rwa [wo_srt] at this)
  have v2 : vn vs 2 = whV (wrdF 20 0 8 [((vn vs 0).num, (vn vs 0).den), ((vn vs 1).num, (vn vs 1).den)]) := (one_val hv (i := 2) (by decide) (by decide)).trans (by rw [wo_srt]; rfl)
  have v3 : vn vs 3 = whV (wrdF 19 0 8 [((vn vs 0).num, (vn vs 0).den), ((vn vs 1).num, (vn vs 1).den)]) := (one_val hv (i := 3) (by decide) (by decide)).trans (by rw [wo_srt]; rfl)
  have v4 : vn vs 4 = whV (wrdF 17 0 8 [((vn vs 0).num, (vn vs 0).den), ((vn vs 1).num, (vn vs 1).den)]) := (one_val hv (i := 4) (by decide) (by decide)).trans (by rw [wo_srt]; rfl)
  have v5 : vn vs 5 = whV (wrdF 23 1 8 [((vn vs 4).num, (vn vs 4).den)]) := (one_val hv (i := 5) (by decide) (by decide)).trans (by rw [wo_srt]; rfl)
  have v6 : vn vs 6 = whV (wrdF 20 0 8 [((vn vs 3).num, (vn vs 3).den), ((vn vs 5).num, (vn vs 5).den)]) := (one_val hv (i := 6) (by decide) (by decide)).trans (by rw [wo_srt]; rfl)
  have v7 : vn vs 7 = whV (if eqF ((vn vs 2).num, (vn vs 2).den) ((vn vs 6).num, (vn vs 6).den) then 1 else 0) := (one_val hv (i := 7) (by decide) (by decide)).trans (by rw [wo_srt]; rfl)
  have v8 : vn vs 8 = whV (wrdF 16 0 8 [((vn vs 0).num, (vn vs 0).den)]) := (one_val hv (i := 8) (by decide) (by decide)).trans (by rw [wo_srt]; rfl)
  have v9 : vn vs 9 = whV (wrdF 20 0 8 [((vn vs 0).num, (vn vs 0).den), ((vn vs 8).num, (vn vs 8).den)]) := (one_val hv (i := 9) (by decide) (by decide)).trans (by rw [wo_srt]; rfl)
  have v10 : vn vs 10 = whV (wrdF 15 7 8 []) := (one_val hv (i := 10) (by decide) (by decide)).trans (by rw [wo_srt]; rfl)
  have v11 : vn vs 11 = whV (if eqF ((vn vs 9).num, (vn vs 9).den) ((vn vs 10).num, (vn vs 10).den) then 1 else 0) := (one_val hv (i := 11) (by decide) (by decide)).trans (by rw [wo_srt]; rfl)
  have v12 : vn vs 12 = whV (wrdF 15 3 8 []) := (one_val hv (i := 12) (by decide) (by decide)).trans (by rw [wo_srt]; rfl)
  have v13 : vn vs 13 = whV (wrdF 21 0 8 [((vn vs 0).num, (vn vs 0).den), ((vn vs 12).num, (vn vs 12).den)]) := (one_val hv (i := 13) (by decide) (by decide)).trans (by rw [wo_srt]; rfl)
  have v14 : vn vs 14 = whV (wrdF 23 1 8 [((vn vs 0).num, (vn vs 0).den)]) := (one_val hv (i := 14) (by decide) (by decide)).trans (by rw [wo_srt]; rfl)
  have v15 : vn vs 15 = whV (wrdF 20 0 8 [((vn vs 0).num, (vn vs 0).den), ((vn vs 14).num, (vn vs 14).den)]) := (one_val hv (i := 15) (by decide) (by decide)).trans (by rw [wo_srt]; rfl)
  have v16 : vn vs 16 = whV (if eqF ((vn vs 13).num, (vn vs 13).den) ((vn vs 15).num, (vn vs 15).den) then 1 else 0) := (one_val hv (i := 16) (by decide) (by decide)).trans (by rw [wo_srt]; rfl)
  have F := wof x0 x7 y0 y7
  unfold woF at F
  simp only [Bool.and_eq_true, beq_iff_eq] at F
  obtain ⟨⟨f1, f2⟩, f3⟩ := F
  rw [d0, d1] at v2 v3 v4
  rw [d0] at v8 v9 v13 v14 v15
  rw [v4] at v5
  rw [v3, v5] at v6
  rw [v2, v6] at v7
  rw [v8] at v9
  rw [v9, v10] at v11
  rw [v12] at v13
  rw [v14] at v15
  rw [v13, v15] at v16
  refine ⟨?_, ?_, ?_⟩
  · rw [v7]; exact same_one (Prod.ext f1 rfl)
  · rw [v11]; exact same_one (Prod.ext (f2.trans rfl) rfl)
  · rw [v16]; exact same_one (Prod.ext f3 rfl)
end Go.Proofs.Ytibpgcdaommjeaa
