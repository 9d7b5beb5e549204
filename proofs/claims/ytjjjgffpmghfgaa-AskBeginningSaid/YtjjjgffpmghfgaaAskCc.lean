/-
  Asks that are made of raw numbers: nodes that may be, with their sorts.
-/
import Derived.Test.YtjjjgffpmghfgaaAskCb
import Derived.Test.YtjjjgffpmghfgaaAskAa
namespace Go.Proofs.Ytjjjgffpmghfgaa
open Go.RowKit

/-- The declared names. -/
def dqs : List Dc :=
  [⟨⟨#[112]⟩, [], 1⟩, ⟨⟨#[113]⟩, [], 1⟩, ⟨⟨#[120]⟩, [], 2⟩, ⟨⟨#[121]⟩, [], 2⟩, ⟨⟨#[114]⟩, [], 3⟩, ⟨⟨#[97]⟩, [], 4⟩, ⟨⟨#[98]⟩, [], 4⟩, ⟨⟨#[99]⟩, [], 4⟩, ⟨⟨#[102]⟩, [4], 4⟩, ⟨⟨#[103]⟩, [4, 4], 1⟩, ⟨⟨#[104]⟩, [4], 2⟩, ⟨⟨#[109]⟩, [], 5⟩, ⟨⟨#[118]⟩, [], 13⟩, ⟨⟨#[119]⟩, [], 13⟩]
theorem dqs_ok : fsC (dcC dqs) dqs.length 30 = 0 ∧ fsA (dcC dqs) dqs.length 30 = 0 := fs_ok (by decide) (by
  have h : (List.range 14).all (fun j => dcC dqs j == 0) = true := by decide +kernel
  intro j hj
  rw [List.all_eq_true] at h
  simpa using h j (List.mem_range.2 hj))
/-- Nodes that may be, and their sorts. -/
def Ok (ns : List Nd) (ss : List Int) : Prop := srtL dqs ns ns.length = ss ∧ ∀ i, i < ns.length → nC dqs ns i = 0
theorem ok_len {ns : List Nd} {ss : List Int} (h : Ok ns ss) : ss.length = ns.length := by rw [← h.1, srtL_len]
theorem srtL_cong {qs : List Dc} {ns ms : List Nd} (i : Nat) (h : ∀ j, j < i → nn ns j = nn ms j) : srtL qs ns i = srtL qs ms i := by
  induction i with
  | zero => rfl
  | succ i ih => rw [srtL, srtL, ih (fun j hj => h j (by omega)), h i (by omega)]
theorem nn_app {ns ms : List Nd} {j : Nat} (h : j < ns.length) : nn (ns ++ ms) j = nn ns j := by simp [nn, List.getD_eq_getElem?_getD, List.getElem?_append_left h]
theorem nn_take {ns : List Nd} {j n : Nat} (h : j < n) : nn (ns.take n) j = nn ns j := by simp [nn, List.getD_eq_getElem?_getD, List.getElem?_take_of_lt h]
theorem nC_cong {qs : List Dc} {ns ms : List Nd} (i : Nat) (h : ∀ j, j < i + 1 → nn ns j = nn ms j) : nC qs ns i = nC qs ms i := by
  unfold nC
  rw [h i (by omega), srtL_cong i (fun j hj => h j (by omega))]
theorem ok_nil : Ok [] [] := ⟨rfl, fun _ hi => absurd hi (Nat.not_lt_zero _)⟩
theorem ok_put {ns : List Nd} {ss : List Int} {q : Nd} {s : Int} (h : Ok ns ss) (hc : ndC dqs q ss.length ss = 0) (hs : ndT dqs q ss = s) : Ok (ns ++ [q]) (ss ++ [s]) := by
  have hl := ok_len h
  have e : srtL dqs (ns ++ [q]) ns.length = ss := by rw [← h.1]; exact srtL_cong _ (fun j hj => nn_app hj)
  have eq : nn (ns ++ [q]) ns.length = q := by simp [nn, List.getD_eq_getElem?_getD]
  refine ⟨?_, fun i hi => ?_⟩
  · rw [List.length_append, List.length_singleton, srtL, e, eq]
    unfold ndS
    rw [← hl, if_pos hc, hs]
  · rw [List.length_append, List.length_singleton] at hi
    by_cases z : i = ns.length
    · subst z
      unfold nC
      rw [e, eq, ← hl]
      exact hc
    · rw [nC_cong i (ms := ns) (fun j hj => nn_app (by omega))]
      exact h.2 i (by omega)
theorem ok_take {ns : List Nd} {ss : List Int} (h : Ok ns ss) {n : Nat} (hn : n ≤ ns.length) : Ok (ns.take n) (ss.take n) := by
  have hl : (ns.take n).length = n := by simp; omega
  refine ⟨?_, fun i hi => ?_⟩
  · rw [hl, srtL_cong n (ms := ns) (fun j hj => nn_take hj), ← h.1]
    have : ∀ m, n ≤ m → (srtL dqs ns m).take n = srtL dqs ns n := by
      intro m hm
      induction m with
      | zero => obtain rfl : n = 0 := by omega
                rfl
      | succ m ih =>
        by_cases z : n = m + 1
        · subst z
          exact List.take_of_length_le (by rw [srtL_len]; exact Nat.le_refl _)
        · rw [srtL, List.take_append_of_le_length (by rw [srtL_len]; omega), ih (by omega)]
    exact (this _ hn).symm
  · rw [hl] at hi
    rw [nC_cong i (ms := ns) (fun j hj => nn_take (by omega))]
    exact h.2 i (by omega)
theorem ask_fine {ns : List Nd} {ss hs : List Int} (h : Ok ns ss) (h1 : ns.length ≤ 200) (h2 : hs.length ≤ 200) (h3 : ∀ i, i < hs.length → 0 ≤ nth hs i ∧ nth hs i < ss.length ∧ nth ss (nth hs i).toNat = 1) : akC dqs ns hs = 0 ∧ akA dqs ns hs = 0 ∧ akL dqs ns hs = ss := by
  have := ak4 (hs := hs) dqs_ok.1 (fs_ok (code := nC dqs ns) (lim := 200) h1 h.2).1 (fs_ok h2 (fun i hi => by
    unfold hC hdC
    rw [h.1]
    obtain ⟨a, b, c⟩ := h3 i hi
    rw [if_neg (by omega), if_neg (by rw [c]; simp)]))
  rw [h.1] at this
  exact this
theorem nd_ok {q : Nd} {ss : List Int} {s : Int} (h1 : 1 ≤ q.op ∧ q.op ≤ 25) (h2 : q.op = 9 → 0 ≤ fdZ dqs q.name) (h3 : q.kids.length ≤ 8) (h4 : kWant dqs q = -1 ∨ (q.kids.length : Int) = kWant dqs q) (h5 : ∀ k ∈ q.kids, 0 ≤ k ∧ k < ss.length) (h6 : flC q.op q.n q.d q.name.toList.isEmpty = 0) (h7 : ndT dqs q ss = s) (h8 : s ≠ 0) :
    ndC dqs q ss.length ss = 0 ∧ ndT dqs q ss = s := by
  refine ⟨?_, h7⟩
  unfold ndC
  have hk : kIn ss.length q.kids = true := by
    unfold kIn
    rw [List.all_eq_true]
    intro k hk
    have := h5 k hk
    simp
    omega
  rw [if_neg (by omega), if_neg (fun z => by have := h2 z.1; omega), if_neg (by
    rintro (z | z)
    · omega
    · rcases h4 with y | y
      · exact z.1 y
      · exact z.2 y), if_neg (by rw [hk]; decide), if_neg (by rw [h6]; decide), if_neg (by rw [h7]; exact h8)]
/-- A node without kids that names something. -/
theorem nd_name {nm : ByteArray} {ss : List Int} {s : Int} (h : fdZ dqs nm = fdI dqs nm ∧ (dn dqs (fdI dqs nm)).args = [] ∧ (dn dqs (fdI dqs nm)).sort = s ∧ nm.toList.isEmpty = false) (hs : s ≠ 0) : ndC dqs ⟨9, [], 0, 0, nm⟩ ss.length ss = 0 ∧ ndT dqs ⟨9, [], 0, 0, nm⟩ ss = s := by
  obtain ⟨a, b, c, d⟩ := h
  refine nd_ok (by simp) (fun _ => by rw [a]; omega) (by simp) (.inr (by simp [kWant, b])) (by simp) (by simp [flC, d]) ?_ hs
  simp [ndT, kSo, srt, kDs, c, whn]
theorem nm_p : fdZ dqs ⟨#[112]⟩ = fdI dqs ⟨#[112]⟩ ∧ (dn dqs (fdI dqs ⟨#[112]⟩)).args = [] ∧ (dn dqs (fdI dqs ⟨#[112]⟩)).sort = 1 ∧ (⟨#[112]⟩ : ByteArray).toList.isEmpty = false := by decide +kernel
theorem nm_q : fdZ dqs ⟨#[113]⟩ = fdI dqs ⟨#[113]⟩ ∧ (dn dqs (fdI dqs ⟨#[113]⟩)).args = [] ∧ (dn dqs (fdI dqs ⟨#[113]⟩)).sort = 1 ∧ (⟨#[113]⟩ : ByteArray).toList.isEmpty = false := by decide +kernel
theorem nm_x : fdZ dqs ⟨#[120]⟩ = fdI dqs ⟨#[120]⟩ ∧ (dn dqs (fdI dqs ⟨#[120]⟩)).args = [] ∧ (dn dqs (fdI dqs ⟨#[120]⟩)).sort = 2 ∧ (⟨#[120]⟩ : ByteArray).toList.isEmpty = false := by decide +kernel
theorem nm_y : fdZ dqs ⟨#[121]⟩ = fdI dqs ⟨#[121]⟩ ∧ (dn dqs (fdI dqs ⟨#[121]⟩)).args = [] ∧ (dn dqs (fdI dqs ⟨#[121]⟩)).sort = 2 ∧ (⟨#[121]⟩ : ByteArray).toList.isEmpty = false := by decide +kernel
theorem nm_r : fdZ dqs ⟨#[114]⟩ = fdI dqs ⟨#[114]⟩ ∧ (dn dqs (fdI dqs ⟨#[114]⟩)).args = [] ∧ (dn dqs (fdI dqs ⟨#[114]⟩)).sort = 3 ∧ (⟨#[114]⟩ : ByteArray).toList.isEmpty = false := by decide +kernel
theorem nm_a : fdZ dqs ⟨#[97]⟩ = fdI dqs ⟨#[97]⟩ ∧ (dn dqs (fdI dqs ⟨#[97]⟩)).args = [] ∧ (dn dqs (fdI dqs ⟨#[97]⟩)).sort = 4 ∧ (⟨#[97]⟩ : ByteArray).toList.isEmpty = false := by decide +kernel
theorem nm_b : fdZ dqs ⟨#[98]⟩ = fdI dqs ⟨#[98]⟩ ∧ (dn dqs (fdI dqs ⟨#[98]⟩)).args = [] ∧ (dn dqs (fdI dqs ⟨#[98]⟩)).sort = 4 ∧ (⟨#[98]⟩ : ByteArray).toList.isEmpty = false := by decide +kernel
theorem nm_c : fdZ dqs ⟨#[99]⟩ = fdI dqs ⟨#[99]⟩ ∧ (dn dqs (fdI dqs ⟨#[99]⟩)).args = [] ∧ (dn dqs (fdI dqs ⟨#[99]⟩)).sort = 4 ∧ (⟨#[99]⟩ : ByteArray).toList.isEmpty = false := by decide +kernel
theorem nm_m : fdZ dqs ⟨#[109]⟩ = fdI dqs ⟨#[109]⟩ ∧ (dn dqs (fdI dqs ⟨#[109]⟩)).args = [] ∧ (dn dqs (fdI dqs ⟨#[109]⟩)).sort = 5 ∧ (⟨#[109]⟩ : ByteArray).toList.isEmpty = false := by decide +kernel
theorem nm_v : fdZ dqs ⟨#[118]⟩ = fdI dqs ⟨#[118]⟩ ∧ (dn dqs (fdI dqs ⟨#[118]⟩)).args = [] ∧ (dn dqs (fdI dqs ⟨#[118]⟩)).sort = 13 ∧ (⟨#[118]⟩ : ByteArray).toList.isEmpty = false := by decide +kernel
theorem nm_w : fdZ dqs ⟨#[119]⟩ = fdI dqs ⟨#[119]⟩ ∧ (dn dqs (fdI dqs ⟨#[119]⟩)).args = [] ∧ (dn dqs (fdI dqs ⟨#[119]⟩)).sort = 13 ∧ (⟨#[119]⟩ : ByteArray).toList.isEmpty = false := by decide +kernel
theorem nd_tf {ss : List Int} (k : Int) (h : 0 ≤ k ∧ k < 2) : ndC dqs ⟨1 + k, [], 0, 0, ⟨#[]⟩⟩ ss.length ss = 0 ∧ ndT dqs ⟨1 + k, [], 0, 0, ⟨#[]⟩⟩ ss = 1 := by
  have h2 : k = 0 ∨ k = 1 := by omega
  rcases h2 with rfl | rfl
  all_goals exact nd_ok (by simp) (fun z => absurd z (by simp)) (by simp) (.inr (by simp [kWant, kcN])) (by simp) (by decide +kernel) (by simp [ndT, kSo, srt, whn]) (by decide)
theorem nd_int {ss : List Int} (k : Int) (h : 0 ≤ k ∧ k < 7) : ndC dqs ⟨10, [], k - 3, 1, ⟨#[]⟩⟩ ss.length ss = 0 ∧ ndT dqs ⟨10, [], k - 3, 1, ⟨#[]⟩⟩ ss = 2 := by
  have h2 : k = 0 ∨ k = 1 ∨ k = 2 ∨ k = 3 ∨ k = 4 ∨ k = 5 ∨ k = 6 := by omega
  rcases h2 with rfl | rfl | rfl | rfl | rfl | rfl | rfl
  all_goals exact nd_ok (by simp) (fun z => absurd z (by simp)) (by simp) (.inr (by simp [kWant, kcN])) (by simp) (by decide +kernel) (by simp [ndT, kSo, srt, whn, numS]) (by decide)
theorem nd_real {ss : List Int} (k : Int) (h : 0 ≤ k ∧ k < 4) : ndC dqs ⟨10, [], 2 * k - 3, 2, ⟨#[]⟩⟩ ss.length ss = 0 ∧ ndT dqs ⟨10, [], 2 * k - 3, 2, ⟨#[]⟩⟩ ss = 3 := by
  have h2 : k = 0 ∨ k = 1 ∨ k = 2 ∨ k = 3 := by omega
  rcases h2 with rfl | rfl | rfl | rfl
  all_goals exact nd_ok (by simp) (fun z => absurd z (by simp)) (by simp) (.inr (by simp [kWant, kcN])) (by simp) (by decide +kernel) (by simp [ndT, kSo, srt, whn, numS]) (by decide)
theorem nd_word {ss : List Int} (k : Int) (h : 0 ≤ k ∧ k < 8) : ndC dqs ⟨15, [], k, 3, ⟨#[]⟩⟩ ss.length ss = 0 ∧ ndT dqs ⟨15, [], k, 3, ⟨#[]⟩⟩ ss = 13 := by
  refine nd_ok (by simp) (fun z => absurd z (by simp)) (by simp) (.inr (by simp [kWant, kcN])) (by simp) ?_ (by simp [ndT, srt]) (by decide)
  have h2 : k = 0 ∨ k = 1 ∨ k = 2 ∨ k = 3 ∨ k = 4 ∨ k = 5 ∨ k = 6 ∨ k = 7 := by omega
  rcases h2 with rfl | rfl | rfl | rfl | rfl | rfl | rfl | rfl
  all_goals decide +kernel
end Go.Proofs.Ytjjjgffpmghfgaa
