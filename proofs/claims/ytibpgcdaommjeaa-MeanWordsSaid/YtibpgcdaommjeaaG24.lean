/-
  Asks that are made of raw numbers: leaves.
  Asks that are made of raw numbers: the last node of a sort.
  Asks that are made of raw numbers: a number, a node more.
  Asks that are made of raw numbers: the declared names.
-/
import Derived.Test.YtibpgcdaommjeaaG23
namespace Go.Proofs.Ytibpgcdaommjeaa
open Go.RowKit

theorem pick_rng (a : Int) (n : Nat) (h1 : 1 ≤ n) (h2 : n ≤ 1000) (w : World) : Calls Try.prog 12 #[.int .i64 a, .int .i64 n] w fun e w' => ∃ r : Int, e = .returned (.int .i64 r) ∧ 0 ≤ r ∧ r < n ∧ w' = w :=
  (picked_any a n h1 h2 w).mono fun _ _ h => ⟨a % n, h.1, Int.emod_nonneg _ (by omega), Int.emod_lt_of_pos _ (by omega), h.2⟩
theorem nm_len (a : UInt8) : (⟨#[a]⟩ : ByteArray).size ≤ maxLen := by unfold maxLen; simp [ByteArray.size]
end Go.Proofs.Ytibpgcdaommjeaa
namespace Go.Proofs.Ytibpgcdaommjeaa
open Go.RowKit

end Go.Proofs.Ytibpgcdaommjeaa
namespace Go.Proofs.Ytibpgcdaommjeaa
open Go.RowKit

/-- The sorts of kids. -/
theorem kso1 {ss : List Int} {j : Nat} {s : Int} (h : nth ss j = s) : kSo ss [(j : Int)] = [s] := by simp [kSo, h]
theorem kso2 {ss : List Int} {j k : Nat} {s t : Int} (h : nth ss j = s) (h' : nth ss k = t) : kSo ss [(j : Int), (k : Int)] = [s, t] := by simp [kSo, h, h']
theorem kso3 {ss : List Int} {i j k : Nat} {r s t : Int} (h0 : nth ss i = r) (h : nth ss j = s) (h' : nth ss k = t) : kSo ss [(i : Int), (j : Int), (k : Int)] = [r, s, t] := by simp [kSo, h0, h, h']
/-- A node without a name and without numbers, of kids that are there. -/
theorem nd_plain {ss : List Int} (op : Int) (ks : List Int) (s : Int) (h1 : 1 ≤ op ∧ op ≤ 25 ∧ op ≠ 9 ∧ op ≠ 10 ∧ op ≠ 12 ∧ op ≠ 15 ∧ op ≠ 23) (h3 : ks.length ≤ 8) (h4 : kcN op = -1 ∨ (ks.length : Int) = kcN op) (h5 : ∀ k ∈ ks, 0 ≤ k ∧ k < ss.length) (h7 : srt op 0 0 (kSo ss ks) = s) (h8 : s ≠ 0) :
    ndC dqs ⟨op, ks, 0, 0, ⟨#[]⟩⟩ ss.length ss = 0 ∧ ndT dqs ⟨op, ks, 0, 0, ⟨#[]⟩⟩ ss = s := by
  obtain ⟨a1, a2, a3, a4, a5, a6, a7⟩ := h1
  refine nd_ok ⟨a1, a2⟩ (fun z => absurd z a3) h3 (by simpa [kWant, a3] using h4) h5 ?_ (by simpa [ndT, kDs, a3] using h7) h8
  simp [flC, a4, a5, a6]
end Go.Proofs.Ytibpgcdaommjeaa
namespace Go.Proofs.Ytibpgcdaommjeaa
open Go.RowKit

theorem dqs_at {w : World} {g a b c : Nat} (hg : HB w g 45 #[.string ⟨#[112]⟩, .slice none 0 0, .int .i64 1, .string ⟨#[113]⟩, .slice none 0 0, .int .i64 1, .string ⟨#[120]⟩, .slice none 0 0, .int .i64 2, .string ⟨#[121]⟩, .slice none 0 0, .int .i64 2, .string ⟨#[114]⟩, .slice none 0 0, .int .i64 3, .string ⟨#[97]⟩, .slice none 0 0, .int .i64 4, .string ⟨#[98]⟩, .slice none 0 0, .int .i64 4, .string ⟨#[99]⟩, .slice none 0 0, .int .i64 4, .string ⟨#[102]⟩, .slice (some ⟨a, 0, none⟩) 1 1, .int .i64 4, .string ⟨#[103]⟩, .slice (some ⟨b, 0, none⟩) 2 2, .int .i64 1, .string ⟨#[104]⟩, .slice (some ⟨c, 0, none⟩) 1 1, .int .i64 2, .string ⟨#[109]⟩, .slice none 0 0, .int .i64 5, .string ⟨#[118]⟩, .slice none 0 0, .int .i64 13, .string ⟨#[119]⟩, .slice none 0 0, .int .i64 13]) (ha : HB w a 3 #[.int .i64 4]) (hb : HB w b 3 #[.int .i64 4, .int .i64 4]) (hc : HB w c 3 #[.int .i64 4]) : DsAt w (some ⟨g, 0, none⟩) dqs := fun _ => ⟨g, 0, rfl, hg.lt, fun i q hq => by
  have hi : i < 14 := by
    rcases Nat.lt_or_ge i 14 with z | z
    · exact z
    · rw [List.getElem?_eq_none (by simpa [dqs] using z)] at hq
      cases hq
  have h14 : i = 0 ∨ i = 1 ∨ i = 2 ∨ i = 3 ∨ i = 4 ∨ i = 5 ∨ i = 6 ∨ i = 7 ∨ i = 8 ∨ i = 9 ∨ i = 10 ∨ i = 11 ∨ i = 12 ∨ i = 13 := by omega
  rcases h14 with rfl | rfl | rfl | rfl | rfl | rfl | rfl | rfl | rfl | rfl | rfl | rfl | rfl | rfl
  all_goals (simp [dqs] at hq; subst hq)
  · exact ⟨(hg.cell _).trans rfl, (hg.cell _).trans rfl, nm_len _, none, 0, (hg.cell _).trans rfl, Nat.le_refl _, Nat.zero_le _, is_nil _ _⟩
  · exact ⟨(hg.cell _).trans rfl, (hg.cell _).trans rfl, nm_len _, none, 0, (hg.cell _).trans rfl, Nat.le_refl _, Nat.zero_le _, is_nil _ _⟩
  · exact ⟨(hg.cell _).trans rfl, (hg.cell _).trans rfl, nm_len _, none, 0, (hg.cell _).trans rfl, Nat.le_refl _, Nat.zero_le _, is_nil _ _⟩
  · exact ⟨(hg.cell _).trans rfl, (hg.cell _).trans rfl, nm_len _, none, 0, (hg.cell _).trans rfl, Nat.le_refl _, Nat.zero_le _, is_nil _ _⟩
  · exact ⟨(hg.cell _).trans rfl, (hg.cell _).trans rfl, nm_len _, none, 0, (hg.cell _).trans rfl, Nat.le_refl _, Nat.zero_le _, is_nil _ _⟩
  · exact ⟨(hg.cell _).trans rfl, (hg.cell _).trans rfl, nm_len _, none, 0, (hg.cell _).trans rfl, Nat.le_refl _, Nat.zero_le _, is_nil _ _⟩
  · exact ⟨(hg.cell _).trans rfl, (hg.cell _).trans rfl, nm_len _, none, 0, (hg.cell _).trans rfl, Nat.le_refl _, Nat.zero_le _, is_nil _ _⟩
  · exact ⟨(hg.cell _).trans rfl, (hg.cell _).trans rfl, nm_len _, none, 0, (hg.cell _).trans rfl, Nat.le_refl _, Nat.zero_le _, is_nil _ _⟩
  · exact ⟨(hg.cell _).trans rfl, (hg.cell _).trans rfl, nm_len _, some ⟨a, 0, none⟩, 1, (hg.cell _).trans rfl, by decide, by unfold maxLen; decide, is_row ha (fun k hk => by
      simp at hk
      subst hk; rfl)⟩
  · exact ⟨(hg.cell _).trans rfl, (hg.cell _).trans rfl, nm_len _, some ⟨b, 0, none⟩, 2, (hg.cell _).trans rfl, by decide, by unfold maxLen; decide, is_row hb (fun k hk => by
      simp at hk
      have : k = 0 ∨ k = 1 := by omega
      rcases this with rfl | rfl <;> rfl)⟩
  · exact ⟨(hg.cell _).trans rfl, (hg.cell _).trans rfl, nm_len _, some ⟨c, 0, none⟩, 1, (hg.cell _).trans rfl, by decide, by unfold maxLen; decide, is_row hc (fun k hk => by
      simp at hk
      subst hk; rfl)⟩
  · exact ⟨(hg.cell _).trans rfl, (hg.cell _).trans rfl, nm_len _, none, 0, (hg.cell _).trans rfl, Nat.le_refl _, Nat.zero_le _, is_nil _ _⟩
  · exact ⟨(hg.cell _).trans rfl, (hg.cell _).trans rfl, nm_len _, none, 0, (hg.cell _).trans rfl, Nat.le_refl _, Nat.zero_le _, is_nil _ _⟩
  · exact ⟨(hg.cell _).trans rfl, (hg.cell _).trans rfl, nm_len _, none, 0, (hg.cell _).trans rfl, Nat.le_refl _, Nat.zero_le _, is_nil _ _⟩⟩
set_option maxRecDepth 100000 in
set_option maxHeartbeats 4000000 in
theorem decls_any (w : World) : Calls Try.prog 6 #[] w fun e w' => ∃ g, e = .returned (.slice (some ⟨g, 0, none⟩) 14 14) ∧ DsAt w' (some ⟨g, 0, none⟩) dqs ∧ Below w.heap.size w w' := by
  have FIN := Lib.hid (dqs_at (HB.new3 w (.cells #[.int .i64 4] 3) (.cells #[.int .i64 4, .int .i64 4] 3) (.cells #[.int .i64 4] 3) 45 #[.string ⟨#[112]⟩, .slice none 0 0, .int .i64 1, .string ⟨#[113]⟩, .slice none 0 0, .int .i64 1, .string ⟨#[120]⟩, .slice none 0 0, .int .i64 2, .string ⟨#[121]⟩, .slice none 0 0, .int .i64 2, .string ⟨#[114]⟩, .slice none 0 0, .int .i64 3, .string ⟨#[97]⟩, .slice none 0 0, .int .i64 4, .string ⟨#[98]⟩, .slice none 0 0, .int .i64 4, .string ⟨#[99]⟩, .slice none 0 0, .int .i64 4, .string ⟨#[102]⟩, .slice (some ⟨w.heap.size, 0, none⟩) 1 1, .int .i64 4, .string ⟨#[103]⟩, .slice (some ⟨(w.heap.size + 1), 0, none⟩) 2 2, .int .i64 1, .string ⟨#[104]⟩, .slice (some ⟨(w.heap.size + 1 + 1), 0, none⟩) 1 1, .int .i64 2, .string ⟨#[109]⟩, .slice none 0 0, .int .i64 5, .string ⟨#[118]⟩, .slice none 0 0, .int .i64 13, .string ⟨#[119]⟩, .slice none 0 0, .int .i64 13]) (((HB.new w 3 #[.int .i64 4]).alloc _).alloc _ |>.alloc _) ((HB.new1 w (.cells #[.int .i64 4] 3) 3 #[.int .i64 4, .int .i64 4]).alloc _ |>.alloc _) ((HB.new2 w (.cells #[.int .i64 4] 3) (.cells #[.int .i64 4, .int .i64 4] 3) 3 #[.int .i64 4]).alloc _))
  go_enter Try.func6, Try.ntmps6
  go_wp2_with fail
  go_ret
  exact ⟨_, rfl, FIN.out, by go_grown⟩
end Go.Proofs.Ytibpgcdaommjeaa
