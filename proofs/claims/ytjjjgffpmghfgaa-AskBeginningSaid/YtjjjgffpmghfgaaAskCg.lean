/-
  Asks that are made of raw numbers: the declared names.
-/
import Derived.Test.YtjjjgffpmghfgaaAskCf
namespace Go.Proofs.Ytjjjgffpmghfgaa
open Go.RowKit

theorem dqs_at {w : World} {g a b c : Nat} (hg : HB w g 70 #[.string ⟨#[112]⟩, .slice none 0 0, .int .i64 1, .string ⟨#[113]⟩, .slice none 0 0, .int .i64 1, .string ⟨#[120]⟩, .slice none 0 0, .int .i64 2, .string ⟨#[121]⟩, .slice none 0 0, .int .i64 2, .string ⟨#[114]⟩, .slice none 0 0, .int .i64 3, .string ⟨#[97]⟩, .slice none 0 0, .int .i64 4, .string ⟨#[98]⟩, .slice none 0 0, .int .i64 4, .string ⟨#[99]⟩, .slice none 0 0, .int .i64 4, .string ⟨#[102]⟩, .slice (some ⟨a, 0, none⟩) 1 1, .int .i64 4, .string ⟨#[103]⟩, .slice (some ⟨b, 0, none⟩) 2 2, .int .i64 1, .string ⟨#[104]⟩, .slice (some ⟨c, 0, none⟩) 1 1, .int .i64 2, .string ⟨#[109]⟩, .slice none 0 0, .int .i64 5, .string ⟨#[118]⟩, .slice none 0 0, .int .i64 13, .string ⟨#[119]⟩, .slice none 0 0, .int .i64 13]) (ha : HB w a 3 #[.int .i64 4]) (hb : HB w b 3 #[.int .i64 4, .int .i64 4]) (hc : HB w c 3 #[.int .i64 4]) : DsAt w (some ⟨g, 0, none⟩) dqs := fun _ => ⟨g, 0, rfl, hg.lt, fun i q hq => by
  have hi : i < 14 := by
    rcases Nat.lt_or_ge i 14 with z | z
    · exact z
    · rw [List.getElem?_eq_none (by simpa [dqs] using z)] at hq
      cases hq
  have h14 : i = 0 ∨ i = 1 ∨ i = 2 ∨ i = 3 ∨ i = 4 ∨ i = 5 ∨ i = 6 ∨ i = 7 ∨ i = 8 ∨ i = 9 ∨ i = 10 ∨ i = 11 ∨ i = 12 ∨ i = 13 := by omega
  rcases h14 with rfl | rfl | rfl | rfl | rfl | rfl | rfl | rfl | rfl | rfl | rfl | rfl | rfl | rfl
  all_goals (simp [dqs] at hq; subst hq)
  · exact ⟨(hg.cell _).trans rfl, (hg.cell _).trans rfl, nm_len _, none, 0, (hg.cell _).trans rfl, Nat.le_refl _, Nat.zero_le _, is_nil _ _⟩
  · exact ⟨(hg.cell _).trans rfl, (hg.cell _).trans rfl, nm_len _, none, 0, (hg.cell _).trans rfl, Nat.le_refl _, Nat.zero_le _, is_nil _ _⟩
  · exact ⟨(hg.cell _).trans rfl, (hg.cell _).trans rfl, nm_len _, none, 0, (hg.cell _).trans rfl, Nat.le_refl _, Nat.zero_le _, is_nil _ _⟩
  · exact ⟨(hg.cell _).trans rfl, (hg.cell _).trans rfl, nm_len _, none, 0, (hg.cell _).trans rfl, Nat.le_refl _, Nat.zero_le _, is_nil _ _⟩
  · exact ⟨(hg.cell _).trans rfl, (hg.cell _).trans rfl, nm_len _, none, 0, (hg.cell _).trans rfl, Nat.le_refl _, Nat.zero_le _, is_nil _ _⟩
  · exact ⟨(hg.cell _).trans rfl, (hg.cell _).trans rfl, nm_len _, none, 0, (hg.cell _).trans rfl, Nat.le_refl _, Nat.zero_le _, is_nil _ _⟩
  · exact ⟨(hg.cell _).trans rfl, (hg.cell _).trans rfl, nm_len _, none, 0, (hg.cell _).trans rfl, Nat.le_refl _, Nat.zero_le _, is_nil _ _⟩
  · exact ⟨(hg.cell _).trans rfl, (hg.cell _).trans rfl, nm_len _, none, 0, (hg.cell _).trans rfl, Nat.le_refl _, Nat.zero_le _, is_nil _ _⟩
  · exact ⟨(hg.cell _).trans rfl, (hg.cell _).trans rfl, nm_len _, some ⟨a, 0, none⟩, 1, (hg.cell _).trans rfl, by decide, by unfold maxLen; decide, is_row ha (fun k hk => by
      simp at hk
      subst hk; rfl)⟩
  · exact ⟨(hg.cell _).trans rfl, (hg.cell _).trans rfl, nm_len _, some ⟨b, 0, none⟩, 2, (hg.cell _).trans rfl, by decide, by unfold maxLen; decide, is_row hb (fun k hk => by
      simp at hk
      have : k = 0 ∨ k = 1 := by omega
      rcases this with rfl | rfl <;> rfl)⟩
  · exact ⟨(hg.cell _).trans rfl, (hg.cell _).trans rfl, nm_len _, some ⟨c, 0, none⟩, 1, (hg.cell _).trans rfl, by decide, by unfold maxLen; decide, is_row hc (fun k hk => by
      simp at hk
      subst hk; rfl)⟩
  · exact ⟨(hg.cell _).trans rfl, (hg.cell _).trans rfl, nm_len _, none, 0, (hg.cell _).trans rfl, Nat.le_refl _, Nat.zero_le _, is_nil _ _⟩
  · exact ⟨(hg.cell _).trans rfl, (hg.cell _).trans rfl, nm_len _, none, 0, (hg.cell _).trans rfl, Nat.le_refl _, Nat.zero_le _, is_nil _ _⟩
  · exact ⟨(hg.cell _).trans rfl, (hg.cell _).trans rfl, nm_len _, none, 0, (hg.cell _).trans rfl, Nat.le_refl _, Nat.zero_le _, is_nil _ _⟩⟩
set_option maxRecDepth 100000 in
set_option maxHeartbeats 4000000 in
theorem decls_any (w : World) : Calls Try.prog 13 #[] w fun e w' => ∃ g, e = .returned (.slice (some ⟨g, 0, none⟩) 14 14) ∧ DsAt w' (some ⟨g, 0, none⟩) dqs ∧ Below w.heap.size w w' := by
  have FIN := Lib.hid (dqs_at (HB.new3 w (.cells #[.int .i64 4] 3) (.cells #[.int .i64 4, .int .i64 4] 3) (.cells #[.int .i64 4] 3) 70 #[.string ⟨#[112]⟩, .slice none 0 0, .int .i64 1, .string ⟨#[113]⟩, .slice none 0 0, .int .i64 1, .string ⟨#[120]⟩, .slice none 0 0, .int .i64 2, .string ⟨#[121]⟩, .slice none 0 0, .int .i64 2, .string ⟨#[114]⟩, .slice none 0 0, .int .i64 3, .string ⟨#[97]⟩, .slice none 0 0, .int .i64 4, .string ⟨#[98]⟩, .slice none 0 0, .int .i64 4, .string ⟨#[99]⟩, .slice none 0 0, .int .i64 4, .string ⟨#[102]⟩, .slice (some ⟨w.heap.size, 0, none⟩) 1 1, .int .i64 4, .string ⟨#[103]⟩, .slice (some ⟨(w.heap.size + 1), 0, none⟩) 2 2, .int .i64 1, .string ⟨#[104]⟩, .slice (some ⟨(w.heap.size + 1 + 1), 0, none⟩) 1 1, .int .i64 2, .string ⟨#[109]⟩, .slice none 0 0, .int .i64 5, .string ⟨#[118]⟩, .slice none 0 0, .int .i64 13, .string ⟨#[119]⟩, .slice none 0 0, .int .i64 13]) (((HB.new w 3 #[.int .i64 4]).alloc _).alloc _ |>.alloc _) ((HB.new1 w (.cells #[.int .i64 4] 3) 3 #[.int .i64 4, .int .i64 4]).alloc _ |>.alloc _) ((HB.new2 w (.cells #[.int .i64 4] 3) (.cells #[.int .i64 4, .int .i64 4] 3) 3 #[.int .i64 4]).alloc _))
  go_enter Try.func13, Try.ntmps13
  go_wp2_with fail
  go_ret
  exact ⟨_, rfl, FIN.out, by go_grown⟩
end Go.Proofs.Ytjjjgffpmghfgaa
