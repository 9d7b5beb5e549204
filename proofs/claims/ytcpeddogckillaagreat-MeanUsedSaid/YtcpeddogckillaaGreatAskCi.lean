/-
  Asks that are made of raw numbers: an ask of two nodes.
-/
import Derived.Test.YtcpeddogckillaaGreatAskCh
import Derived.Test.YtcpeddogckillaaGreatG16
namespace Go.Proofs.YtcpeddogckillaaGreat
open Go.RowKit

/-- Two nodes. -/
def sns : List Nd := [⟨1, [], 0, 0, ⟨#[]⟩⟩, ⟨10, [], 1, 2, ⟨#[]⟩⟩]
theorem sns_ak : akC [] sns [] = 0 ∧ akA [] sns [] = 0 ∧ akL [] sns [] = [1, 3] := by decide +kernel
theorem sns_at {w : World} {g : Nat} (hg : HB w g 39 #[.int .i64 1, .slice none 0 0, .int .i64 0, .int .i64 0, .string ⟨#[]⟩, .int .i64 10, .slice none 0 0, .int .i64 1, .int .i64 2, .string ⟨#[]⟩]) : NsAt w (some ⟨g, 0, none⟩) sns := fun _ => ⟨g, 0, rfl, hg.lt, fun i q hq => by
  have hi : i < 2 := by
    rcases Nat.lt_or_ge i 2 with z | z
    · exact z
    · rw [List.getElem?_eq_none (by simpa [sns] using z)] at hq
      cases hq
  have h2 : i = 0 ∨ i = 1 := by omega
  rcases h2 with rfl | rfl
  all_goals (simp [sns] at hq; subst hq)
  · exact ⟨(hg.cell _).trans rfl, (hg.cell _).trans rfl, (hg.cell _).trans rfl, (hg.cell _).trans rfl, Nat.zero_le _, none, 0, (hg.cell _).trans rfl, Nat.le_refl _, Nat.zero_le _, is_nil _ _⟩
  · exact ⟨(hg.cell _).trans rfl, (hg.cell _).trans rfl, (hg.cell _).trans rfl, (hg.cell _).trans rfl, Nat.zero_le _, none, 0, (hg.cell _).trans rfl, Nat.le_refl _, Nat.zero_le _, is_nil _ _⟩⟩
set_option maxHeartbeats 2000000 in
theorem sure_any (w : World) : Calls Tryz.prog 11 #[] w fun e w' => e = .returned (.bool true) ∧ Below w.heap.size w w' := by
  have X8 : Hid (Calls Tryz.prog 15 #[.agg #[.slice none 0 0, .slice (some ⟨w.heap.size, 0, none⟩) 2 2, .slice none 0 0]] (w.alloc (.cells #[.int .i64 1, .slice none 0 0, .int .i64 0, .int .i64 0, .string ⟨#[]⟩, .int .i64 10, .slice none 0 0, .int .i64 1, .int .i64 2, .string ⟨#[]⟩] 39)) (GivesS [1, 3] 0 0 (w.alloc (.cells #[.int .i64 1, .slice none 0 0, .int .i64 0, .int .i64 0, .string ⟨#[]⟩, .int .i64 10, .slice none 0 0, .int .i64 1, .int .i64 2, .string ⟨#[]⟩] 39)))) := Lib.hid (by
    have := sorts_any [] sns [] none (some ⟨w.heap.size, 0, none⟩) none 0 2 0 (Nat.le_refl _) (Nat.zero_le _) (by decide) (Nat.zero_le _) (w.alloc (.cells #[.int .i64 1, .slice none 0 0, .int .i64 0, .int .i64 0, .string ⟨#[]⟩, .int .i64 10, .slice none 0 0, .int .i64 1, .int .i64 2, .string ⟨#[]⟩] 39)) (fun z => absurd z (by simp)) (sns_at (HB.new _ _ _)) (is_nil _ _)
    rw [sns_ak.1, sns_ak.2.1, sns_ak.2.2] at this
    exact this)
  have G1 : Hid (Below w.heap.size w (w.alloc (.cells #[.int .i64 1, .slice none 0 0, .int .i64 0, .int .i64 0, .string ⟨#[]⟩, .int .i64 10, .slice none 0 0, .int .i64 1, .int .i64 2, .string ⟨#[]⟩] 39))) := Lib.hid (new_below _ _)
  go_enter Tryz.func11, Tryz.ntmps11
  go_wp2_with fail
  refine X8.out.mono ?_
  rintro e w1 ⟨S, sc, rfl, is1, l1, m1, hb1⟩
  have G2 : Hid (Below w.heap.size w w1) := bw_below (Nat.le_refl _) G1.out hb1
  have I2 := Lib.hid is1.is
  clear is1 hb1 X8
  have hsz := G2.out.size
  have XI := Lib.hid (ints_same [1, 3] S (some ⟨w1.heap.size + 1, 0, none⟩) sc 2 (by decide) ((w1.alloc (.cells #[.int .i64 0, .int .i64 0] 30)).alloc (.cells #[.int .i64 1, .int .i64 3] 3)) (I2.out.below (Below.alloc (new_below _ _) (by simp) _)) (is_row (HB.new1 _ _ _ _) (fun k hk => by
    simp at hk
    have : k = 0 ∨ k = 1 := by omega
    rcases this with rfl | rfl <;> rfl)))
  have G3 := Lib.hid (Below.alloc (Below.alloc G2.out hsz (.cells #[.int .i64 0, .int .i64 0] 30)) (by simp; omega) (.cells #[.int .i64 1, .int .i64 3] 3))
  go_wp2_with fail
  refine XI.out.mono ?_
  rintro e w2 ⟨rfl, hb2⟩
  have G4 : Hid (Below w.heap.size w w2) := bw_below (Nat.le_refl _) G3.out hb2
  go_wp2_with fail
  go_ret
  exact ⟨rfl, G4.out⟩
end Go.Proofs.YtcpeddogckillaaGreat
