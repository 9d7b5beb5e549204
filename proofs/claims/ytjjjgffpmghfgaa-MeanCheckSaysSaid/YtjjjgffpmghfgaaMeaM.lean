/-
  Worlds: the law that compares mean.Check with the reference.
-/
import Derived.Test.YtjjjgffpmghfgaaMeaL
import Derived.Deep.RegionHeld3
namespace Go.Proofs.Ytjjjgffpmghfgaa
open Go.RowKit

/-- What stands while the two are asked. -/
def FrC (w : World) (ga gw g5 : Nat) (va vw vf : Array Value) (W : World) : Prop := Below w.heap.size w W ∧ HB W ga 26 va ∧ HB W gw 45 vw ∧ HB W g5 29 vf
theorem FrC.below {w : World} {ga gw g5 : Nat} {va vw vf : Array Value} {W W' : World} (h : FrC w ga gw g5 va vw vf W) (hb : Below W.heap.size W W') : FrC w ga gw g5 va vw vf W' := ⟨bw_below (Nat.le_refl _) h.1 hb, h.2.1.below hb, h.2.2.1.below hb, h.2.2.2.below hb⟩
theorem FrC.cells {w : World} {ga gw g5 : Nat} {a0 a1 a2 b0 c0 c1 : Value} {W : World} (h : FrC w ga gw g5 #[a0, a1, a2] #[b0] #[c0, c1] W) : W.cell? ⟨ga, 0, none⟩ = some a0 ∧ W.cell? ⟨ga, 1, none⟩ = some a1 ∧ W.cell? ⟨ga, 2, none⟩ = some a2 ∧ W.cell? ⟨gw, 0, none⟩ = some b0 ∧ W.cell? ⟨g5, 0, none⟩ = some c0 ∧ W.cell? ⟨g5, 1, none⟩ = some c1 :=
  ⟨h.2.1.cell 0, h.2.1.cell 1, h.2.1.cell 2, h.2.2.1.cell 0, h.2.2.2.cell 0, h.2.2.2.cell 1⟩
theorem me_bad : meC [] [] [] [default] = 9 ∧ meA [] [] [] [default] = 0 := by
  have h : akC [] [] [] = 0 := by decide
  unfold meC meA
  rw [if_pos h, if_pos h]
  exact ⟨rfl, rfl⟩
set_option maxRecDepth 100000 in
set_option maxHeartbeats 8000000 in
theorem checksaysM_any (qs : List Dc) (ns : List Nd) (hs : List Int) (ms : List Mg) (Ad An Ah Am : Option Addr) (dc nc hc mc : Nat) (w : World) (h : AwAt w qs ns hs ms Ad An Ah Am dc nc hc mc) :
    Calls Try.prog 6 #[.agg #[.slice Ad qs.length dc, .slice An ns.length nc, .slice Ah hs.length hc], .agg #[.slice Am ms.length mc]] w fun e w' => e = .returned (.bool true) ∧ Below w.heap.size w w' := by
  have H1 : Hid (∀ ga gw g5 va vw vf W, FrC w ga gw g5 va vw vf W → Calls Try.prog 16 #[.agg #[.slice Ad qs.length dc, .slice An ns.length nc, .slice Ah hs.length hc], .agg #[.slice Am ms.length mc]] W fun e w' => e = .returned (.agg #[.int .i64 (meC qs ns hs ms), .int .i64 (meA qs ns hs ms)]) ∧ FrC w ga gw g5 va vw vf w') := Lib.hid (fun ga gw g5 va vw vf W hW => (meancheck_any qs ns hs ms Ad An Ah Am dc nc hc mc W (h.below hW.1)).mono fun e w' ⟨h1, h2⟩ => ⟨h1, hW.below h2⟩)
  have H2 : Hid (∀ ga gw g5 va vw vf W, FrC w ga gw g5 va vw vf W → Calls Try.prog 17 #[.agg #[.slice Ad qs.length dc, .slice An ns.length nc, .slice Ah hs.length hc], .agg #[.slice Am ms.length mc]] W fun e w' => e = .returned (.agg #[.int .i64 (meC qs ns hs ms), .int .i64 (meA qs ns hs ms)]) ∧ FrC w ga gw g5 va vw vf w') := Lib.hid (fun ga gw g5 va vw vf W hW => (refmean_any qs ns hs ms Ad An Ah Am dc nc hc mc W (h.below hW.1)).mono fun e w' ⟨h1, h2⟩ => ⟨h1, hW.below h2⟩)
  have H3 : Hid (∀ (W : World) (g : Nat), HB W g 56 #[.slice none 0 0, .int .i64 0, .int .i64 0, .slice none 0 0, .int .i64 0] → Calls Try.prog 16 #[.agg #[.slice none 0 0, .slice none 0 0, .slice none 0 0], .agg #[.slice (some ⟨g, 0, none⟩) 1 1]] W fun e w' => e = .returned (.agg #[.int .i64 9, .int .i64 0]) ∧ Below W.heap.size W w') := Lib.hid (fun W g hg => by
    have := meancheck_any [] [] [] [default] none none none (some ⟨g, 0, none⟩) 0 0 0 1 W ⟨Nat.le_refl _, Nat.zero_le _, Nat.le_refl _, Nat.zero_le _, Nat.le_refl _, Nat.zero_le _, Nat.le_refl _, by unfold maxLen; decide, fun z => absurd z (by simp), fun z => absurd z (by simp), is_nil _ _, fun _ => ⟨g, 0, rfl, hg.lt, fun i q hq => by
      have hi : i = 0 := by
        rcases Nat.eq_zero_or_pos i with z | z
        · exact z
        · rw [List.getElem?_eq_none (by simp; omega)] at hq; cases hq
      subst hi
      simp at hq
      subst hq
      exact ⟨⟨none, 0, hg.cell 0, Nat.le_refl _, Nat.zero_le _, es_nil _ _⟩, hg.cell 1, hg.cell 2, hg.cell 4, none, 0, hg.cell 3, Nat.le_refl _, Nat.zero_le _, cs_nil _ _⟩⟩, fun q hq => by
      simp at hq
      subst hq
      exact ⟨fun e he => absurd he (by simp [default]), rfl, rfl, rfl, fun c hc => absurd hc (by simp [default])⟩⟩
    rw [me_bad.1, me_bad.2] at this
    exact this)
  have N0 : Hid (HB ((w.alloc (.cells #[.slice Ad qs.length dc, .slice An ns.length nc, .slice Ah hs.length hc] 26)).alloc (.cells #[.slice Am ms.length mc] 45)) w.heap.size 26 #[.slice Ad qs.length dc, .slice An ns.length nc, .slice Ah hs.length hc]) := Lib.hid ((HB.new _ _ _).alloc _)
  have M0 : Hid (HB ((w.alloc (.cells #[.slice Ad qs.length dc, .slice An ns.length nc, .slice Ah hs.length hc] 26)).alloc (.cells #[.slice Am ms.length mc] 45)) (w.heap.size + 1) 45 #[.slice Am ms.length mc]) := Lib.hid (HB.new1 _ _ _ _)
  have B0 : Hid (Below w.heap.size w ((w.alloc (.cells #[.slice Ad qs.length dc, .slice An ns.length nc, .slice Ah hs.length hc] 26)).alloc (.cells #[.slice Am ms.length mc] 45))) := Lib.hid (((Below.refl _ _).alloc (Nat.le_refl _) _).alloc (by simp) _)
  clear h
  generalize meC qs ns hs ms = C at *
  generalize meA qs ns hs ms = A at *
  generalize qs.length = ql at *
  generalize ns.length = nl at *
  generalize hs.length = hl at *
  generalize ms.length = ml at *
  have N1 := Lib.hid (N0.out.alloc (.cells #[.slice none 0 0, .int .i64 0, .int .i64 0, .slice none 0 0, .int .i64 0] 56))
  have M1 := Lib.hid (M0.out.alloc (.cells #[.slice none 0 0, .int .i64 0, .int .i64 0, .slice none 0 0, .int .i64 0] 56))
  have B1 := Lib.hid (B0.out.alloc B0.out.size (.cells #[.slice none 0 0, .int .i64 0, .int .i64 0, .slice none 0 0, .int .i64 0] 56))
  have X3 := Lib.hid (H3.out _ (w.heap.size + 1 + 1) (HB.new2 w (.cells #[.slice Ad ql dc, .slice An nl nc, .slice Ah hl hc] 26) (.cells #[.slice Am ml mc] 45) 56 #[.slice none 0 0, .int .i64 0, .int .i64 0, .slice none 0 0, .int .i64 0]))
  clear H3 N0 M0 B0
  go_enter Try.func6, Try.ntmps6
  go_wp2_with fail
  refine X3.out.mono ?_
  rintro e w1 ⟨rfl, hb1⟩
  have F1 : Hid (FrC w w.heap.size (w.heap.size + 1) w1.heap.size #[.slice Ad ql dc, .slice An nl nc, .slice Ah hl hc] #[.slice Am ml mc] #[.int .i64 9, .int .i64 0] (w1.alloc (.cells #[.int .i64 9, .int .i64 0] 29))) := Lib.hid ⟨bw_below (Nat.le_refl _) (below_after B1.out hb1) (new_below _ _), (N1.out.below hb1).alloc _, (M1.out.below hb1).alloc _, HB.new _ _ _⟩
  clear hb1 X3 N1 M1 B1
  go_wp2_with fail
  have FD : Hid (FrC w w.heap.size (w.heap.size + 1) w1.heap.size #[.slice Ad ql dc, .slice An nl nc, .slice Ah hl hc] #[.slice Am ml mc] #[.int .i64 9, .int .i64 0] (w1.alloc (.cells #[.int .i64 9, .int .i64 0] 29)).drew) := Lib.hid (F1.out.below (Below.refl _ _).drew)
  go_region_held3 (fun W => W.cell? ⟨w.heap.size, 0, none⟩ = some (.slice Ad ql dc) ∧ W.cell? ⟨w.heap.size, 1, none⟩ = some (.slice An nl nc) ∧ W.cell? ⟨w.heap.size, 2, none⟩ = some (.slice Ah hl hc) ∧ W.cell? ⟨w.heap.size + 1, 0, none⟩ = some (.slice Am ml mc) ∧ W.cell? ⟨w1.heap.size, 0, none⟩ = some (.int .i64 9) ∧ W.cell? ⟨w1.heap.size, 1, none⟩ = some (.int .i64 0))
    ((first | (with_reducible exact FrC.cells F4.out) | (with_reducible exact FrC.cells F3.out) | (with_reducible exact FrC.cells FD.out)))
    (first
      | (go_at_call 16; (with_reducible refine (H1.out w.heap.size (w.heap.size + 1) w1.heap.size #[.slice Ad ql dc, .slice An nl nc, .slice Ah hl hc] #[.slice Am ml mc] #[.int .i64 9, .int .i64 0] _ ?_).mono ?_); (first | (with_reducible exact F4.out) | (with_reducible exact FD.out)); rintro e w3 ⟨rfl, hf3⟩; have F3 := Lib.hid hf3; clear hf3)
      | (go_at_call 17; (with_reducible refine (H2.out w.heap.size (w.heap.size + 1) w1.heap.size #[.slice Ad ql dc, .slice An nl nc, .slice Ah hl hc] #[.slice Am ml mc] #[.int .i64 9, .int .i64 0] _ ?_).mono ?_); (first | (with_reducible exact F3.out) | (with_reducible exact FD.out)); rintro e w4 ⟨rfl, hf4⟩; have F4 := Lib.hid hf4; clear hf4))
  all_goals
    go_wp2_with fail
    go_ret
    first | exact ⟨rfl, F4.out.1⟩ | exact ⟨rfl, F3.out.1⟩
end Go.Proofs.Ytjjjgffpmghfgaa
