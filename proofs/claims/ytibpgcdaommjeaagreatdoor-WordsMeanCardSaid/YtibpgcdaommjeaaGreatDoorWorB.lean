/-
  Words: the table of operations, a map of functions.
-/
import Derived.Test.YtibpgcdaommjeaaGreatDoorWorA
import Derived.Maps.OwnSet
import Derived.Maps.Views
namespace Go.Proofs.YtibpgcdaommjeaaGreatDoor.Wds
open Go.RowKit

/-- How a function without captives reads. -/
def fnElem (v : Value) : Option (DataW Unit × List MemPlace) :=
  match v with
  | .nilFunc => some (.nil, [])
  | .func (.func f) ⟨[]⟩ ⟨[]⟩ => some (.lit (.int .i64 f), [])
  | _ => none
theorem fnElem_inv {v : Value} {f : Nat} {ps : List MemPlace} (h : fnElem v = some (.lit (.int .i64 f), ps)) : v = .func (.func f) #[] #[] := by
  unfold fnElem at h
  split at h
  · simp at h
  · rename_i f'
    simp only [Option.some.injEq, Prod.mk.injEq, DataW.lit.injEq, Lit.int.injEq, true_and] at h
    obtain rfl : f' = f := by exact_mod_cast h.1
    rfl
  · simp at h
theorem keyI : Go.Maps.Keyed Tryz.prog 3 := Go.Maps.int_keyed Tryz.underlying3
theorem zero_op (w : World) : (zeroValue 52).run Tryz.prog w = .ok .nilFunc w := by kernel_rfl
theorem key_int {k : Int} (h : (Lit.int .i64 k).wf = true) : keyOf Tryz.prog 3 (.int .i64 k) = some (.int .i64 k) := Go.Maps.keyOf_int_mk Tryz.underlying3 h
theorem ins_op {w : World} {b n : Nat} {D : DataW Unit} (h : w.ownsMap Tryz.prog 3 fnElem b n D) (hn : n < 1000) (k : Int) (hk : (Lit.int .i64 k).wf = true) (f : Nat) :
    ∃ w', (Instr.mapUpdate 54 (.map (some b)) (.int .i64 k) (.func (.func f) #[] #[])).run Tryz.prog w = .ok () w' ∧ Hid (w'.ownsMap Tryz.prog 3 fnElem b (n + 1) (D.put (.int .i64 k) (.lit (.int .i64 f)))) ∧ w.grownBy w' (some b) := by
  obtain ⟨w', hrun, r1, r2⟩ := h.update keyI Tryz.underlying54 (by unfold maxLen; omega) (key_int hk) (show fnElem (.func (.func f) #[] #[]) = some (.lit (.int .i64 f), []) from rfl)
  exact ⟨w', hrun, Lib.hid r1, r2⟩
theorem fun_op {w : World} {b n : Nat} {D : DataW Unit} (h : w.ownsMap Tryz.prog 3 fnElem b n D) (k : Int) (hk : (Lit.int .i64 k).wf = true) (f : Nat) (hD : D.atKey (.int .i64 k) .nil = .lit (.int .i64 f)) (hh : Go.Maps.has D (.int .i64 k) = true) :
    (Instr.lookup 54 (.map (some b)) (.int .i64 k) true).run Tryz.prog w = .ok (.tuple #[.func (.func f) #[] #[], .bool true]) w := by
  obtain ⟨v, ps, hr, hv⟩ := h.look_ok keyI Tryz.underlying54 (zero_op w) (show fnElem .nilFunc = some (.nil, []) from rfl) (key_int hk)
  rw [hD] at hv
  obtain rfl := fnElem_inv hv
  rw [hh] at hr
  exact hr
theorem nofun_op {w : World} {b n : Nat} {D : DataW Unit} (h : w.ownsMap Tryz.prog 3 fnElem b n D) (k : Int) (hk : (Lit.int .i64 k).wf = true) (hh : Go.Maps.has D (.int .i64 k) = false) :
    ∃ v, (Instr.lookup 54 (.map (some b)) (.int .i64 k) true).run Tryz.prog w = .ok (.tuple #[v, .bool false]) w := by
  obtain ⟨v, ps, hr, hv⟩ := h.look_ok keyI Tryz.underlying54 (zero_op w) (show fnElem .nilFunc = some (.nil, []) from rfl) (key_int hk)
  rw [hh] at hr
  exact ⟨v, hr⟩
/-- The table. -/
def opsD : DataW Unit := (((((((((DataW.map []).put (.int .i64 15) (.lit (.int .i64 20))).put (.int .i64 16) (.lit (.int .i64 21))).put (.int .i64 17) (.lit (.int .i64 22))).put (.int .i64 18) (.lit (.int .i64 23))).put (.int .i64 19) (.lit (.int .i64 24))).put (.int .i64 20) (.lit (.int .i64 25))).put (.int .i64 21) (.lit (.int .i64 26))).put (.int .i64 22) (.lit (.int .i64 27))).put (.int .i64 23) (.lit (.int .i64 29))
theorem ops_none {k : Int} (h : k < 15 ∨ 23 < k) : Go.Maps.has opsD (.int .i64 k) = false := by
  unfold opsD
  have ne : ∀ j : Int, 15 ≤ j → j ≤ 23 → (Lit.int .i64 k) ≠ (Lit.int .i64 j) := fun j h1 h2 e => by injection e with _ e; omega
  rw [Go.Maps.has_put_other (ne 23 (by decide) (by decide)), Go.Maps.has_put_other (ne 22 (by decide) (by decide)), Go.Maps.has_put_other (ne 21 (by decide) (by decide)), Go.Maps.has_put_other (ne 20 (by decide) (by decide)), Go.Maps.has_put_other (ne 19 (by decide) (by decide)), Go.Maps.has_put_other (ne 18 (by decide) (by decide)), Go.Maps.has_put_other (ne 17 (by decide) (by decide)), Go.Maps.has_put_other (ne 16 (by decide) (by decide)), Go.Maps.has_put_other (ne 15 (by decide) (by decide))]
  rfl
theorem bw_own {w w' W : World} {b base : Nat} (h : Below base W w) (hb : base ≤ b) (hs : base ≤ w.heap.size) (g : w.grownBy w' (some b)) : Below base W w' :=
  h.grown g hs (fun j hj => by injection hj with hj; omega)
set_option maxRecDepth 100000 in
set_option maxHeartbeats 2000000 in
theorem operations_any (w : World) : Calls Tryz.prog 9 #[] w fun e w' => ∃ g, e = .returned (.map (some g)) ∧ Hid (w'.ownsMap Tryz.prog 3 fnElem g 9 opsD) ∧ Below w.heap.size w w' := by
  have H0 : Hid ((w.alloc (.map #[] 0)).ownsMap Tryz.prog 3 fnElem w.heap.size 0 (.map [])) := Lib.hid (World.ownsMap_made w _ _ _)
  have G0 : Hid (Below w.heap.size w (w.alloc (.map #[] 0))) := Lib.hid (new_below _ _)
  have hmm := @run_makeMap Tryz.prog
  go_enter Tryz.func9, Tryz.ntmps9
  go_wp2_with fail
  clear hmm
  obtain ⟨w1, r, H1, g1⟩ := ins_op H0.out (by decide) 15 rfl 20
  rw [r]
  clear r
  have G1 : Hid (Below w.heap.size w w1) := Lib.hid (bw_own G0.out (Nat.le_refl _) G0.out.size g1)
  clear g1 H0 G0
  go_wp2_with fail
  obtain ⟨w2, r, H2, g2⟩ := ins_op H1.out (by decide) 16 rfl 21
  rw [r]
  clear r
  have G2 : Hid (Below w.heap.size w w2) := Lib.hid (bw_own G1.out (Nat.le_refl _) G1.out.size g2)
  clear g2 H1 G1
  go_wp2_with fail
  obtain ⟨w3, r, H3, g3⟩ := ins_op H2.out (by decide) 17 rfl 22
  rw [r]
  clear r
  have G3 : Hid (Below w.heap.size w w3) := Lib.hid (bw_own G2.out (Nat.le_refl _) G2.out.size g3)
  clear g3 H2 G2
  go_wp2_with fail
  obtain ⟨w4, r, H4, g4⟩ := ins_op H3.out (by decide) 18 rfl 23
  rw [r]
  clear r
  have G4 : Hid (Below w.heap.size w w4) := Lib.hid (bw_own G3.out (Nat.le_refl _) G3.out.size g4)
  clear g4 H3 G3
  go_wp2_with fail
  obtain ⟨w5, r, H5, g5⟩ := ins_op H4.out (by decide) 19 rfl 24
  rw [r]
  clear r
  have G5 : Hid (Below w.heap.size w w5) := Lib.hid (bw_own G4.out (Nat.le_refl _) G4.out.size g5)
  clear g5 H4 G4
  go_wp2_with fail
  obtain ⟨w6, r, H6, g6⟩ := ins_op H5.out (by decide) 20 rfl 25
  rw [r]
  clear r
  have G6 : Hid (Below w.heap.size w w6) := Lib.hid (bw_own G5.out (Nat.le_refl _) G5.out.size g6)
  clear g6 H5 G5
  go_wp2_with fail
  obtain ⟨w7, r, H7, g7⟩ := ins_op H6.out (by decide) 21 rfl 26
  rw [r]
  clear r
  have G7 : Hid (Below w.heap.size w w7) := Lib.hid (bw_own G6.out (Nat.le_refl _) G6.out.size g7)
  clear g7 H6 G6
  go_wp2_with fail
  obtain ⟨w8, r, H8, g8⟩ := ins_op H7.out (by decide) 22 rfl 27
  rw [r]
  clear r
  have G8 : Hid (Below w.heap.size w w8) := Lib.hid (bw_own G7.out (Nat.le_refl _) G7.out.size g8)
  clear g8 H7 G7
  go_wp2_with fail
  obtain ⟨w9, r, H9, g9⟩ := ins_op H8.out (by decide) 23 rfl 29
  rw [r]
  clear r
  have G9 : Hid (Below w.heap.size w w9) := Lib.hid (bw_own G8.out (Nat.le_refl _) G8.out.size g9)
  clear g9 H8 G8
  go_wp2_with fail
  go_ret
  exact ⟨_, rfl, H9, G9.out⟩
end Go.Proofs.YtibpgcdaommjeaaGreatDoor.Wds
