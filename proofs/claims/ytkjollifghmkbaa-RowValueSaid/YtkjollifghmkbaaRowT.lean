/-
  The closed fact that the statements on rows begin with.
-/
import Derived.Test.YtkjollifghmkbaaRowS
import Derived.Test.YtkjollifghmkbaaRowO
namespace Go.Proofs.Ytkjollifghmkbaa
open Go.RowKit

theorem tfact : tdL 3 10 [-4, 6, 0] = [2, -3] ∧ tdK 3 10 [-4, 6, 0] = 3 ∧ tdT 3 10 [-4, 6, 0] = -5 ∧ chkC 3 10 [-4, 6, 0] 12 = 0 ∧ chkI 3 10 [-4, 6, 0] 12 = 0 := by decide
theorem wfact : whL 2 10 [4, -6] = [2, -3] ∧ whKk 2 10 [4, -6] = 1 ∧ whTt 2 10 [4, -6] = 4 ∧ whC 2 10 [4, -6] = 0 ∧ whI 2 10 [4, -6] = 0 := by decide
theorem hfact : atC 1 1 [2] [(1, 2)] = 0 ∧ atI 1 1 [2] [(1, 2)] = 0 ∧ holdsV 1 1 [2] [(1, 2)] = true := by decide
theorem is_row {w : World} {g : Nat} {t : TypeId} {xs : List Int} {cs : Array Value} (h : HB w g t cs) (hc : ∀ k, k < xs.length → cs[k]? = some (.int .i64 (nth xs k))) : Is w (some ⟨g, 0, none⟩) xs :=
  fun _ => ⟨g, 0, rfl, h.lt, fun k hk => by rw [Nat.zero_add, h.cell k]; exact hc k hk⟩
theorem HB.new2 (w : World) (o1 o2 : Obj) (t : TypeId) (cs : Array Value) : HB (((w.alloc o1).alloc o2).alloc (.cells cs t)) (w.heap.size + 1 + 1) t cs := by simpa using HB.new ((w.alloc o1).alloc o2) t cs
theorem HB.new3 (w : World) (o1 o2 o3 : Obj) (t : TypeId) (cs : Array Value) : HB ((((w.alloc o1).alloc o2).alloc o3).alloc (.cells cs t)) (w.heap.size + 1 + 1 + 1) t cs := by simpa using HB.new (((w.alloc o1).alloc o2).alloc o3) t cs
theorem w_fact (W : World) (g : Nat) (h : HB W g 3 #[.int .i64 4, .int .i64 (-6)]) : Calls Try.prog 20 #[.agg #[.slice (some ⟨g, 0, none⟩) 2 2, .int .i64 2, .int .i64 10]] W (GivesRF [2, -3] 1 4 0 0 W) := by
  obtain ⟨q1, q2, q3, q4, q5⟩ := wfact
  have := whole_any (some ⟨g, 0, none⟩) [4, -6] 2 2 2 10 rfl (Nat.le_refl _) W (is_row h (by intro k hk; rcases k with _ | _ | k <;> first | rfl | (exfalso; simp at hk; omega)))
  rwa [q1, q2, q3, q4, q5] at this
theorem h_fact (W : World) (g g' : Nat) (h : HB W g 3 #[.int .i64 2]) (h' : HB W g' 27 #[.int .i64 1, .int .i64 2]) : Calls Try.prog 12 #[.agg #[.slice (some ⟨g, 0, none⟩) 1 1, .int .i64 1, .int .i64 1], .slice (some ⟨g', 0, none⟩) 1 1] W (GivesB true 0 0 W) := by
  obtain ⟨h1, h2, h3⟩ := hfact
  have := holds_any (some ⟨g, 0, none⟩) (some ⟨g', 0, none⟩) [2] [(1, 2)] 1 1 1 1 1 1 rfl rfl W (is_row h (by intro k hk; rcases k with _ | k <;> first | rfl | (exfalso; simp at hk)))
    (fun _ => ⟨g', 0, rfl, h'.lt, fun k hk => by
      obtain rfl : k = 0 := by simp at hk; exact hk
      exact ⟨h'.cell 0, h'.cell 1⟩⟩)
  rw [h1, h2, h3] at this
  exact this
theorem s_fact (W : World) (A : Option Addr) (c g : Nat) (k t : Int) (h : Is W A [2, -3]) (h' : HB W g 3 #[.int .i64 2, .int .i64 (-3)]) : Calls Try.prog 22 #[.agg #[.slice A 2 c, .int .i64 k, .int .i64 t], .agg #[.slice (some ⟨g, 0, none⟩) 2 2, .int .i64 k, .int .i64 t]] W fun e w' => e = .returned (.bool true) ∧ Below W.heap.size W w' := by
  have := samerow_any A (some ⟨g, 0, none⟩) [2, -3] [2, -3] 2 c 2 2 k t k t rfl rfl (by omega) (by omega) W h (is_row h' (by intro k hk; rcases k with _ | _ | k <;> first | rfl | (exfalso; simp at hk; omega)))
  simpa using this
set_option maxRecDepth 100000 in
set_option maxHeartbeats 4000000 in
theorem fact_any (w : World) : Calls Try.prog 26 #[] w fun e w' => e = .returned (.bool true) ∧ Below w.heap.size w w' := by
  obtain ⟨t1, t2, t3, t4, t5⟩ := tfact
  have T := Lib.hid (tidy_any (some ⟨w.heap.size, 0, none⟩) [-4, 6, 0] 3 3 3 10 rfl (Nat.le_refl _) (w.alloc (.cells #[.int .i64 (-4), .int .i64 6, .int .i64 0] 3)) (is_row (HB.new w _ _) (by intro k hk; rcases k with _ | _ | _ | k <;> first | rfl | (exfalso; simp at hk; omega))))
  rw [t1, t2, t3, t4, t5] at T
  go_enter Try.func26, Try.ntmps26
  go_wp2_with fail
  refine T.out.mono ?_
  rintro e w1 ⟨A1, c1, rfl, hl1, hi1, hb1⟩
  have G1 : Hid (Below w.heap.size w w1) := below_after (by go_grown) hb1
  have I1 := Lib.hid hi1.is
  clear hi1 hb1 hl1
  go_wp2_with fail
  refine (w_fact _ _ (HB.new2 _ _ _ _ _)).mono ?_
  rintro e w2 ⟨A2, c2, rfl, hl2, hi2, hb2⟩
  have T1 : Hid (HB w2 w1.heap.size 24 #[.slice A1 2 c1, .int .i64 3, .int .i64 (-5)]) := (((HB.new w1 _ _).alloc _).alloc _).below hb2
  have T2 : Hid (HB w2 (w1.heap.size + 1) 29 #[.int .i64 0, .int .i64 0]) := ((HB.new1 w1 _ _ _).alloc _).below hb2
  have G2 : Hid (Below w.heap.size w w2) := below_after (by have := G1.out; have z := this.size; go_grown) hb2
  have I1' : Hid (Is w2 A1 [2, -3]) := (I1.out.below (by go_grown)).below hb2
  have I2 := Lib.hid hi2.is
  clear hi2 hb2 hl2 I1
  go_wp2_with fail
  refine (h_fact _ _ _ (HB.alloc (HB.new2 _ _ _ _ _) _) (HB.new3 _ _ _ _ _ _)).mono ?_
  rintro e w3 ⟨rfl, hb3⟩
  have R1 := ((((T1.out.alloc (.cells #[.slice A2 2 c2, .int .i64 1, .int .i64 4] 24)).alloc (.cells #[.int .i64 0, .int .i64 0] 29)).alloc (.cells #[.int .i64 2] 3)).alloc (.cells #[.int .i64 1, .int .i64 2] 27)).below hb3
  have R2 := ((((T2.out.alloc (.cells #[.slice A2 2 c2, .int .i64 1, .int .i64 4] 24)).alloc (.cells #[.int .i64 0, .int .i64 0] 29)).alloc (.cells #[.int .i64 2] 3)).alloc (.cells #[.int .i64 1, .int .i64 2] 27)).below hb3
  have R3 := ((((HB.new w2 24 #[.slice A2 2 c2, .int .i64 1, .int .i64 4]).alloc (.cells #[.int .i64 0, .int .i64 0] 29)).alloc (.cells #[.int .i64 2] 3)).alloc (.cells #[.int .i64 1, .int .i64 2] 27)).below hb3
  have R4 := (((HB.new1 w2 (.cells #[.slice A2 2 c2, .int .i64 1, .int .i64 4] 24) 29 #[.int .i64 0, .int .i64 0]).alloc (.cells #[.int .i64 2] 3)).alloc (.cells #[.int .i64 1, .int .i64 2] 27)).below hb3
  have G3 : Hid (Below w.heap.size w w3) := below_after (by have := G2.out; have z := this.size; go_grown) hb3
  have J1 : Hid (Is w3 A1 [2, -3]) := (I1'.out.below (by go_grown)).below hb3
  have J2 : Hid (Is w3 A2 [2, -3]) := (I2.out.below (by go_grown)).below hb3
  obtain ⟨a0, a1, a2, _⟩ := HB.row' R1
  obtain ⟨b0, b1, _⟩ := HB.two R2
  obtain ⟨c0, c1', c2', _⟩ := HB.row' R3
  obtain ⟨d0, d1, _⟩ := HB.two R4
  have l1 := R1.lt
  have l2 := R2.lt
  have l3 := R3.lt
  have l4 := R4.lt
  have HR3 := Lib.hid R3
  clear T1 T2 I1' I2 hb3 R1 R2 R3 R4
  go_wp2_with fail
  refine (s_fact _ A1 c1 _ 3 (-5) (J1.out.below (by go_grown)) (HB.new1 _ _ _ _)).mono ?_
  rintro e w4 ⟨rfl, hb4⟩
  have G4 : Hid (Below w.heap.size w w4) := below_after (by have := G3.out; have z := this.size; go_grown) hb4
  have J2' : Hid (Is w4 A2 [2, -3]) := (J2.out.below (by go_grown)).below hb4
  have R3 := ((HR3.out.alloc (.cells #[.int .i64 0, .int .i64 0] 29)).alloc (.cells #[.int .i64 2, .int .i64 (-3)] 3)).below hb4
  obtain ⟨e0, e1, e2, _⟩ := HB.row' R3
  have l5 := R3.lt
  clear hb4 R3
  go_wp2_with fail
  refine (s_fact _ A2 c2 _ 1 4 (J2'.out.below (by go_grown)) (HB.new _ _ _)).mono ?_
  rintro e w5 ⟨rfl, hb5⟩
  have G5 : Hid (Below w.heap.size w w5) := below_after (by have := G4.out; have z := this.size; go_grown) hb5
  clear hb5
  go_wp2_with fail
  go_ret
  exact ⟨rfl, G5.out⟩
end Go.Proofs.Ytkjollifghmkbaa
