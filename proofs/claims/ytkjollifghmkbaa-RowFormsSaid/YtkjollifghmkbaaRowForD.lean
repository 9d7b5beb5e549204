/-
  The reference's row of the same whole points.
-/
import Derived.Test.YtkjollifghmkbaaRowForC
import Derived.Test.YtkjollifghmkbaaRowT
namespace Go.Proofs.Ytkjollifghmkbaa
open Go.RowKit

set_option maxRecDepth 100000 in
set_option maxHeartbeats 30000000 in
theorem rwz_1 (A : Option Addr) (xs : List Int) (L c : Nat) (tt : Int) (hL : L = xs.length) (hc : L ≤ c) (w : World) (h : Is w A xs) (h0 : chkC 1 tt xs 12 = 0) (hz : rK xs = 0) :
    Calls Try.prog 23 #[.agg #[.slice A L c, .int .i64 1, .int .i64 tt]] w (GivesRF [] 1 (bareT 1 (tt)) 0 0 w) := by
  obtain ⟨hy, _, _, _, hle, hbad, hin⟩ := chk_zero h0
  have l12 : L ≤ 12 := by omega
  obtain ⟨i1, i2⟩ := inB_iff.1 hin
  have tw : IntKind.i64.wrap (tt - 1) = tt - 1 := IntWalk.i64_in _ (by omega)
  have HBa : Hid (∀ w, Is w A xs → Calls Try.prog 50 #[.slice A L c] w fun e w' => e = .returned (.slice A (rK xs) c) ∧ Below w.heap.size w w') := fun w hx => bare_b A xs L c hL hc (by omega) w hx
  have HX := Lib.hid h
  rw [hz] at HBa
  clear h0 hy hle hbad hin hL h hz
  go_enter Try.func23, Try.ntmps23
  go_wp2_with fail
  go_quiet (fail)
  generalize hW : World.drewN _ nq = W
  have b1 : RB w.heap.size (.slice A L c) (.int .i64 1) (.int .i64 tt) W := hW ▸ (RB.drewN ⟨((HB.new w 24 #[.slice A L c, .int .i64 1, .int .i64 tt]).alloc (.cells #[.slice none 0 0, .int .i64 0, .int .i64 0] 24)).alloc (.cells #[.int .i64 0, .int .i64 0] 29), (HB.new1 w (.cells #[.slice A L c, .int .i64 1, .int .i64 tt] 24) 24 #[.slice none 0 0, .int .i64 0, .int .i64 0]).alloc (.cells #[.int .i64 0, .int .i64 0] 29), HB.new2 w (.cells #[.slice A L c, .int .i64 1, .int .i64 tt] 24) (.cells #[.slice none 0 0, .int .i64 0, .int .i64 0] 24) 29 #[.int .i64 0, .int .i64 0]⟩ nq)
  have G1 : Hid (Below w.heap.size w W) := hW ▸ below_drewN (by go_grown) nq
  have B1 := Lib.hid b1
  obtain ⟨l0, l1, l2, u0, u1, u2, x0, x1, x2, x3, x4, x5, z0, z1, z2, z3⟩ := b1.cells
  clear b1 hW
  go_wp2_with fail
  refine (HBa.out _ (HX.out.below G1.out)).mono ?_
  rintro e w2 ⟨rfl, hb2⟩
  have b2 := B1.out.below hb2
  have G2 := Lib.hid (bw_below (Nat.le_refl _) G1.out hb2)
  clear l0 l1 l2 u0 u1 u2 x0 x1 x2 x3 x4 x5 z0 z1 z2 z3
  obtain ⟨l0, l1, l2, u0, u1, u2, x0, x1, x2, x3, x4, x5, z0, z1, z2, z3⟩ := b2.cells
  have B2 := Lib.hid b2
  clear b2 hb2 B1 G1
  go_wp2_with fail
  refine (none_any 1 (tt) (by omega) _).mono ?_
  rintro e w3 ⟨rfl, hb3⟩
  have b3 := B2.out.below hb3
  have G3 := Lib.hid (bw_below (Nat.le_refl _) G2.out hb3)
  clear l0 l1 l2 u0 u1 u2 x0 x1 x2 x3 x4 x5 z0 z1 z2 z3
  obtain ⟨l0, l1, l2, u0, u1, u2, x0, x1, x2, x3, x4, x5, z0, z1, z2, z3⟩ := b3.cells
  clear b3 hb3
  go_wp2
  refine bodyPost_ret (v := .tuple #[.agg #[.slice none 0 0, .int .i64 1, .int .i64 (bareT 1 (tt))], .agg #[.int .i64 0, .int .i64 0]]) (by simp [results, Try.results23, go_sem, x0, x1, x2, z0, z1]) rfl ⟨none, 0, rfl, Nat.le_refl _, isb_nil _ _ _, ?_⟩
  exact rb_end _ _ _ _ _ G3.out
set_option maxRecDepth 100000 in
set_option maxHeartbeats 30000000 in
theorem rwz_2 (A : Option Addr) (xs : List Int) (L c : Nat) (tt : Int) (hL : L = xs.length) (hc : L ≤ c) (w : World) (h : Is w A xs) (h0 : chkC 2 tt xs 12 = 0) (hz : rK xs = 0) :
    Calls Try.prog 23 #[.agg #[.slice A L c, .int .i64 2, .int .i64 tt]] w (GivesRF [] 1 (bareT 1 (tt - 1)) 0 0 w) := by
  obtain ⟨hy, _, _, _, hle, hbad, hin⟩ := chk_zero h0
  have l12 : L ≤ 12 := by omega
  obtain ⟨i1, i2⟩ := inB_iff.1 hin
  have tw : IntKind.i64.wrap (tt - 1) = tt - 1 := IntWalk.i64_in _ (by omega)
  have HBa : Hid (∀ w, Is w A xs → Calls Try.prog 50 #[.slice A L c] w fun e w' => e = .returned (.slice A (rK xs) c) ∧ Below w.heap.size w w') := fun w hx => bare_b A xs L c hL hc (by omega) w hx
  have HX := Lib.hid h
  rw [hz] at HBa
  clear h0 hy hle hbad hin hL h hz
  go_enter Try.func23, Try.ntmps23
  go_wp2_with fail
  go_quiet (fail)
  generalize hW : World.drewN _ nq = W
  have b1 : RB w.heap.size (.slice A L c) (.int .i64 2) (.int .i64 tt) W := hW ▸ (RB.drewN ⟨((HB.new w 24 #[.slice A L c, .int .i64 2, .int .i64 tt]).alloc (.cells #[.slice none 0 0, .int .i64 0, .int .i64 0] 24)).alloc (.cells #[.int .i64 0, .int .i64 0] 29), (HB.new1 w (.cells #[.slice A L c, .int .i64 2, .int .i64 tt] 24) 24 #[.slice none 0 0, .int .i64 0, .int .i64 0]).alloc (.cells #[.int .i64 0, .int .i64 0] 29), HB.new2 w (.cells #[.slice A L c, .int .i64 2, .int .i64 tt] 24) (.cells #[.slice none 0 0, .int .i64 0, .int .i64 0] 24) 29 #[.int .i64 0, .int .i64 0]⟩ nq)
  have G1 : Hid (Below w.heap.size w W) := hW ▸ below_drewN (by go_grown) nq
  have B1 := Lib.hid b1
  obtain ⟨l0, l1, l2, u0, u1, u2, x0, x1, x2, x3, x4, x5, z0, z1, z2, z3⟩ := b1.cells
  clear b1 hW
  go_wp2_with fail
  refine (HBa.out _ (HX.out.below G1.out)).mono ?_
  rintro e w2 ⟨rfl, hb2⟩
  have b2 := B1.out.below hb2
  have G2 := Lib.hid (bw_below (Nat.le_refl _) G1.out hb2)
  clear l0 l1 l2 u0 u1 u2 x0 x1 x2 x3 x4 x5 z0 z1 z2 z3
  obtain ⟨l0, l1, l2, u0, u1, u2, x0, x1, x2, x3, x4, x5, z0, z1, z2, z3⟩ := b2.cells
  have B2 := Lib.hid b2
  clear b2 hb2 B1 G1
  go_wp2_with fail
  refine (none_any 1 (tt - 1) (by omega) _).mono ?_
  rintro e w3 ⟨rfl, hb3⟩
  have b3 := B2.out.below hb3
  have G3 := Lib.hid (bw_below (Nat.le_refl _) G2.out hb3)
  clear l0 l1 l2 u0 u1 u2 x0 x1 x2 x3 x4 x5 z0 z1 z2 z3
  obtain ⟨l0, l1, l2, u0, u1, u2, x0, x1, x2, x3, x4, x5, z0, z1, z2, z3⟩ := b3.cells
  clear b3 hb3
  go_wp2
  refine bodyPost_ret (v := .tuple #[.agg #[.slice none 0 0, .int .i64 1, .int .i64 (bareT 1 (tt - 1))], .agg #[.int .i64 0, .int .i64 0]]) (by simp [results, Try.results23, go_sem, x0, x1, x2, z0, z1]) rfl ⟨none, 0, rfl, Nat.le_refl _, isb_nil _ _ _, ?_⟩
  exact rb_end _ _ _ _ _ G3.out
set_option maxRecDepth 100000 in
set_option maxHeartbeats 30000000 in
theorem rwz_3 (A : Option Addr) (xs : List Int) (L c : Nat) (tt : Int) (hL : L = xs.length) (hc : L ≤ c) (w : World) (h : Is w A xs) (h0 : chkC 3 tt xs 12 = 0) (hz : rK xs = 0) :
    Calls Try.prog 23 #[.agg #[.slice A L c, .int .i64 3, .int .i64 tt]] w (GivesRF [] 3 (bareT 3 (tt)) 0 0 w) := by
  obtain ⟨hy, _, _, _, hle, hbad, hin⟩ := chk_zero h0
  have l12 : L ≤ 12 := by omega
  obtain ⟨i1, i2⟩ := inB_iff.1 hin
  have tw : IntKind.i64.wrap (tt - 1) = tt - 1 := IntWalk.i64_in _ (by omega)
  have HBa : Hid (∀ w, Is w A xs → Calls Try.prog 50 #[.slice A L c] w fun e w' => e = .returned (.slice A (rK xs) c) ∧ Below w.heap.size w w') := fun w hx => bare_b A xs L c hL hc (by omega) w hx
  have HX := Lib.hid h
  rw [hz] at HBa
  clear h0 hy hle hbad hin hL h hz
  go_enter Try.func23, Try.ntmps23
  go_wp2_with fail
  go_quiet (fail)
  generalize hW : World.drewN _ nq = W
  have b1 : RB w.heap.size (.slice A L c) (.int .i64 3) (.int .i64 tt) W := hW ▸ (RB.drewN ⟨((HB.new w 24 #[.slice A L c, .int .i64 3, .int .i64 tt]).alloc (.cells #[.slice none 0 0, .int .i64 0, .int .i64 0] 24)).alloc (.cells #[.int .i64 0, .int .i64 0] 29), (HB.new1 w (.cells #[.slice A L c, .int .i64 3, .int .i64 tt] 24) 24 #[.slice none 0 0, .int .i64 0, .int .i64 0]).alloc (.cells #[.int .i64 0, .int .i64 0] 29), HB.new2 w (.cells #[.slice A L c, .int .i64 3, .int .i64 tt] 24) (.cells #[.slice none 0 0, .int .i64 0, .int .i64 0] 24) 29 #[.int .i64 0, .int .i64 0]⟩ nq)
  have G1 : Hid (Below w.heap.size w W) := hW ▸ below_drewN (by go_grown) nq
  have B1 := Lib.hid b1
  obtain ⟨l0, l1, l2, u0, u1, u2, x0, x1, x2, x3, x4, x5, z0, z1, z2, z3⟩ := b1.cells
  clear b1 hW
  go_wp2_with fail
  refine (HBa.out _ (HX.out.below G1.out)).mono ?_
  rintro e w2 ⟨rfl, hb2⟩
  have b2 := B1.out.below hb2
  have G2 := Lib.hid (bw_below (Nat.le_refl _) G1.out hb2)
  clear l0 l1 l2 u0 u1 u2 x0 x1 x2 x3 x4 x5 z0 z1 z2 z3
  obtain ⟨l0, l1, l2, u0, u1, u2, x0, x1, x2, x3, x4, x5, z0, z1, z2, z3⟩ := b2.cells
  have B2 := Lib.hid b2
  clear b2 hb2 B1 G1
  go_wp2_with fail
  refine (none_any 3 (tt) (by omega) _).mono ?_
  rintro e w3 ⟨rfl, hb3⟩
  have b3 := B2.out.below hb3
  have G3 := Lib.hid (bw_below (Nat.le_refl _) G2.out hb3)
  clear l0 l1 l2 u0 u1 u2 x0 x1 x2 x3 x4 x5 z0 z1 z2 z3
  obtain ⟨l0, l1, l2, u0, u1, u2, x0, x1, x2, x3, x4, x5, z0, z1, z2, z3⟩ := b3.cells
  clear b3 hb3
  go_wp2
  refine bodyPost_ret (v := .tuple #[.agg #[.slice none 0 0, .int .i64 3, .int .i64 (bareT 3 (tt))], .agg #[.int .i64 0, .int .i64 0]]) (by simp [results, Try.results23, go_sem, x0, x1, x2, z0, z1]) rfl ⟨none, 0, rfl, Nat.le_refl _, isb_nil _ _ _, ?_⟩
  exact rb_end _ _ _ _ _ G3.out
end Go.Proofs.Ytkjollifghmkbaa
