/-
  The reference's row of the same whole points.
-/
import Derived.Test.YtkjollifghmkbaaRowForC
import Derived.Test.YtkjollifghmkbaaRowForD
namespace Go.Proofs.Ytkjollifghmkbaa
open Go.RowKit

set_option maxRecDepth 100000 in
set_option maxHeartbeats 30000000 in
theorem rwg_1 (A : Option Addr) (xs : List Int) (L c : Nat) (tt s : Int) (hL : L = xs.length) (hc : L ≤ c) (w : World) (h : Is w A xs) (h0 : chkC 1 tt xs 12 = 0) (hz : ¬ rK xs = 0) (hs : ((1 : Int) != 3) = true ∧ s = 1 ∨ ((1 : Int) != 3) = false ∧ s = sgnL (xs.take (rK xs))) (hf : inB ((s * (tt)) / (gcdK xs (rK xs) : Nat)) = true) :
    Calls Try.prog 23 #[.agg #[.slice A L c, .int .i64 1, .int .i64 tt]] w (GivesRF (byL s (xs.take (rK xs)) (gcdK xs (rK xs) : Nat)) 1 ((s * (tt)) / (gcdK xs (rK xs) : Nat)) 0 0 w) := by
  obtain ⟨hy, _, _, _, hle, hbad, hin⟩ := chk_zero h0
  have l12 : L ≤ 12 := by omega
  obtain ⟨i1, i2⟩ := inB_iff.1 hin
  have tw : IntKind.i64.wrap (tt - 1) = tt - 1 := IntWalk.i64_in _ (by omega)
  have HBa : Hid (∀ w, Is w A xs → Calls Try.prog 50 #[.slice A L c] w fun e w' => e = .returned (.slice A (rK xs) c) ∧ Below w.heap.size w w') := fun w hx => bare_b A xs L c hL hc (by omega) w hx
  have HX := Lib.hid h
  have hp : 0 < rK xs := by omega
  have r0 : ((rK xs : Int) == 0) = false := by simp; omega
  have hgp := gcdK_pos xs hp
  have hall := bad_all hbad
  have hrle := rK_le xs
  have hzl : rK xs = (xs.take (rK xs)).length := by rw [List.length_take]; omega
  have hib : ∀ i, i < rK xs → inB (nth (xs.take (rK xs)) i) = true := fun i hi => by rw [nth_take hi]; exact hall i (by omega)
  have hgk : gcdK (xs.take (rK xs)) (rK xs) = gcdK xs (rK xs) := gcdK_congr _ _ _ fun j hj => nth_take hj
  have hgle : gcdK xs (rK xs) ≤ 1000000 := gcdK_le xs _ fun j hj => hall j (by omega)
  have HXT := Lib.hid (is_take h (rK xs))
  have hcm := fun (w : World) (hw : Is w A (xs.take (rK xs))) => (common_any A (xs.take (rK xs)) (rK xs) c hzl (by omega) hib w hw).mono (fun e w' h => (⟨h.1, by obtain ⟨_, n, e⟩ := h; rw [e]; exact below_drewN (Below.refl _ _) n⟩ : e = _ ∧ Below w.heap.size w w'))
  rw [hgk] at hcm
  have HCM := Lib.hid hcm
  have r12 : rK xs ≤ 12 := by omega
  have hby := fun (w : World) (hw : Is w A (xs.take (rK xs))) => rowby_any A (xs.take (rK xs)) (rK xs) c 1 (tt) (gcdK xs (rK xs) : Nat) s hzl r12 (by omega) (by omega) (by omega) (by omega) (by omega) hib hs w hw
  have HBY := Lib.hid hby
  generalize rK xs = r at *
  generalize xs.take r = zs at *
  generalize gcdK xs r = g at *
  have gg1 : (1 : Int) ≤ g := by omega
  have gg2 : (g : Int) ≤ 1000000 := by omega
  have HF := Lib.hid hf
  clear hy hle hbad hall hib hgk hzl hcm h0 h hL hin hp
  clear hby hs hf hz hgp
  go_enter Try.func23, Try.ntmps23
  go_wp2_with fail
  go_quiet (fail)
  generalize hW : World.drewN _ nq = W
  have b1 : RB w.heap.size (.slice A L c) (.int .i64 1) (.int .i64 tt) W := hW ▸ (RB.drewN ⟨((HB.new w 24 #[.slice A L c, .int .i64 1, .int .i64 tt]).alloc (.cells #[.slice none 0 0, .int .i64 0, .int .i64 0] 24)).alloc (.cells #[.int .i64 0, .int .i64 0] 29), (HB.new1 w (.cells #[.slice A L c, .int .i64 1, .int .i64 tt] 24) 24 #[.slice none 0 0, .int .i64 0, .int .i64 0]).alloc (.cells #[.int .i64 0, .int .i64 0] 29), HB.new2 w (.cells #[.slice A L c, .int .i64 1, .int .i64 tt] 24) (.cells #[.slice none 0 0, .int .i64 0, .int .i64 0] 24) 29 #[.int .i64 0, .int .i64 0]⟩ nq)
  have G1 : Hid (Below w.heap.size w W) := hW ▸ below_drewN (by go_grown) nq
  have B1 := Lib.hid b1
  obtain ⟨l0, l1, l2, u0, u1, u2, x0, x1, x2, x3, x4, x5, z0, z1, z2, z3⟩ := b1.cells
  clear b1 hW
  go_wp2_with fail
  refine (HBa.out _ (HX.out.below G1.out)).mono ?_
  rintro e w2 ⟨rfl, hb2⟩
  have b2 := B1.out.below hb2
  have G2 := Lib.hid (bw_below (Nat.le_refl _) G1.out hb2)
  clear l0 l1 l2 u0 u1 u2 x0 x1 x2 x3 x4 x5 z0 z1 z2 z3
  obtain ⟨l0, l1, l2, u0, u1, u2, x0, x1, x2, x3, x4, x5, z0, z1, z2, z3⟩ := b2.cells
  have B2 := Lib.hid b2
  clear b2 hb2 B1 G1
  go_wp2_with fail
  refine (HCM.out _ (HXT.out.below G2.out)).mono ?_
  rintro e w3 ⟨rfl, hb3⟩
  have b3 := B2.out.below hb3
  have G3 := Lib.hid (bw_below (Nat.le_refl _) G2.out hb3)
  clear l0 l1 l2 u0 u1 u2 x0 x1 x2 x3 x4 x5 z0 z1 z2 z3
  obtain ⟨l0, l1, l2, u0, u1, u2, x0, x1, x2, x3, x4, x5, z0, z1, z2, z3⟩ := b3.cells
  have B3 := Lib.hid b3
  clear b3 hb3 B2 G2
  go_wp2_with fail
  refine (HBY.out _ (HXT.out.below G3.out)).mono ?_
  rintro e w4 ⟨A4, c4, rfl, hl4, hi4, hb4⟩
  have HL4 := Lib.hid hl4
  have HI4 := Lib.hid hi4
  have LW := Lib.hid B3.out.2.2.lt
  have b4 := B3.out.below hb4
  have G4 := Lib.hid (bw_below (Nat.le_refl _) G3.out hb4)
  clear l0 l1 l2 u0 u1 u2 x0 x1 x2 x3 x4 x5 z0 z1 z2 z3
  obtain ⟨l0, l1, l2, u0, u1, u2, x0, x1, x2, x3, x4, x5, z0, z1, z2, z3⟩ := b4.cells
  have B4 := Lib.hid b4
  clear b4 hb4 hl4 hi4 B3 G3
  go_wp2_with fail
  refine (fits_any _ _).mono ?_
  rintro e w5 ⟨rfl, rfl⟩
  rw [HF.out]
  go_wp2
  refine bodyPost_ret (v := .tuple #[.agg #[.slice A4 (byL s zs g).length c4, .int .i64 1, .int .i64 (s * (tt) / g)], .agg #[.int .i64 0, .int .i64 0]]) (by simp [results, Try.results23, go_sem, x0, x1, x2, z0, z1, l1, l2]) rfl ⟨A4, c4, rfl, HL4.out, ?_, ?_⟩
  · have lz := LW.out
    exact Isb.mono (((HI4.out.far_ (g := w.heap.size + 1) (by omega) (far3 w4 _ _ _ _)).far_ (g := w.heap.size + 1 + 1) (by omega) (far2 _ _ _ _)).below (new_below _ _)) (by omega)
  · exact (rb_end _ _ _ _ _ G4.out).alloc (by simp; omega) _
set_option maxRecDepth 100000 in
set_option maxHeartbeats 30000000 in
theorem rwg_2 (A : Option Addr) (xs : List Int) (L c : Nat) (tt s : Int) (hL : L = xs.length) (hc : L ≤ c) (w : World) (h : Is w A xs) (h0 : chkC 2 tt xs 12 = 0) (hz : ¬ rK xs = 0) (hs : ((1 : Int) != 3) = true ∧ s = 1 ∨ ((1 : Int) != 3) = false ∧ s = sgnL (xs.take (rK xs))) (hf : inB ((s * (tt - 1)) / (gcdK xs (rK xs) : Nat)) = true) :
    Calls Try.prog 23 #[.agg #[.slice A L c, .int .i64 2, .int .i64 tt]] w (GivesRF (byL s (xs.take (rK xs)) (gcdK xs (rK xs) : Nat)) 1 ((s * (tt - 1)) / (gcdK xs (rK xs) : Nat)) 0 0 w) := by
  obtain ⟨hy, _, _, _, hle, hbad, hin⟩ := chk_zero h0
  have l12 : L ≤ 12 := by omega
  obtain ⟨i1, i2⟩ := inB_iff.1 hin
  have tw : IntKind.i64.wrap (tt - 1) = tt - 1 := IntWalk.i64_in _ (by omega)
  have HBa : Hid (∀ w, Is w A xs → Calls Try.prog 50 #[.slice A L c] w fun e w' => e = .returned (.slice A (rK xs) c) ∧ Below w.heap.size w w') := fun w hx => bare_b A xs L c hL hc (by omega) w hx
  have HX := Lib.hid h
  have hp : 0 < rK xs := by omega
  have r0 : ((rK xs : Int) == 0) = false := by simp; omega
  have hgp := gcdK_pos xs hp
  have hall := bad_all hbad
  have hrle := rK_le xs
  have hzl : rK xs = (xs.take (rK xs)).length := by rw [List.length_take]; omega
  have hib : ∀ i, i < rK xs → inB (nth (xs.take (rK xs)) i) = true := fun i hi => by rw [nth_take hi]; exact hall i (by omega)
  have hgk : gcdK (xs.take (rK xs)) (rK xs) = gcdK xs (rK xs) := gcdK_congr _ _ _ fun j hj => nth_take hj
  have hgle : gcdK xs (rK xs) ≤ 1000000 := gcdK_le xs _ fun j hj => hall j (by omega)
  have HXT := Lib.hid (is_take h (rK xs))
  have hcm := fun (w : World) (hw : Is w A (xs.take (rK xs))) => (common_any A (xs.take (rK xs)) (rK xs) c hzl (by omega) hib w hw).mono (fun e w' h => (⟨h.1, by obtain ⟨_, n, e⟩ := h; rw [e]; exact below_drewN (Below.refl _ _) n⟩ : e = _ ∧ Below w.heap.size w w'))
  rw [hgk] at hcm
  have HCM := Lib.hid hcm
  have r12 : rK xs ≤ 12 := by omega
  have hby := fun (w : World) (hw : Is w A (xs.take (rK xs))) => rowby_any A (xs.take (rK xs)) (rK xs) c 1 (tt - 1) (gcdK xs (rK xs) : Nat) s hzl r12 (by omega) (by omega) (by omega) (by omega) (by omega) hib hs w hw
  have HBY := Lib.hid hby
  generalize rK xs = r at *
  generalize xs.take r = zs at *
  generalize gcdK xs r = g at *
  have gg1 : (1 : Int) ≤ g := by omega
  have gg2 : (g : Int) ≤ 1000000 := by omega
  have HF := Lib.hid hf
  clear hy hle hbad hall hib hgk hzl hcm h0 h hL hin hp
  clear hby hs hf hz hgp
  go_enter Try.func23, Try.ntmps23
  go_wp2_with fail
  go_quiet (fail)
  generalize hW : World.drewN _ nq = W
  have b1 : RB w.heap.size (.slice A L c) (.int .i64 2) (.int .i64 tt) W := hW ▸ (RB.drewN ⟨((HB.new w 24 #[.slice A L c, .int .i64 2, .int .i64 tt]).alloc (.cells #[.slice none 0 0, .int .i64 0, .int .i64 0] 24)).alloc (.cells #[.int .i64 0, .int .i64 0] 29), (HB.new1 w (.cells #[.slice A L c, .int .i64 2, .int .i64 tt] 24) 24 #[.slice none 0 0, .int .i64 0, .int .i64 0]).alloc (.cells #[.int .i64 0, .int .i64 0] 29), HB.new2 w (.cells #[.slice A L c, .int .i64 2, .int .i64 tt] 24) (.cells #[.slice none 0 0, .int .i64 0, .int .i64 0] 24) 29 #[.int .i64 0, .int .i64 0]⟩ nq)
  have G1 : Hid (Below w.heap.size w W) := hW ▸ below_drewN (by go_grown) nq
  have B1 := Lib.hid b1
  obtain ⟨l0, l1, l2, u0, u1, u2, x0, x1, x2, x3, x4, x5, z0, z1, z2, z3⟩ := b1.cells
  clear b1 hW
  go_wp2_with fail
  refine (HBa.out _ (HX.out.below G1.out)).mono ?_
  rintro e w2 ⟨rfl, hb2⟩
  have b2 := B1.out.below hb2
  have G2 := Lib.hid (bw_below (Nat.le_refl _) G1.out hb2)
  clear l0 l1 l2 u0 u1 u2 x0 x1 x2 x3 x4 x5 z0 z1 z2 z3
  obtain ⟨l0, l1, l2, u0, u1, u2, x0, x1, x2, x3, x4, x5, z0, z1, z2, z3⟩ := b2.cells
  have B2 := Lib.hid b2
  clear b2 hb2 B1 G1
  go_wp2_with fail
  refine (HCM.out _ (HXT.out.below G2.out)).mono ?_
  rintro e w3 ⟨rfl, hb3⟩
  have b3 := B2.out.below hb3
  have G3 := Lib.hid (bw_below (Nat.le_refl _) G2.out hb3)
  clear l0 l1 l2 u0 u1 u2 x0 x1 x2 x3 x4 x5 z0 z1 z2 z3
  obtain ⟨l0, l1, l2, u0, u1, u2, x0, x1, x2, x3, x4, x5, z0, z1, z2, z3⟩ := b3.cells
  have B3 := Lib.hid b3
  clear b3 hb3 B2 G2
  go_wp2_with fail
  refine (HBY.out _ (HXT.out.below G3.out)).mono ?_
  rintro e w4 ⟨A4, c4, rfl, hl4, hi4, hb4⟩
  have HL4 := Lib.hid hl4
  have HI4 := Lib.hid hi4
  have LW := Lib.hid B3.out.2.2.lt
  have b4 := B3.out.below hb4
  have G4 := Lib.hid (bw_below (Nat.le_refl _) G3.out hb4)
  clear l0 l1 l2 u0 u1 u2 x0 x1 x2 x3 x4 x5 z0 z1 z2 z3
  obtain ⟨l0, l1, l2, u0, u1, u2, x0, x1, x2, x3, x4, x5, z0, z1, z2, z3⟩ := b4.cells
  have B4 := Lib.hid b4
  clear b4 hb4 hl4 hi4 B3 G3
  go_wp2_with fail
  refine (fits_any _ _).mono ?_
  rintro e w5 ⟨rfl, rfl⟩
  rw [HF.out]
  go_wp2
  refine bodyPost_ret (v := .tuple #[.agg #[.slice A4 (byL s zs g).length c4, .int .i64 1, .int .i64 (s * (tt - 1) / g)], .agg #[.int .i64 0, .int .i64 0]]) (by simp [results, Try.results23, go_sem, x0, x1, x2, z0, z1, l1, l2]) rfl ⟨A4, c4, rfl, HL4.out, ?_, ?_⟩
  · have lz := LW.out
    exact Isb.mono (((HI4.out.far_ (g := w.heap.size + 1) (by omega) (far3 w4 _ _ _ _)).far_ (g := w.heap.size + 1 + 1) (by omega) (far2 _ _ _ _)).below (new_below _ _)) (by omega)
  · exact (rb_end _ _ _ _ _ G4.out).alloc (by simp; omega) _
set_option maxRecDepth 100000 in
set_option maxHeartbeats 30000000 in
theorem rwg_3 (A : Option Addr) (xs : List Int) (L c : Nat) (tt s : Int) (hL : L = xs.length) (hc : L ≤ c) (w : World) (h : Is w A xs) (h0 : chkC 3 tt xs 12 = 0) (hz : ¬ rK xs = 0) (hs : ((3 : Int) != 3) = true ∧ s = 1 ∨ ((3 : Int) != 3) = false ∧ s = sgnL (xs.take (rK xs))) (hf : inB ((s * (tt)) / (gcdK xs (rK xs) : Nat)) = true) (hd : (gcdK [(gcdK xs (rK xs) : Int), tt] 2 : Int) = gcdK xs (rK xs)) :
    Calls Try.prog 23 #[.agg #[.slice A L c, .int .i64 3, .int .i64 tt]] w (GivesRF (byL s (xs.take (rK xs)) (gcdK xs (rK xs) : Nat)) 3 ((s * (tt)) / (gcdK xs (rK xs) : Nat)) 0 0 w) := by
  obtain ⟨hy, _, _, _, hle, hbad, hin⟩ := chk_zero h0
  have l12 : L ≤ 12 := by omega
  obtain ⟨i1, i2⟩ := inB_iff.1 hin
  have tw : IntKind.i64.wrap (tt - 1) = tt - 1 := IntWalk.i64_in _ (by omega)
  have HBa : Hid (∀ w, Is w A xs → Calls Try.prog 50 #[.slice A L c] w fun e w' => e = .returned (.slice A (rK xs) c) ∧ Below w.heap.size w w') := fun w hx => bare_b A xs L c hL hc (by omega) w hx
  have HX := Lib.hid h
  have hp : 0 < rK xs := by omega
  have r0 : ((rK xs : Int) == 0) = false := by simp; omega
  have hgp := gcdK_pos xs hp
  have hall := bad_all hbad
  have hrle := rK_le xs
  have hzl : rK xs = (xs.take (rK xs)).length := by rw [List.length_take]; omega
  have hib : ∀ i, i < rK xs → inB (nth (xs.take (rK xs)) i) = true := fun i hi => by rw [nth_take hi]; exact hall i (by omega)
  have hgk : gcdK (xs.take (rK xs)) (rK xs) = gcdK xs (rK xs) := gcdK_congr _ _ _ fun j hj => nth_take hj
  have hgle : gcdK xs (rK xs) ≤ 1000000 := gcdK_le xs _ fun j hj => hall j (by omega)
  have HXT := Lib.hid (is_take h (rK xs))
  have hcm := fun (w : World) (hw : Is w A (xs.take (rK xs))) => (common_any A (xs.take (rK xs)) (rK xs) c hzl (by omega) hib w hw).mono (fun e w' h => (⟨h.1, by obtain ⟨_, n, e⟩ := h; rw [e]; exact below_drewN (Below.refl _ _) n⟩ : e = _ ∧ Below w.heap.size w w'))
  rw [hgk] at hcm
  have HCM := Lib.hid hcm
  have r12 : rK xs ≤ 12 := by omega
  have hby := fun (w : World) (hw : Is w A (xs.take (rK xs))) => rowby_any A (xs.take (rK xs)) (rK xs) c 3 (tt) (gcdK xs (rK xs) : Nat) s hzl r12 (by omega) (by omega) (by omega) (by omega) (by omega) hib hs w hw
  have HBY := Lib.hid hby
  generalize rK xs = r at *
  generalize xs.take r = zs at *
  generalize gcdK xs r = g at *
  have gg1 : (1 : Int) ≤ g := by omega
  have gg2 : (g : Int) ≤ 1000000 := by omega
  have HF := Lib.hid hf
  have hc3 := fun (W : World) (b : Nat) (hw : HB W b 3 #[.int .i64 g, .int .i64 tt]) => (common_any (some ⟨b, 0, none⟩) [(g : Int), tt] 2 2 rfl (by omega) (by intro i hi; rcases i with _ | _ | i <;> first | exact inB_iff.2 ⟨by show _ ≤ (g : Int); omega, by show (g : Int) ≤ _; omega⟩ | exact hin | (exfalso; omega)) W (is_row hw (by intro k hk; rcases k with _ | _ | k <;> first | rfl | (exfalso; simp at hk; omega)))).mono (fun e w' h => (⟨h.1, by obtain ⟨_, n, e⟩ := h; rw [e]; exact below_drewN (Below.refl _ _) n⟩ : e = _ ∧ Below W.heap.size W w'))
  rw [hd] at hc3
  have HC3 := Lib.hid hc3
  clear hc3 hd
  clear hy hle hbad hall hib hgk hzl hcm h0 h hL hin hp
  clear hby hs hf hz hgp
  go_enter Try.func23, Try.ntmps23
  go_wp2_with fail
  go_quiet (fail)
  generalize hW : World.drewN _ nq = W
  have b1 : RB w.heap.size (.slice A L c) (.int .i64 3) (.int .i64 tt) W := hW ▸ (RB.drewN ⟨((HB.new w 24 #[.slice A L c, .int .i64 3, .int .i64 tt]).alloc (.cells #[.slice none 0 0, .int .i64 0, .int .i64 0] 24)).alloc (.cells #[.int .i64 0, .int .i64 0] 29), (HB.new1 w (.cells #[.slice A L c, .int .i64 3, .int .i64 tt] 24) 24 #[.slice none 0 0, .int .i64 0, .int .i64 0]).alloc (.cells #[.int .i64 0, .int .i64 0] 29), HB.new2 w (.cells #[.slice A L c, .int .i64 3, .int .i64 tt] 24) (.cells #[.slice none 0 0, .int .i64 0, .int .i64 0] 24) 29 #[.int .i64 0, .int .i64 0]⟩ nq)
  have G1 : Hid (Below w.heap.size w W) := hW ▸ below_drewN (by go_grown) nq
  have B1 := Lib.hid b1
  obtain ⟨l0, l1, l2, u0, u1, u2, x0, x1, x2, x3, x4, x5, z0, z1, z2, z3⟩ := b1.cells
  clear b1 hW
  go_wp2_with fail
  refine (HBa.out _ (HX.out.below G1.out)).mono ?_
  rintro e w2 ⟨rfl, hb2⟩
  have b2 := B1.out.below hb2
  have G2 := Lib.hid (bw_below (Nat.le_refl _) G1.out hb2)
  clear l0 l1 l2 u0 u1 u2 x0 x1 x2 x3 x4 x5 z0 z1 z2 z3
  obtain ⟨l0, l1, l2, u0, u1, u2, x0, x1, x2, x3, x4, x5, z0, z1, z2, z3⟩ := b2.cells
  have B2 := Lib.hid b2
  clear b2 hb2 B1 G1
  go_wp2_with fail
  refine (HCM.out _ (HXT.out.below G2.out)).mono ?_
  rintro e w3 ⟨rfl, hb3⟩
  have b3 := B2.out.below hb3
  have G3 := Lib.hid (bw_below (Nat.le_refl _) G2.out hb3)
  clear l0 l1 l2 u0 u1 u2 x0 x1 x2 x3 x4 x5 z0 z1 z2 z3
  obtain ⟨l0, l1, l2, u0, u1, u2, x0, x1, x2, x3, x4, x5, z0, z1, z2, z3⟩ := b3.cells
  have B3 := Lib.hid b3
  clear b3 hb3 B2 G2
  go_wp2_with fail
  refine (HC3.out _ _ (HB.new _ _ _)).mono ?_
  rintro e w3' ⟨rfl, hb3⟩
  have b3 := (B3.out.alloc _).below hb3
  have G3' := Lib.hid (below_after G3.out (below_after (new_below _ _) hb3))
  clear l0 l1 l2 u0 u1 u2 x0 x1 x2 x3 x4 x5 z0 z1 z2 z3
  obtain ⟨l0, l1, l2, u0, u1, u2, x0, x1, x2, x3, x4, x5, z0, z1, z2, z3⟩ := b3.cells
  clear B3 G3
  have B3 := Lib.hid b3
  have G3 := G3'
  clear b3 hb3 G3'
  go_wp2_with fail
  refine (HBY.out _ (HXT.out.below G3.out)).mono ?_
  rintro e w4 ⟨A4, c4, rfl, hl4, hi4, hb4⟩
  have HL4 := Lib.hid hl4
  have HI4 := Lib.hid hi4
  have LW := Lib.hid B3.out.2.2.lt
  have b4 := B3.out.below hb4
  have G4 := Lib.hid (bw_below (Nat.le_refl _) G3.out hb4)
  clear l0 l1 l2 u0 u1 u2 x0 x1 x2 x3 x4 x5 z0 z1 z2 z3
  obtain ⟨l0, l1, l2, u0, u1, u2, x0, x1, x2, x3, x4, x5, z0, z1, z2, z3⟩ := b4.cells
  have B4 := Lib.hid b4
  clear b4 hb4 hl4 hi4 B3 G3
  go_wp2_with fail
  refine (fits_any _ _).mono ?_
  rintro e w5 ⟨rfl, rfl⟩
  rw [HF.out]
  go_wp2
  refine bodyPost_ret (v := .tuple #[.agg #[.slice A4 (byL s zs g).length c4, .int .i64 3, .int .i64 (s * (tt) / g)], .agg #[.int .i64 0, .int .i64 0]]) (by simp [results, Try.results23, go_sem, x0, x1, x2, z0, z1, l1, l2]) rfl ⟨A4, c4, rfl, HL4.out, ?_, ?_⟩
  · have lz := LW.out
    exact Isb.mono (((HI4.out.far_ (g := w.heap.size + 1) (by omega) (far3 w4 _ _ _ _)).far_ (g := w.heap.size + 1 + 1) (by omega) (far2 _ _ _ _)).below (new_below _ _)) (by omega)
  · exact (rb_end _ _ _ _ _ G4.out).alloc (by simp; omega) _
set_option maxRecDepth 100000 in
set_option maxHeartbeats 30000000 in
theorem rwb_1 (A : Option Addr) (xs : List Int) (L c : Nat) (tt s : Int) (hL : L = xs.length) (hc : L ≤ c) (w : World) (h : Is w A xs) (h0 : chkC 1 tt xs 12 = 0) (hz : ¬ rK xs = 0) (hs : ((1 : Int) != 3) = true ∧ s = 1 ∨ ((1 : Int) != 3) = false ∧ s = sgnL (xs.take (rK xs))) (hf : inB ((s * (tt)) / (gcdK xs (rK xs) : Nat)) = false) :
    Calls Try.prog 23 #[.agg #[.slice A L c, .int .i64 1, .int .i64 tt]] w (GivesRF [] 0 0 10 0 w) := by
  obtain ⟨hy, _, _, _, hle, hbad, hin⟩ := chk_zero h0
  have l12 : L ≤ 12 := by omega
  obtain ⟨i1, i2⟩ := inB_iff.1 hin
  have tw : IntKind.i64.wrap (tt - 1) = tt - 1 := IntWalk.i64_in _ (by omega)
  have HBa : Hid (∀ w, Is w A xs → Calls Try.prog 50 #[.slice A L c] w fun e w' => e = .returned (.slice A (rK xs) c) ∧ Below w.heap.size w w') := fun w hx => bare_b A xs L c hL hc (by omega) w hx
  have HX := Lib.hid h
  have hp : 0 < rK xs := by omega
  have r0 : ((rK xs : Int) == 0) = false := by simp; omega
  have hgp := gcdK_pos xs hp
  have hall := bad_all hbad
  have hrle := rK_le xs
  have hzl : rK xs = (xs.take (rK xs)).length := by rw [List.length_take]; omega
  have hib : ∀ i, i < rK xs → inB (nth (xs.take (rK xs)) i) = true := fun i hi => by rw [nth_take hi]; exact hall i (by omega)
  have hgk : gcdK (xs.take (rK xs)) (rK xs) = gcdK xs (rK xs) := gcdK_congr _ _ _ fun j hj => nth_take hj
  have hgle : gcdK xs (rK xs) ≤ 1000000 := gcdK_le xs _ fun j hj => hall j (by omega)
  have HXT := Lib.hid (is_take h (rK xs))
  have hcm := fun (w : World) (hw : Is w A (xs.take (rK xs))) => (common_any A (xs.take (rK xs)) (rK xs) c hzl (by omega) hib w hw).mono (fun e w' h => (⟨h.1, by obtain ⟨_, n, e⟩ := h; rw [e]; exact below_drewN (Below.refl _ _) n⟩ : e = _ ∧ Below w.heap.size w w'))
  rw [hgk] at hcm
  have HCM := Lib.hid hcm
  have r12 : rK xs ≤ 12 := by omega
  have hby := fun (w : World) (hw : Is w A (xs.take (rK xs))) => rowby_any A (xs.take (rK xs)) (rK xs) c 1 (tt) (gcdK xs (rK xs) : Nat) s hzl r12 (by omega) (by omega) (by omega) (by omega) (by omega) hib hs w hw
  have HBY := Lib.hid hby
  generalize rK xs = r at *
  generalize xs.take r = zs at *
  generalize gcdK xs r = g at *
  have gg1 : (1 : Int) ≤ g := by omega
  have gg2 : (g : Int) ≤ 1000000 := by omega
  have HF := Lib.hid hf
  clear hy hle hbad hall hib hgk hzl hcm h0 h hL hin hp
  clear hby hs hf hz hgp
  go_enter Try.func23, Try.ntmps23
  go_wp2_with fail
  go_quiet (fail)
  generalize hW : World.drewN _ nq = W
  have b1 : RB w.heap.size (.slice A L c) (.int .i64 1) (.int .i64 tt) W := hW ▸ (RB.drewN ⟨((HB.new w 24 #[.slice A L c, .int .i64 1, .int .i64 tt]).alloc (.cells #[.slice none 0 0, .int .i64 0, .int .i64 0] 24)).alloc (.cells #[.int .i64 0, .int .i64 0] 29), (HB.new1 w (.cells #[.slice A L c, .int .i64 1, .int .i64 tt] 24) 24 #[.slice none 0 0, .int .i64 0, .int .i64 0]).alloc (.cells #[.int .i64 0, .int .i64 0] 29), HB.new2 w (.cells #[.slice A L c, .int .i64 1, .int .i64 tt] 24) (.cells #[.slice none 0 0, .int .i64 0, .int .i64 0] 24) 29 #[.int .i64 0, .int .i64 0]⟩ nq)
  have G1 : Hid (Below w.heap.size w W) := hW ▸ below_drewN (by go_grown) nq
  have B1 := Lib.hid b1
  obtain ⟨l0, l1, l2, u0, u1, u2, x0, x1, x2, x3, x4, x5, z0, z1, z2, z3⟩ := b1.cells
  clear b1 hW
  go_wp2_with fail
  refine (HBa.out _ (HX.out.below G1.out)).mono ?_
  rintro e w2 ⟨rfl, hb2⟩
  have b2 := B1.out.below hb2
  have G2 := Lib.hid (bw_below (Nat.le_refl _) G1.out hb2)
  clear l0 l1 l2 u0 u1 u2 x0 x1 x2 x3 x4 x5 z0 z1 z2 z3
  obtain ⟨l0, l1, l2, u0, u1, u2, x0, x1, x2, x3, x4, x5, z0, z1, z2, z3⟩ := b2.cells
  have B2 := Lib.hid b2
  clear b2 hb2 B1 G1
  go_wp2_with fail
  refine (HCM.out _ (HXT.out.below G2.out)).mono ?_
  rintro e w3 ⟨rfl, hb3⟩
  have b3 := B2.out.below hb3
  have G3 := Lib.hid (bw_below (Nat.le_refl _) G2.out hb3)
  clear l0 l1 l2 u0 u1 u2 x0 x1 x2 x3 x4 x5 z0 z1 z2 z3
  obtain ⟨l0, l1, l2, u0, u1, u2, x0, x1, x2, x3, x4, x5, z0, z1, z2, z3⟩ := b3.cells
  have B3 := Lib.hid b3
  clear b3 hb3 B2 G2
  go_wp2_with fail
  refine (HBY.out _ (HXT.out.below G3.out)).mono ?_
  rintro e w4 ⟨A4, c4, rfl, hl4, hi4, hb4⟩
  have HL4 := Lib.hid hl4
  have HI4 := Lib.hid hi4
  have LW := Lib.hid B3.out.2.2.lt
  have b4 := B3.out.below hb4
  have G4 := Lib.hid (bw_below (Nat.le_refl _) G3.out hb4)
  clear l0 l1 l2 u0 u1 u2 x0 x1 x2 x3 x4 x5 z0 z1 z2 z3
  obtain ⟨l0, l1, l2, u0, u1, u2, x0, x1, x2, x3, x4, x5, z0, z1, z2, z3⟩ := b4.cells
  have B4 := Lib.hid b4
  clear b4 hb4 hl4 hi4 B3 G3
  go_wp2_with fail
  refine (fits_any _ _).mono ?_
  rintro e w5 ⟨rfl, rfl⟩
  rw [HF.out]
  go_wp2_with fail
  refine (fault_any _ _ _).mono ?_
  rintro e w6 ⟨rfl, hb6⟩
  have b6 := (B4.out.alloc _).below hb6
  have G6 := Lib.hid (below_after G4.out (below_after (new_below _ _) hb6))
  clear l0 l1 l2 u0 u1 u2 x0 x1 x2 x3 x4 x5 z0 z1 z2 z3
  obtain ⟨l0, l1, l2, u0, u1, u2, x0, x1, x2, x3, x4, x5, z0, z1, z2, z3⟩ := b6.cells
  clear b6 hb6 B4
  go_wp2
  refine bodyPost_ret (v := .tuple #[.agg #[.slice none 0 0, .int .i64 0, .int .i64 0], .agg #[.int .i64 10, .int .i64 0]]) (by simp [results, Try.results23, go_sem, x0, x1, x2, z0, z1]) rfl ⟨none, 0, rfl, Nat.le_refl _, isb_nil _ _ _, ?_⟩
  exact rb_end _ _ _ _ _ G6.out
set_option maxRecDepth 100000 in
set_option maxHeartbeats 30000000 in
theorem rwb_2 (A : Option Addr) (xs : List Int) (L c : Nat) (tt s : Int) (hL : L = xs.length) (hc : L ≤ c) (w : World) (h : Is w A xs) (h0 : chkC 2 tt xs 12 = 0) (hz : ¬ rK xs = 0) (hs : ((1 : Int) != 3) = true ∧ s = 1 ∨ ((1 : Int) != 3) = false ∧ s = sgnL (xs.take (rK xs))) (hf : inB ((s * (tt - 1)) / (gcdK xs (rK xs) : Nat)) = false) :
    Calls Try.prog 23 #[.agg #[.slice A L c, .int .i64 2, .int .i64 tt]] w (GivesRF [] 0 0 10 0 w) := by
  obtain ⟨hy, _, _, _, hle, hbad, hin⟩ := chk_zero h0
  have l12 : L ≤ 12 := by omega
  obtain ⟨i1, i2⟩ := inB_iff.1 hin
  have tw : IntKind.i64.wrap (tt - 1) = tt - 1 := IntWalk.i64_in _ (by omega)
  have HBa : Hid (∀ w, Is w A xs → Calls Try.prog 50 #[.slice A L c] w fun e w' => e = .returned (.slice A (rK xs) c) ∧ Below w.heap.size w w') := fun w hx => bare_b A xs L c hL hc (by omega) w hx
  have HX := Lib.hid h
  have hp : 0 < rK xs := by omega
  have r0 : ((rK xs : Int) == 0) = false := by simp; omega
  have hgp := gcdK_pos xs hp
  have hall := bad_all hbad
  have hrle := rK_le xs
  have hzl : rK xs = (xs.take (rK xs)).length := by rw [List.length_take]; omega
  have hib : ∀ i, i < rK xs → inB (nth (xs.take (rK xs)) i) = true := fun i hi => by rw [nth_take hi]; exact hall i (by omega)
  have hgk : gcdK (xs.take (rK xs)) (rK xs) = gcdK xs (rK xs) := gcdK_congr _ _ _ fun j hj => nth_take hj
  have hgle : gcdK xs (rK xs) ≤ 1000000 := gcdK_le xs _ fun j hj => hall j (by omega)
  have HXT := Lib.hid (is_take h (rK xs))
  have hcm := fun (w : World) (hw : Is w A (xs.take (rK xs))) => (common_any A (xs.take (rK xs)) (rK xs) c hzl (by omega) hib w hw).mono (fun e w' h => (⟨h.1, by obtain ⟨_, n, e⟩ := h; rw [e]; exact below_drewN (Below.refl _ _) n⟩ : e = _ ∧ Below w.heap.size w w'))
  rw [hgk] at hcm
  have HCM := Lib.hid hcm
  have r12 : rK xs ≤ 12 := by omega
  have hby := fun (w : World) (hw : Is w A (xs.take (rK xs))) => rowby_any A (xs.take (rK xs)) (rK xs) c 1 (tt - 1) (gcdK xs (rK xs) : Nat) s hzl r12 (by omega) (by omega) (by omega) (by omega) (by omega) hib hs w hw
  have HBY := Lib.hid hby
  generalize rK xs = r at *
  generalize xs.take r = zs at *
  generalize gcdK xs r = g at *
  have gg1 : (1 : Int) ≤ g := by omega
  have gg2 : (g : Int) ≤ 1000000 := by omega
  have HF := Lib.hid hf
  clear hy hle hbad hall hib hgk hzl hcm h0 h hL hin hp
  clear hby hs hf hz hgp
  go_enter Try.func23, Try.ntmps23
  go_wp2_with fail
  go_quiet (fail)
  generalize hW : World.drewN _ nq = W
  have b1 : RB w.heap.size (.slice A L c) (.int .i64 2) (.int .i64 tt) W := hW ▸ (RB.drewN ⟨((HB.new w 24 #[.slice A L c, .int .i64 2, .int .i64 tt]).alloc (.cells #[.slice none 0 0, .int .i64 0, .int .i64 0] 24)).alloc (.cells #[.int .i64 0, .int .i64 0] 29), (HB.new1 w (.cells #[.slice A L c, .int .i64 2, .int .i64 tt] 24) 24 #[.slice none 0 0, .int .i64 0, .int .i64 0]).alloc (.cells #[.int .i64 0, .int .i64 0] 29), HB.new2 w (.cells #[.slice A L c, .int .i64 2, .int .i64 tt] 24) (.cells #[.slice none 0 0, .int .i64 0, .int .i64 0] 24) 29 #[.int .i64 0, .int .i64 0]⟩ nq)
  have G1 : Hid (Below w.heap.size w W) := hW ▸ below_drewN (by go_grown) nq
  have B1 := Lib.hid b1
  obtain ⟨l0, l1, l2, u0, u1, u2, x0, x1, x2, x3, x4, x5, z0, z1, z2, z3⟩ := b1.cells
  clear b1 hW
  go_wp2_with fail
  refine (HBa.out _ (HX.out.below G1.out)).mono ?_
  rintro e w2 ⟨rfl, hb2⟩
  have b2 := B1.out.below hb2
  have G2 := Lib.hid (bw_below (Nat.le_refl _) G1.out hb2)
  clear l0 l1 l2 u0 u1 u2 x0 x1 x2 x3 x4 x5 z0 z1 z2 z3
  obtain ⟨l0, l1, l2, u0, u1, u2, x0, x1, x2, x3, x4, x5, z0, z1, z2, z3⟩ := b2.cells
  have B2 := Lib.hid b2
  clear b2 hb2 B1 G1
  go_wp2_with fail
  refine (HCM.out _ (HXT.out.below G2.out)).mono ?_
  rintro e w3 ⟨rfl, hb3⟩
  have b3 := B2.out.below hb3
  have G3 := Lib.hid (bw_below (Nat.le_refl _) G2.out hb3)
  clear l0 l1 l2 u0 u1 u2 x0 x1 x2 x3 x4 x5 z0 z1 z2 z3
  obtain ⟨l0, l1, l2, u0, u1, u2, x0, x1, x2, x3, x4, x5, z0, z1, z2, z3⟩ := b3.cells
  have B3 := Lib.hid b3
  clear b3 hb3 B2 G2
  go_wp2_with fail
  refine (HBY.out _ (HXT.out.below G3.out)).mono ?_
  rintro e w4 ⟨A4, c4, rfl, hl4, hi4, hb4⟩
  have HL4 := Lib.hid hl4
  have HI4 := Lib.hid hi4
  have LW := Lib.hid B3.out.2.2.lt
  have b4 := B3.out.below hb4
  have G4 := Lib.hid (bw_below (Nat.le_refl _) G3.out hb4)
  clear l0 l1 l2 u0 u1 u2 x0 x1 x2 x3 x4 x5 z0 z1 z2 z3
  obtain ⟨l0, l1, l2, u0, u1, u2, x0, x1, x2, x3, x4, x5, z0, z1, z2, z3⟩ := b4.cells
  have B4 := Lib.hid b4
  clear b4 hb4 hl4 hi4 B3 G3
  go_wp2_with fail
  refine (fits_any _ _).mono ?_
  rintro e w5 ⟨rfl, rfl⟩
  rw [HF.out]
  go_wp2_with fail
  refine (fault_any _ _ _).mono ?_
  rintro e w6 ⟨rfl, hb6⟩
  have b6 := (B4.out.alloc _).below hb6
  have G6 := Lib.hid (below_after G4.out (below_after (new_below _ _) hb6))
  clear l0 l1 l2 u0 u1 u2 x0 x1 x2 x3 x4 x5 z0 z1 z2 z3
  obtain ⟨l0, l1, l2, u0, u1, u2, x0, x1, x2, x3, x4, x5, z0, z1, z2, z3⟩ := b6.cells
  clear b6 hb6 B4
  go_wp2
  refine bodyPost_ret (v := .tuple #[.agg #[.slice none 0 0, .int .i64 0, .int .i64 0], .agg #[.int .i64 10, .int .i64 0]]) (by simp [results, Try.results23, go_sem, x0, x1, x2, z0, z1]) rfl ⟨none, 0, rfl, Nat.le_refl _, isb_nil _ _ _, ?_⟩
  exact rb_end _ _ _ _ _ G6.out
set_option maxRecDepth 100000 in
set_option maxHeartbeats 30000000 in
theorem rwn_3 (A : Option Addr) (xs : List Int) (L c : Nat) (tt : Int) (hL : L = xs.length) (hc : L ≤ c) (w : World) (h : Is w A xs) (h0 : chkC 3 tt xs 12 = 0) (hz : ¬ rK xs = 0) (m : Nat) (hd : (gcdK [(gcdK xs (rK xs) : Int), tt] 2) = m) (hne : m ≠ gcdK xs (rK xs)) :
    Calls Try.prog 23 #[.agg #[.slice A L c, .int .i64 3, .int .i64 tt]] w (GivesRF [] 3 1 0 0 w) := by
  obtain ⟨hy, _, _, _, hle, hbad, hin⟩ := chk_zero h0
  have l12 : L ≤ 12 := by omega
  obtain ⟨i1, i2⟩ := inB_iff.1 hin
  have tw : IntKind.i64.wrap (tt - 1) = tt - 1 := IntWalk.i64_in _ (by omega)
  have HBa : Hid (∀ w, Is w A xs → Calls Try.prog 50 #[.slice A L c] w fun e w' => e = .returned (.slice A (rK xs) c) ∧ Below w.heap.size w w') := fun w hx => bare_b A xs L c hL hc (by omega) w hx
  have HX := Lib.hid h
  have hp : 0 < rK xs := by omega
  have r0 : ((rK xs : Int) == 0) = false := by simp; omega
  have hgp := gcdK_pos xs hp
  have hall := bad_all hbad
  have hrle := rK_le xs
  have hzl : rK xs = (xs.take (rK xs)).length := by rw [List.length_take]; omega
  have hib : ∀ i, i < rK xs → inB (nth (xs.take (rK xs)) i) = true := fun i hi => by rw [nth_take hi]; exact hall i (by omega)
  have hgk : gcdK (xs.take (rK xs)) (rK xs) = gcdK xs (rK xs) := gcdK_congr _ _ _ fun j hj => nth_take hj
  have hgle : gcdK xs (rK xs) ≤ 1000000 := gcdK_le xs _ fun j hj => hall j (by omega)
  have HXT := Lib.hid (is_take h (rK xs))
  have hcm := fun (w : World) (hw : Is w A (xs.take (rK xs))) => (common_any A (xs.take (rK xs)) (rK xs) c hzl (by omega) hib w hw).mono (fun e w' h => (⟨h.1, by obtain ⟨_, n, e⟩ := h; rw [e]; exact below_drewN (Below.refl _ _) n⟩ : e = _ ∧ Below w.heap.size w w'))
  rw [hgk] at hcm
  have HCM := Lib.hid hcm
  have r12 : rK xs ≤ 12 := by omega
  generalize rK xs = r at *
  generalize xs.take r = zs at *
  generalize gcdK xs r = g at *
  have gg1 : (1 : Int) ≤ g := by omega
  have gg2 : (g : Int) ≤ 1000000 := by omega
  have nq1 : ((m : Int) != g) = true := by simp; omega
  have hc3 := fun (W : World) (b : Nat) (hw : HB W b 3 #[.int .i64 g, .int .i64 tt]) => (common_any (some ⟨b, 0, none⟩) [(g : Int), tt] 2 2 rfl (by omega) (by intro i hi; rcases i with _ | _ | i <;> first | exact inB_iff.2 ⟨by show _ ≤ (g : Int); omega, by show (g : Int) ≤ _; omega⟩ | exact hin | (exfalso; omega)) W (is_row hw (by intro k hk; rcases k with _ | _ | k <;> first | rfl | (exfalso; simp at hk; omega)))).mono (fun e w' h => (⟨h.1, by obtain ⟨_, n, e⟩ := h; rw [e]; exact below_drewN (Below.refl _ _) n⟩ : e = _ ∧ Below W.heap.size W w'))
  rw [hd] at hc3
  have HC3 := Lib.hid hc3
  clear hc3 hd
  clear hy hle hbad hall hib hgk hzl hcm h0 h hL hin hp
  clear hz hgp hne
  go_enter Try.func23, Try.ntmps23
  go_wp2_with fail
  go_quiet (fail)
  generalize hW : World.drewN _ nq = W
  have b1 : RB w.heap.size (.slice A L c) (.int .i64 3) (.int .i64 tt) W := hW ▸ (RB.drewN ⟨((HB.new w 24 #[.slice A L c, .int .i64 3, .int .i64 tt]).alloc (.cells #[.slice none 0 0, .int .i64 0, .int .i64 0] 24)).alloc (.cells #[.int .i64 0, .int .i64 0] 29), (HB.new1 w (.cells #[.slice A L c, .int .i64 3, .int .i64 tt] 24) 24 #[.slice none 0 0, .int .i64 0, .int .i64 0]).alloc (.cells #[.int .i64 0, .int .i64 0] 29), HB.new2 w (.cells #[.slice A L c, .int .i64 3, .int .i64 tt] 24) (.cells #[.slice none 0 0, .int .i64 0, .int .i64 0] 24) 29 #[.int .i64 0, .int .i64 0]⟩ nq)
  have G1 : Hid (Below w.heap.size w W) := hW ▸ below_drewN (by go_grown) nq
  have B1 := Lib.hid b1
  obtain ⟨l0, l1, l2, u0, u1, u2, x0, x1, x2, x3, x4, x5, z0, z1, z2, z3⟩ := b1.cells
  clear b1 hW
  go_wp2_with fail
  refine (HBa.out _ (HX.out.below G1.out)).mono ?_
  rintro e w2 ⟨rfl, hb2⟩
  have b2 := B1.out.below hb2
  have G2 := Lib.hid (bw_below (Nat.le_refl _) G1.out hb2)
  clear l0 l1 l2 u0 u1 u2 x0 x1 x2 x3 x4 x5 z0 z1 z2 z3
  obtain ⟨l0, l1, l2, u0, u1, u2, x0, x1, x2, x3, x4, x5, z0, z1, z2, z3⟩ := b2.cells
  have B2 := Lib.hid b2
  clear b2 hb2 B1 G1
  go_wp2_with fail
  refine (HCM.out _ (HXT.out.below G2.out)).mono ?_
  rintro e w3 ⟨rfl, hb3⟩
  have b3 := B2.out.below hb3
  have G3 := Lib.hid (bw_below (Nat.le_refl _) G2.out hb3)
  clear l0 l1 l2 u0 u1 u2 x0 x1 x2 x3 x4 x5 z0 z1 z2 z3
  obtain ⟨l0, l1, l2, u0, u1, u2, x0, x1, x2, x3, x4, x5, z0, z1, z2, z3⟩ := b3.cells
  have B3 := Lib.hid b3
  clear b3 hb3 B2 G2
  go_wp2_with fail
  refine (HC3.out _ _ (HB.new _ _ _)).mono ?_
  rintro e w3' ⟨rfl, hb3⟩
  have b3 := (B3.out.alloc _).below hb3
  have G3' := Lib.hid (below_after G3.out (below_after (new_below _ _) hb3))
  clear l0 l1 l2 u0 u1 u2 x0 x1 x2 x3 x4 x5 z0 z1 z2 z3
  obtain ⟨l0, l1, l2, u0, u1, u2, x0, x1, x2, x3, x4, x5, z0, z1, z2, z3⟩ := b3.cells
  clear B3 G3 b3 hb3
  go_wp2
  refine bodyPost_ret (v := .tuple #[.agg #[.slice none 0 0, .int .i64 3, .int .i64 1], .agg #[.int .i64 0, .int .i64 0]]) (by simp [results, Try.results23, go_sem, x0, x1, x2, z0, z1]) rfl ⟨none, 0, rfl, Nat.le_refl _, isb_nil _ _ _, ?_⟩
  exact rb_end _ _ _ _ _ G3'.out
end Go.Proofs.Ytkjollifghmkbaa
