/-
  The contract of row.Whole.
-/
import Derived.Test.YtkjollifghmkbaaRowQ
namespace Go.Proofs.Ytkjollifghmkbaa
open Go.RowKit

theorem floor_bd {n g : Int} (hg : 1 ≤ g) (h2 : n ≤ 1000000) : n / g ≤ 1000000 := by
  rcases Int.lt_or_le n 0 with h | h
  · have := Int.ediv_neg_of_neg_of_pos h (show 0 < g by omega)
    omega
  · have := Int.ediv_le_self g h
    omega
theorem gcdK_pos (xs : List Int) (h : 0 < rK xs) : 1 ≤ gcdK xs (rK xs) := by
  rcases Nat.eq_zero_or_pos (gcdK xs (rK xs)) with e | e
  · exfalso
    have h2 := gcdK_dvd xs (rK xs) (rK xs - 1) (by omega)
    rw [e] at h2
    exact trimK_last xs xs.length h (Int.zero_dvd.1 h2)
  · exact e
set_option maxRecDepth 100000 in
set_option maxHeartbeats 30000000 in
theorem whole_1 (A : Option Addr) (xs : List Int) (L c : Nat) (tt : Int) (hL : L = xs.length) (hc : L ≤ c) (w : World) (h : Is w A xs) (h0 : chkC 1 tt xs 12 = 0) (g : Int) (hg : g = (gcdK xs (rK xs) : Nat)) :
    Calls Try.prog 20 #[.agg #[.slice A L c, .int .i64 1, .int .i64 tt]] w (if rK xs = 0 then GivesRF [] 1 (bareT 1 tt) 0 0 w else if tt / g < -1000000 then GivesRF [] 0 0 10 0 w else GivesRF (upL 1 (quotL xs g)) 1 (upT 1 (quotL xs g) (tt / g)) 0 0 w) := by
  obtain ⟨hy, _, _, _, hle, hbad, hin⟩ := chk_zero h0
  have hx := h0
  have hall := bad_all hbad
  have l12 : L ≤ 12 := by omega
  have HA : Hid (∀ i, i < L → inB (nth xs i) = true) := by rw [hL]; exact hall
  obtain ⟨i1, i2⟩ := inB_iff.1 hin
  have kle := rK_le xs
  have KLE : Hid (rK xs ≤ L) := by show _ ≤ _; rw [hL]; exact kle
  have k12 : rK xs ≤ 12 := by have := KLE.out; omega
  have HTR : Hid (∀ W, Hid (Is W A xs) → Calls Try.prog 41 #[.slice A L c] W fun e w' => e = .returned (.slice A (rK xs : Nat) c) ∧ ∃ n, w' = W.drewN n) := fun W hW => by
    have := trimmed_any A xs L c hL hc (by omega) W hW.out
    rw [hL] at this ⊢
    exact this
  have tw : IntKind.i64.wrap (tt - 1) = tt - 1 := IntWalk.i64_in _ (by omega)
  have HX := Lib.hid h
  have H1 := Lib.hid hx
  have H2 := Lib.hid hy
  have HL := Lib.hid hL
  have HG := Lib.hid hg
  clear h hx hy h0 hL hle hbad hin hall kle hg
  -- the cases
  by_cases hz : rK xs = 0
  · rw [if_pos hz]
    have d1 : ((rK xs : Int) == 0) = true := by simpa using hz
    clear hz
    go_enter Try.func20, Try.ntmps20
    go_wp2_with fail
    refine (check_any A xs L c 1 tt 12 HL.out _ (HX.out.below (by go_grown))).mono ?_
    rw [H1.out, H2.out]
    rintro e w1 ⟨rfl, hb1⟩
    obtain ⟨b1, gb1⟩ := res_rb hb1
    obtain ⟨l0, l1, l2, u0, u1, u2, x0, x1, x2, x3, x4, x5, z0, z1, z2, z3⟩ := b1.cells
    have B1 := Lib.hid b1
    have G1 := Lib.hid gb1
    have HX3 : Hid (Is (w1.alloc (.cells #[.int .i64 0, .int .i64 0] 29)) A xs) := HX.out.below (G1.out.alloc (by omega) _)
    clear b1 gb1 hb1
    go_wp2_with fail
    go_quiet ((go_at_call 41; refine Calls.quiet_of (HTR.out _ HX3)))
    generalize hW : (w1.alloc (.cells #[.int .i64 0, .int .i64 0] 29)).drewN nq = W
    have b3 : RB w.heap.size (.slice A L c) (.int .i64 1) (.int .i64 tt) W := hW ▸ (B1.out.alloc _).drewN nq
    have G3 : Hid (Below w.heap.size w W) := hW ▸ below_drewN (G1.out.alloc (by omega) _) nq
    have B3 := Lib.hid b3
    clear b3 hW x0 x1 x2 x3 x4 x5 z0 z1 z2 z3 u0 u1 u2 B1 G1 HX3
    go_wp2_with fail
    refine (rbare_any 1 tt (by omega) _).mono ?_
    rintro e w3 ⟨rfl, hb3⟩
    have b3 := B3.out.below hb3
    have G4 := Lib.hid (bw_below (Nat.le_refl _) G3.out hb3)
    obtain ⟨m0, m1, m2, u0'', u1'', u2'', x0'', x1'', x2'', x3'', x4'', x5'', z0'', z1'', z2'', z3''⟩ := b3.cells
    clear b3 hb3
    go_wp2
    refine bodyPost_ret (v := .tuple #[.agg #[.slice none 0 0, .int .i64 1, .int .i64 (bareT 1 tt)], .agg #[.int .i64 0, .int .i64 0]]) (by simp [results, Try.results20, go_sem, x0'', x1'', x2'', z0'', z1'']) rfl ⟨none, 0, rfl, Nat.le_refl _, isb_nil _ _ _, ?_⟩
    exact rb_end _ _ _ _ _ G4.out
  · rw [if_neg hz]
    have d1 : ((rK xs : Int) == 0) = false := by simpa using hz
    have hp : 0 < rK xs := by omega
    have hgp := gcdK_pos xs hp
    have gle : gcdK xs (rK xs) ≤ 1000000 := gcdK_le xs _ fun j hj => HA.out j (Nat.lt_of_lt_of_le hj KLE.out)
    have g1 : 1 ≤ g := by rw [HG.out]; omega
    have g2 : g ≤ 1000000 := by rw [HG.out]; omega
    have gz : ¬ g = 0 := by omega
    have d2 : (g == 0) = false := by simpa using gz
    obtain ⟨f1, f2⟩ := tmod_bd tt g (by omega) (by omega)
    have f3 := floor_bd (n := tt) g1 (by omega)
    have hI2 : ∀ i, i < rK xs → inB (nth (xs.take (rK xs)) i) = true := fun i hi => by rw [nth_take hi]; exact HA.out i (Nat.lt_of_lt_of_le hi KLE.out)
    have hlen : rK xs = (xs.take (rK xs)).length := by
      have := rK_le xs
      rw [List.length_take]; omega
    have hgk : gcdK (xs.take (rK xs)) (rK xs) = gcdK xs (rK xs) := gcdK_congr _ _ _ fun j hj => nth_take hj
    have HI2 := Lib.hid hI2
    have HLEN := Lib.hid hlen
    have HX2 := Lib.hid (is_take HX.out (rK xs))
    have HQ : Hid (∀ W, Hid (Is W A (xs.take (rK xs))) → Calls Try.prog 44 #[.slice A (rK xs : Nat) c] W fun e w' => e = .returned (.int .i64 g) ∧ ∃ n, w' = W.drewN n) := fun W hW => by
      have := rdivs_any A (xs.take (rK xs)) (rK xs) c HLEN.out (by omega) HI2.out W hW.out
      rw [hgk, ← HG.out] at this
      exact this
    have HD : Hid (∀ W, Hid (Is W A (xs.take (rK xs))) → Calls Try.prog 46 #[.slice A (rK xs : Nat) c, .int .i64 g] W fun e w' => ∃ A' c', e = .returned (.slice A' (rK xs : Nat) c') ∧ rK xs ≤ c' ∧ Isb W.heap.size w' A' (quotL xs g) ∧ Below W.heap.size W w') := fun W hW => by
      have := divided_any A (xs.take (rK xs)) (rK xs) c g HLEN.out k12 (by omega) HI2.out W hW.out
      refine this.mono ?_
      rintro e w' ⟨A', c', rfl, h1, h2, h3⟩
      have hl : (List.map (fun x => Int.tdiv x g) (xs.take (rK xs))).length = rK xs := by rw [List.length_map, ← HLEN.out]
      exact ⟨A', c', by rw [hl], by rw [hl] at h1; exact h1, h2, h3⟩
    have hqb : ∀ i, i < rK xs → inB (nth (quotL xs g) i) = true := fun i hi => by
      rw [nth_quotL _ _ _ hi]
      obtain ⟨q1, q2⟩ := inB_iff.1 (HA.out i (Nat.lt_of_lt_of_le hi KLE.out))
      exact inB_iff.2 (tdiv_bd' _ _ q1 q2)
    have HU : Hid (¬ tt / g < -1000000 → ∀ (B : Nat) (W : World) (A' : Option Addr) (c' : Nat), rK xs ≤ c' → B ≤ W.heap.size → Isb B W A' (quotL xs g) → Calls Try.prog 45 #[.agg #[.slice A' (rK xs : Nat) c', .int .i64 1, .int .i64 (tt / g)]] W (GivesU B (upL 1 (quotL xs g)) 1 (upT 1 (quotL xs g) (tt / g)) W)) := fun hm B W A' c' h1 h2 h3 =>
      upright_any B A' (quotL xs g) (rK xs) c' 1 (tt / g) (quotL_len _ _).symm k12 h1 hqb (inB_iff.2 ⟨by omega, f3⟩) W h2 h3
    clear hI2 hlen hgk hqb hz hp hgp gle
    by_cases hm : tt / g < -1000000
    · rw [if_pos hm]
      have d3 : decide (tt / g < -1000000) = true := by simpa using hm
      clear hm
      go_enter Try.func20, Try.ntmps20
      go_wp2_with fail
      refine (check_any A xs L c 1 tt 12 HL.out _ (HX.out.below (by go_grown))).mono ?_
      rw [H1.out, H2.out]
      rintro e w1 ⟨rfl, hb1⟩
      obtain ⟨b1, gb1⟩ := res_rb hb1
      obtain ⟨l0, l1, l2, u0, u1, u2, x0, x1, x2, x3, x4, x5, z0, z1, z2, z3⟩ := b1.cells
      have B1 := Lib.hid b1
      have G1 := Lib.hid gb1
      have HX3 : Hid (Is (w1.alloc (.cells #[.int .i64 0, .int .i64 0] 29)) A xs) := HX.out.below (G1.out.alloc (by omega) _)
      clear b1 gb1 hb1
      go_wp2_with fail
      go_quiet ((go_at_call 41; refine Calls.quiet_of (HTR.out _ HX3)))
      generalize hW : (w1.alloc (.cells #[.int .i64 0, .int .i64 0] 29)).drewN nq = W
      have b3 : RB w.heap.size (.slice A L c) (.int .i64 1) (.int .i64 tt) W := hW ▸ (B1.out.alloc _).drewN nq
      have G3 : Hid (Below w.heap.size w W) := hW ▸ below_drewN (G1.out.alloc (by omega) _) nq
      have B3 := Lib.hid b3
      clear b3 hW x0 x1 x2 x3 x4 x5 z0 z1 z2 z3 u0 u1 u2 B1 G1 HX3
      have HX4 : Hid (Is W A (xs.take (rK xs))) := HX2.out.below G3.out
      go_wp2_with fail
      refine (HQ.out _ HX4).mono ?_
      rintro e w3 ⟨rfl, m, rfl⟩
      have HX5 : Hid (Is (W.drewN m) A (xs.take (rK xs))) := HX4.out
      have G4 : Hid (Below w.heap.size w (W.drewN m)) := below_drewN G3.out m
      have b4 : RB w.heap.size (.slice A L c) (.int .i64 1) (.int .i64 tt) (W.drewN m) := B3.out.drewN m
      have B4 := Lib.hid b4
      clear b4 B3 G3
      go_wp2_with fail
      refine (rfloor_any tt g g1 (by omega) (by omega) (by omega) _).mono ?_
      rintro e w4 ⟨rfl, hb4⟩
      have b4 := B4.out.below hb4
      have HX6 : Hid (Is w4 A (xs.take (rK xs))) := HX5.out.below hb4
      have G5 := Lib.hid (bw_below (Nat.le_refl _) G4.out hb4)
      have LW := Lib.hid b4.2.2.lt
      obtain ⟨m0, m1, m2, u0'', u1'', u2'', x0'', x1'', x2'', x3'', x4'', x5'', z0'', z1'', z2'', z3''⟩ := b4.cells
      have B5 := Lib.hid b4
      clear b4 hb4 B4 G4 HX4 HX5
      go_wp2
      refine bodyPost_ret (v := .tuple #[.agg #[.slice none 0 0, .int .i64 0, .int .i64 0], .agg #[.int .i64 10, .int .i64 0]]) (by simp [results, Try.results20, go_sem, x0'', x1'', x2'', z0'', z1'']) rfl ⟨none, 0, rfl, Nat.le_refl _, isb_nil _ _ _, ?_⟩
      exact rb_end _ _ _ _ _ G5.out
    · rw [if_neg hm]
      have d3 : decide (tt / g < -1000000) = false := by simpa using hm
      have HU' := Lib.hid (HU.out hm)
      clear hm HU
      go_enter Try.func20, Try.ntmps20
      go_wp2_with fail
      refine (check_any A xs L c 1 tt 12 HL.out _ (HX.out.below (by go_grown))).mono ?_
      rw [H1.out, H2.out]
      rintro e w1 ⟨rfl, hb1⟩
      obtain ⟨b1, gb1⟩ := res_rb hb1
      obtain ⟨l0, l1, l2, u0, u1, u2, x0, x1, x2, x3, x4, x5, z0, z1, z2, z3⟩ := b1.cells
      have B1 := Lib.hid b1
      have G1 := Lib.hid gb1
      have HX3 : Hid (Is (w1.alloc (.cells #[.int .i64 0, .int .i64 0] 29)) A xs) := HX.out.below (G1.out.alloc (by omega) _)
      clear b1 gb1 hb1
      go_wp2_with fail
      go_quiet ((go_at_call 41; refine Calls.quiet_of (HTR.out _ HX3)))
      generalize hW : (w1.alloc (.cells #[.int .i64 0, .int .i64 0] 29)).drewN nq = W
      have b3 : RB w.heap.size (.slice A L c) (.int .i64 1) (.int .i64 tt) W := hW ▸ (B1.out.alloc _).drewN nq
      have G3 : Hid (Below w.heap.size w W) := hW ▸ below_drewN (G1.out.alloc (by omega) _) nq
      have B3 := Lib.hid b3
      clear b3 hW x0 x1 x2 x3 x4 x5 z0 z1 z2 z3 u0 u1 u2 B1 G1 HX3
      have HX4 : Hid (Is W A (xs.take (rK xs))) := HX2.out.below G3.out
      go_wp2_with fail
      refine (HQ.out _ HX4).mono ?_
      rintro e w3 ⟨rfl, m, rfl⟩
      have HX5 : Hid (Is (W.drewN m) A (xs.take (rK xs))) := HX4.out
      have G4 : Hid (Below w.heap.size w (W.drewN m)) := below_drewN G3.out m
      have b4 : RB w.heap.size (.slice A L c) (.int .i64 1) (.int .i64 tt) (W.drewN m) := B3.out.drewN m
      have B4 := Lib.hid b4
      clear b4 B3 G3
      go_wp2_with fail
      refine (rfloor_any tt g g1 (by omega) (by omega) (by omega) _).mono ?_
      rintro e w4 ⟨rfl, hb4⟩
      have b4 := B4.out.below hb4
      have HX6 : Hid (Is w4 A (xs.take (rK xs))) := HX5.out.below hb4
      have G5 := Lib.hid (bw_below (Nat.le_refl _) G4.out hb4)
      have LW := Lib.hid b4.2.2.lt
      obtain ⟨m0, m1, m2, u0'', u1'', u2'', x0'', x1'', x2'', x3'', x4'', x5'', z0'', z1'', z2'', z3''⟩ := b4.cells
      have B5 := Lib.hid b4
      clear b4 hb4 B4 G4 HX4 HX5
      go_wp2_with fail
      refine (HD.out _ HX6).mono ?_
      rintro e w5 ⟨A5, c5, rfl, hl5, hi5, hb5⟩
      have HL5 := Lib.hid hl5
      have HI5 := Lib.hid hi5
      have LW5 := Lib.hid hb5.size
      have B6 := Lib.hid (B5.out.below hb5)
      have G6 := Lib.hid (bw_below (Nat.le_refl _) G5.out hb5)
      clear hl5 hi5 hb5 x0'' x1'' x2'' x3'' x4'' x5'' z0'' z1'' z2'' z3'' u0'' u1'' u2''
      go_wp2_with fail
      refine (HU'.out w4.heap.size w5 A5 c5 HL5.out LW5.out HI5.out).mono ?_
      rintro e w6 ⟨A6, c6, rfl, hl6, hi6, hb6⟩
      have HL6 := Lib.hid hl6
      have HI6 := Lib.hid hi6
      have b6 := B6.out.below hb6
      have G7 := Lib.hid (bw_below (Nat.le_refl _) G6.out hb6)
      obtain ⟨n0, n1, n2, u0'', u1'', u2'', x0'', x1'', x2'', x3'', x4'', x5'', z0'', z1'', z2'', z3''⟩ := b6.cells
      clear b6 hl6 hi6 hb6
      go_wp2
      refine bodyPost_ret (v := .tuple #[.agg #[.slice A6 (upL 1 (quotL xs g)).length c6, .int .i64 1, .int .i64 (upT 1 (quotL xs g) (tt / g))], .agg #[.int .i64 0, .int .i64 0]]) (by simp [results, Try.results20, go_sem, x0'', x1'', x2'', z0'', z1'']) rfl ⟨A6, c6, rfl, HL6.out, ?_, ?_⟩
      · have lz := LW.out
        exact Isb.mono ((HI6.out.far_ (g := w.heap.size + 1) (by omega) (far3 w6 _ _ _ _)).far_ (g := w.heap.size + 1 + 1) (by omega) (far2 _ _ _ _)) (by omega)
      · exact rb_end _ _ _ _ _ G7.out
set_option maxRecDepth 100000 in
set_option maxHeartbeats 30000000 in
theorem whole_2 (A : Option Addr) (xs : List Int) (L c : Nat) (tt : Int) (hL : L = xs.length) (hc : L ≤ c) (w : World) (h : Is w A xs) (h0 : chkC 2 tt xs 12 = 0) (g : Int) (hg : g = (gcdK xs (rK xs) : Nat)) :
    Calls Try.prog 20 #[.agg #[.slice A L c, .int .i64 2, .int .i64 tt]] w (if rK xs = 0 then GivesRF [] 1 (bareT 1 (tt - 1)) 0 0 w else if (tt - 1) / g < -1000000 then GivesRF [] 0 0 10 0 w else GivesRF (upL 1 (quotL xs g)) 1 (upT 1 (quotL xs g) ((tt - 1) / g)) 0 0 w) := by
  obtain ⟨hy, _, _, _, hle, hbad, hin⟩ := chk_zero h0
  have hx := h0
  have hall := bad_all hbad
  have l12 : L ≤ 12 := by omega
  have HA : Hid (∀ i, i < L → inB (nth xs i) = true) := by rw [hL]; exact hall
  obtain ⟨i1, i2⟩ := inB_iff.1 hin
  have kle := rK_le xs
  have KLE : Hid (rK xs ≤ L) := by show _ ≤ _; rw [hL]; exact kle
  have k12 : rK xs ≤ 12 := by have := KLE.out; omega
  have HTR : Hid (∀ W, Hid (Is W A xs) → Calls Try.prog 41 #[.slice A L c] W fun e w' => e = .returned (.slice A (rK xs : Nat) c) ∧ ∃ n, w' = W.drewN n) := fun W hW => by
    have := trimmed_any A xs L c hL hc (by omega) W hW.out
    rw [hL] at this ⊢
    exact this
  have tw : IntKind.i64.wrap (tt - 1) = tt - 1 := IntWalk.i64_in _ (by omega)
  have HX := Lib.hid h
  have H1 := Lib.hid hx
  have H2 := Lib.hid hy
  have HL := Lib.hid hL
  have HG := Lib.hid hg
  clear h hx hy h0 hL hle hbad hin hall kle hg
  -- the cases
  by_cases hz : rK xs = 0
  · rw [if_pos hz]
    have d1 : ((rK xs : Int) == 0) = true := by simpa using hz
    clear hz
    go_enter Try.func20, Try.ntmps20
    go_wp2_with fail
    refine (check_any A xs L c 2 tt 12 HL.out _ (HX.out.below (by go_grown))).mono ?_
    rw [H1.out, H2.out]
    rintro e w1 ⟨rfl, hb1⟩
    obtain ⟨b1, gb1⟩ := res_rb hb1
    obtain ⟨l0, l1, l2, u0, u1, u2, x0, x1, x2, x3, x4, x5, z0, z1, z2, z3⟩ := b1.cells
    have B1 := Lib.hid b1
    have G1 := Lib.hid gb1
    have HX3 : Hid (Is (w1.alloc (.cells #[.int .i64 0, .int .i64 0] 29)) A xs) := HX.out.below (G1.out.alloc (by omega) _)
    clear b1 gb1 hb1
    go_wp2_with fail
    go_quiet ((go_at_call 41; refine Calls.quiet_of (HTR.out _ HX3)))
    generalize hW : (w1.alloc (.cells #[.int .i64 0, .int .i64 0] 29)).drewN nq = W
    have b3 : RB w.heap.size (.slice A L c) (.int .i64 2) (.int .i64 tt) W := hW ▸ (B1.out.alloc _).drewN nq
    have G3 : Hid (Below w.heap.size w W) := hW ▸ below_drewN (G1.out.alloc (by omega) _) nq
    have B3 := Lib.hid b3
    clear b3 hW x0 x1 x2 x3 x4 x5 z0 z1 z2 z3 u0 u1 u2 B1 G1 HX3
    go_wp2_with fail
    refine (rbare_any 1 (tt - 1) (by omega) _).mono ?_
    rintro e w3 ⟨rfl, hb3⟩
    have b3 := B3.out.below hb3
    have G4 := Lib.hid (bw_below (Nat.le_refl _) G3.out hb3)
    obtain ⟨m0, m1, m2, u0'', u1'', u2'', x0'', x1'', x2'', x3'', x4'', x5'', z0'', z1'', z2'', z3''⟩ := b3.cells
    clear b3 hb3
    go_wp2
    refine bodyPost_ret (v := .tuple #[.agg #[.slice none 0 0, .int .i64 1, .int .i64 (bareT 1 (tt - 1))], .agg #[.int .i64 0, .int .i64 0]]) (by simp [results, Try.results20, go_sem, x0'', x1'', x2'', z0'', z1'']) rfl ⟨none, 0, rfl, Nat.le_refl _, isb_nil _ _ _, ?_⟩
    exact rb_end _ _ _ _ _ G4.out
  · rw [if_neg hz]
    have d1 : ((rK xs : Int) == 0) = false := by simpa using hz
    have hp : 0 < rK xs := by omega
    have hgp := gcdK_pos xs hp
    have gle : gcdK xs (rK xs) ≤ 1000000 := gcdK_le xs _ fun j hj => HA.out j (Nat.lt_of_lt_of_le hj KLE.out)
    have g1 : 1 ≤ g := by rw [HG.out]; omega
    have g2 : g ≤ 1000000 := by rw [HG.out]; omega
    have gz : ¬ g = 0 := by omega
    have d2 : (g == 0) = false := by simpa using gz
    obtain ⟨f1, f2⟩ := tmod_bd tt g (by omega) (by omega)
    have f3 := floor_bd (n := (tt - 1)) g1 (by omega)
    have hI2 : ∀ i, i < rK xs → inB (nth (xs.take (rK xs)) i) = true := fun i hi => by rw [nth_take hi]; exact HA.out i (Nat.lt_of_lt_of_le hi KLE.out)
    have hlen : rK xs = (xs.take (rK xs)).length := by
      have := rK_le xs
      rw [List.length_take]; omega
    have hgk : gcdK (xs.take (rK xs)) (rK xs) = gcdK xs (rK xs) := gcdK_congr _ _ _ fun j hj => nth_take hj
    have HI2 := Lib.hid hI2
    have HLEN := Lib.hid hlen
    have HX2 := Lib.hid (is_take HX.out (rK xs))
    have HQ : Hid (∀ W, Hid (Is W A (xs.take (rK xs))) → Calls Try.prog 44 #[.slice A (rK xs : Nat) c] W fun e w' => e = .returned (.int .i64 g) ∧ ∃ n, w' = W.drewN n) := fun W hW => by
      have := rdivs_any A (xs.take (rK xs)) (rK xs) c HLEN.out (by omega) HI2.out W hW.out
      rw [hgk, ← HG.out] at this
      exact this
    have HD : Hid (∀ W, Hid (Is W A (xs.take (rK xs))) → Calls Try.prog 46 #[.slice A (rK xs : Nat) c, .int .i64 g] W fun e w' => ∃ A' c', e = .returned (.slice A' (rK xs : Nat) c') ∧ rK xs ≤ c' ∧ Isb W.heap.size w' A' (quotL xs g) ∧ Below W.heap.size W w') := fun W hW => by
      have := divided_any A (xs.take (rK xs)) (rK xs) c g HLEN.out k12 (by omega) HI2.out W hW.out
      refine this.mono ?_
      rintro e w' ⟨A', c', rfl, h1, h2, h3⟩
      have hl : (List.map (fun x => Int.tdiv x g) (xs.take (rK xs))).length = rK xs := by rw [List.length_map, ← HLEN.out]
      exact ⟨A', c', by rw [hl], by rw [hl] at h1; exact h1, h2, h3⟩
    have hqb : ∀ i, i < rK xs → inB (nth (quotL xs g) i) = true := fun i hi => by
      rw [nth_quotL _ _ _ hi]
      obtain ⟨q1, q2⟩ := inB_iff.1 (HA.out i (Nat.lt_of_lt_of_le hi KLE.out))
      exact inB_iff.2 (tdiv_bd' _ _ q1 q2)
    have HU : Hid (¬ (tt - 1) / g < -1000000 → ∀ (B : Nat) (W : World) (A' : Option Addr) (c' : Nat), rK xs ≤ c' → B ≤ W.heap.size → Isb B W A' (quotL xs g) → Calls Try.prog 45 #[.agg #[.slice A' (rK xs : Nat) c', .int .i64 1, .int .i64 ((tt - 1) / g)]] W (GivesU B (upL 1 (quotL xs g)) 1 (upT 1 (quotL xs g) ((tt - 1) / g)) W)) := fun hm B W A' c' h1 h2 h3 =>
      upright_any B A' (quotL xs g) (rK xs) c' 1 ((tt - 1) / g) (quotL_len _ _).symm k12 h1 hqb (inB_iff.2 ⟨by omega, f3⟩) W h2 h3
    clear hI2 hlen hgk hqb hz hp hgp gle
    by_cases hm : (tt - 1) / g < -1000000
    · rw [if_pos hm]
      have d3 : decide ((tt - 1) / g < -1000000) = true := by simpa using hm
      clear hm
      go_enter Try.func20, Try.ntmps20
      go_wp2_with fail
      refine (check_any A xs L c 2 tt 12 HL.out _ (HX.out.below (by go_grown))).mono ?_
      rw [H1.out, H2.out]
      rintro e w1 ⟨rfl, hb1⟩
      obtain ⟨b1, gb1⟩ := res_rb hb1
      obtain ⟨l0, l1, l2, u0, u1, u2, x0, x1, x2, x3, x4, x5, z0, z1, z2, z3⟩ := b1.cells
      have B1 := Lib.hid b1
      have G1 := Lib.hid gb1
      have HX3 : Hid (Is (w1.alloc (.cells #[.int .i64 0, .int .i64 0] 29)) A xs) := HX.out.below (G1.out.alloc (by omega) _)
      clear b1 gb1 hb1
      go_wp2_with fail
      go_quiet ((go_at_call 41; refine Calls.quiet_of (HTR.out _ HX3)))
      generalize hW : (w1.alloc (.cells #[.int .i64 0, .int .i64 0] 29)).drewN nq = W
      have b3 : RB w.heap.size (.slice A L c) (.int .i64 2) (.int .i64 tt) W := hW ▸ (B1.out.alloc _).drewN nq
      have G3 : Hid (Below w.heap.size w W) := hW ▸ below_drewN (G1.out.alloc (by omega) _) nq
      have B3 := Lib.hid b3
      clear b3 hW x0 x1 x2 x3 x4 x5 z0 z1 z2 z3 u0 u1 u2 B1 G1 HX3
      have HX4 : Hid (Is W A (xs.take (rK xs))) := HX2.out.below G3.out
      go_wp2_with fail
      refine (HQ.out _ HX4).mono ?_
      rintro e w3 ⟨rfl, m, rfl⟩
      have HX5 : Hid (Is (W.drewN m) A (xs.take (rK xs))) := HX4.out
      have G4 : Hid (Below w.heap.size w (W.drewN m)) := below_drewN G3.out m
      have b4 : RB w.heap.size (.slice A L c) (.int .i64 2) (.int .i64 tt) (W.drewN m) := B3.out.drewN m
      have B4 := Lib.hid b4
      clear b4 B3 G3
      go_wp2_with fail
      refine (rfloor_any (tt - 1) g g1 (by omega) (by omega) (by omega) _).mono ?_
      rintro e w4 ⟨rfl, hb4⟩
      have b4 := B4.out.below hb4
      have HX6 : Hid (Is w4 A (xs.take (rK xs))) := HX5.out.below hb4
      have G5 := Lib.hid (bw_below (Nat.le_refl _) G4.out hb4)
      have LW := Lib.hid b4.2.2.lt
      obtain ⟨m0, m1, m2, u0'', u1'', u2'', x0'', x1'', x2'', x3'', x4'', x5'', z0'', z1'', z2'', z3''⟩ := b4.cells
      have B5 := Lib.hid b4
      clear b4 hb4 B4 G4 HX4 HX5
      go_wp2
      refine bodyPost_ret (v := .tuple #[.agg #[.slice none 0 0, .int .i64 0, .int .i64 0], .agg #[.int .i64 10, .int .i64 0]]) (by simp [results, Try.results20, go_sem, x0'', x1'', x2'', z0'', z1'']) rfl ⟨none, 0, rfl, Nat.le_refl _, isb_nil _ _ _, ?_⟩
      exact rb_end _ _ _ _ _ G5.out
    · rw [if_neg hm]
      have d3 : decide ((tt - 1) / g < -1000000) = false := by simpa using hm
      have HU' := Lib.hid (HU.out hm)
      clear hm HU
      go_enter Try.func20, Try.ntmps20
      go_wp2_with fail
      refine (check_any A xs L c 2 tt 12 HL.out _ (HX.out.below (by go_grown))).mono ?_
      rw [H1.out, H2.out]
      rintro e w1 ⟨rfl, hb1⟩
      obtain ⟨b1, gb1⟩ := res_rb hb1
      obtain ⟨l0, l1, l2, u0, u1, u2, x0, x1, x2, x3, x4, x5, z0, z1, z2, z3⟩ := b1.cells
      have B1 := Lib.hid b1
      have G1 := Lib.hid gb1
      have HX3 : Hid (Is (w1.alloc (.cells #[.int .i64 0, .int .i64 0] 29)) A xs) := HX.out.below (G1.out.alloc (by omega) _)
      clear b1 gb1 hb1
      go_wp2_with fail
      go_quiet ((go_at_call 41; refine Calls.quiet_of (HTR.out _ HX3)))
      generalize hW : (w1.alloc (.cells #[.int .i64 0, .int .i64 0] 29)).drewN nq = W
      have b3 : RB w.heap.size (.slice A L c) (.int .i64 2) (.int .i64 tt) W := hW ▸ (B1.out.alloc _).drewN nq
      have G3 : Hid (Below w.heap.size w W) := hW ▸ below_drewN (G1.out.alloc (by omega) _) nq
      have B3 := Lib.hid b3
      clear b3 hW x0 x1 x2 x3 x4 x5 z0 z1 z2 z3 u0 u1 u2 B1 G1 HX3
      have HX4 : Hid (Is W A (xs.take (rK xs))) := HX2.out.below G3.out
      go_wp2_with fail
      refine (HQ.out _ HX4).mono ?_
      rintro e w3 ⟨rfl, m, rfl⟩
      have HX5 : Hid (Is (W.drewN m) A (xs.take (rK xs))) := HX4.out
      have G4 : Hid (Below w.heap.size w (W.drewN m)) := below_drewN G3.out m
      have b4 : RB w.heap.size (.slice A L c) (.int .i64 2) (.int .i64 tt) (W.drewN m) := B3.out.drewN m
      have B4 := Lib.hid b4
      clear b4 B3 G3
      go_wp2_with fail
      refine (rfloor_any (tt - 1) g g1 (by omega) (by omega) (by omega) _).mono ?_
      rintro e w4 ⟨rfl, hb4⟩
      have b4 := B4.out.below hb4
      have HX6 : Hid (Is w4 A (xs.take (rK xs))) := HX5.out.below hb4
      have G5 := Lib.hid (bw_below (Nat.le_refl _) G4.out hb4)
      have LW := Lib.hid b4.2.2.lt
      obtain ⟨m0, m1, m2, u0'', u1'', u2'', x0'', x1'', x2'', x3'', x4'', x5'', z0'', z1'', z2'', z3''⟩ := b4.cells
      have B5 := Lib.hid b4
      clear b4 hb4 B4 G4 HX4 HX5
      go_wp2_with fail
      refine (HD.out _ HX6).mono ?_
      rintro e w5 ⟨A5, c5, rfl, hl5, hi5, hb5⟩
      have HL5 := Lib.hid hl5
      have HI5 := Lib.hid hi5
      have LW5 := Lib.hid hb5.size
      have B6 := Lib.hid (B5.out.below hb5)
      have G6 := Lib.hid (bw_below (Nat.le_refl _) G5.out hb5)
      clear hl5 hi5 hb5 x0'' x1'' x2'' x3'' x4'' x5'' z0'' z1'' z2'' z3'' u0'' u1'' u2''
      go_wp2_with fail
      refine (HU'.out w4.heap.size w5 A5 c5 HL5.out LW5.out HI5.out).mono ?_
      rintro e w6 ⟨A6, c6, rfl, hl6, hi6, hb6⟩
      have HL6 := Lib.hid hl6
      have HI6 := Lib.hid hi6
      have b6 := B6.out.below hb6
      have G7 := Lib.hid (bw_below (Nat.le_refl _) G6.out hb6)
      obtain ⟨n0, n1, n2, u0'', u1'', u2'', x0'', x1'', x2'', x3'', x4'', x5'', z0'', z1'', z2'', z3''⟩ := b6.cells
      clear b6 hl6 hi6 hb6
      go_wp2
      refine bodyPost_ret (v := .tuple #[.agg #[.slice A6 (upL 1 (quotL xs g)).length c6, .int .i64 1, .int .i64 (upT 1 (quotL xs g) ((tt - 1) / g))], .agg #[.int .i64 0, .int .i64 0]]) (by simp [results, Try.results20, go_sem, x0'', x1'', x2'', z0'', z1'']) rfl ⟨A6, c6, rfl, HL6.out, ?_, ?_⟩
      · have lz := LW.out
        exact Isb.mono ((HI6.out.far_ (g := w.heap.size + 1) (by omega) (far3 w6 _ _ _ _)).far_ (g := w.heap.size + 1 + 1) (by omega) (far2 _ _ _ _)) (by omega)
      · exact rb_end _ _ _ _ _ G7.out
set_option maxRecDepth 100000 in
set_option maxHeartbeats 30000000 in
theorem whole_3 (A : Option Addr) (xs : List Int) (L c : Nat) (tt : Int) (hL : L = xs.length) (hc : L ≤ c) (w : World) (h : Is w A xs) (h0 : chkC 3 tt xs 12 = 0) (g : Int) (hg : g = (gcdK xs (rK xs) : Nat)) :
    Calls Try.prog 20 #[.agg #[.slice A L c, .int .i64 3, .int .i64 tt]] w (if rK xs = 0 then GivesRF [] 3 (bareT 3 tt) 0 0 w else if tt.tmod g ≠ 0 then GivesRF [] 3 1 0 0 w else if tt / g < -1000000 then GivesRF [] 0 0 10 0 w else GivesRF (upL 3 (quotL xs g)) 3 (upT 3 (quotL xs g) (tt / g)) 0 0 w) := by
  obtain ⟨hy, _, _, _, hle, hbad, hin⟩ := chk_zero h0
  have hx := h0
  have hall := bad_all hbad
  have l12 : L ≤ 12 := by omega
  have HA : Hid (∀ i, i < L → inB (nth xs i) = true) := by rw [hL]; exact hall
  obtain ⟨i1, i2⟩ := inB_iff.1 hin
  have kle := rK_le xs
  have KLE : Hid (rK xs ≤ L) := by show _ ≤ _; rw [hL]; exact kle
  have k12 : rK xs ≤ 12 := by have := KLE.out; omega
  have HTR : Hid (∀ W, Hid (Is W A xs) → Calls Try.prog 41 #[.slice A L c] W fun e w' => e = .returned (.slice A (rK xs : Nat) c) ∧ ∃ n, w' = W.drewN n) := fun W hW => by
    have := trimmed_any A xs L c hL hc (by omega) W hW.out
    rw [hL] at this ⊢
    exact this
  have tw : IntKind.i64.wrap (tt - 1) = tt - 1 := IntWalk.i64_in _ (by omega)
  have HX := Lib.hid h
  have H1 := Lib.hid hx
  have H2 := Lib.hid hy
  have HL := Lib.hid hL
  have HG := Lib.hid hg
  clear h hx hy h0 hL hle hbad hin hall kle hg
  -- the cases
  by_cases hz : rK xs = 0
  · rw [if_pos hz]
    have d1 : ((rK xs : Int) == 0) = true := by simpa using hz
    clear hz
    go_enter Try.func20, Try.ntmps20
    go_wp2_with fail
    refine (check_any A xs L c 3 tt 12 HL.out _ (HX.out.below (by go_grown))).mono ?_
    rw [H1.out, H2.out]
    rintro e w1 ⟨rfl, hb1⟩
    obtain ⟨b1, gb1⟩ := res_rb hb1
    obtain ⟨l0, l1, l2, u0, u1, u2, x0, x1, x2, x3, x4, x5, z0, z1, z2, z3⟩ := b1.cells
    have B1 := Lib.hid b1
    have G1 := Lib.hid gb1
    have HX3 : Hid (Is (w1.alloc (.cells #[.int .i64 0, .int .i64 0] 29)) A xs) := HX.out.below (G1.out.alloc (by omega) _)
    clear b1 gb1 hb1
    go_wp2_with fail
    go_quiet ((go_at_call 41; refine Calls.quiet_of (HTR.out _ HX3)))
    generalize hW : (w1.alloc (.cells #[.int .i64 0, .int .i64 0] 29)).drewN nq = W
    have b3 : RB w.heap.size (.slice A L c) (.int .i64 3) (.int .i64 tt) W := hW ▸ (B1.out.alloc _).drewN nq
    have G3 : Hid (Below w.heap.size w W) := hW ▸ below_drewN (G1.out.alloc (by omega) _) nq
    have B3 := Lib.hid b3
    clear b3 hW x0 x1 x2 x3 x4 x5 z0 z1 z2 z3 u0 u1 u2 B1 G1 HX3
    go_wp2_with fail
    refine (rbare_any 3 tt (by omega) _).mono ?_
    rintro e w3 ⟨rfl, hb3⟩
    have b3 := B3.out.below hb3
    have G4 := Lib.hid (bw_below (Nat.le_refl _) G3.out hb3)
    obtain ⟨m0, m1, m2, u0'', u1'', u2'', x0'', x1'', x2'', x3'', x4'', x5'', z0'', z1'', z2'', z3''⟩ := b3.cells
    clear b3 hb3
    go_wp2
    refine bodyPost_ret (v := .tuple #[.agg #[.slice none 0 0, .int .i64 3, .int .i64 (bareT 3 tt)], .agg #[.int .i64 0, .int .i64 0]]) (by simp [results, Try.results20, go_sem, x0'', x1'', x2'', z0'', z1'']) rfl ⟨none, 0, rfl, Nat.le_refl _, isb_nil _ _ _, ?_⟩
    exact rb_end _ _ _ _ _ G4.out
  · rw [if_neg hz]
    have d1 : ((rK xs : Int) == 0) = false := by simpa using hz
    have hp : 0 < rK xs := by omega
    have hgp := gcdK_pos xs hp
    have gle : gcdK xs (rK xs) ≤ 1000000 := gcdK_le xs _ fun j hj => HA.out j (Nat.lt_of_lt_of_le hj KLE.out)
    have g1 : 1 ≤ g := by rw [HG.out]; omega
    have g2 : g ≤ 1000000 := by rw [HG.out]; omega
    have gz : ¬ g = 0 := by omega
    have d2 : (g == 0) = false := by simpa using gz
    obtain ⟨f1, f2⟩ := tmod_bd tt g (by omega) (by omega)
    have f3 := floor_bd (n := tt) g1 (by omega)
    have hI2 : ∀ i, i < rK xs → inB (nth (xs.take (rK xs)) i) = true := fun i hi => by rw [nth_take hi]; exact HA.out i (Nat.lt_of_lt_of_le hi KLE.out)
    have hlen : rK xs = (xs.take (rK xs)).length := by
      have := rK_le xs
      rw [List.length_take]; omega
    have hgk : gcdK (xs.take (rK xs)) (rK xs) = gcdK xs (rK xs) := gcdK_congr _ _ _ fun j hj => nth_take hj
    have HI2 := Lib.hid hI2
    have HLEN := Lib.hid hlen
    have HX2 := Lib.hid (is_take HX.out (rK xs))
    have HQ : Hid (∀ W, Hid (Is W A (xs.take (rK xs))) → Calls Try.prog 44 #[.slice A (rK xs : Nat) c] W fun e w' => e = .returned (.int .i64 g) ∧ ∃ n, w' = W.drewN n) := fun W hW => by
      have := rdivs_any A (xs.take (rK xs)) (rK xs) c HLEN.out (by omega) HI2.out W hW.out
      rw [hgk, ← HG.out] at this
      exact this
    have HD : Hid (∀ W, Hid (Is W A (xs.take (rK xs))) → Calls Try.prog 46 #[.slice A (rK xs : Nat) c, .int .i64 g] W fun e w' => ∃ A' c', e = .returned (.slice A' (rK xs : Nat) c') ∧ rK xs ≤ c' ∧ Isb W.heap.size w' A' (quotL xs g) ∧ Below W.heap.size W w') := fun W hW => by
      have := divided_any A (xs.take (rK xs)) (rK xs) c g HLEN.out k12 (by omega) HI2.out W hW.out
      refine this.mono ?_
      rintro e w' ⟨A', c', rfl, h1, h2, h3⟩
      have hl : (List.map (fun x => Int.tdiv x g) (xs.take (rK xs))).length = rK xs := by rw [List.length_map, ← HLEN.out]
      exact ⟨A', c', by rw [hl], by rw [hl] at h1; exact h1, h2, h3⟩
    have hqb : ∀ i, i < rK xs → inB (nth (quotL xs g) i) = true := fun i hi => by
      rw [nth_quotL _ _ _ hi]
      obtain ⟨q1, q2⟩ := inB_iff.1 (HA.out i (Nat.lt_of_lt_of_le hi KLE.out))
      exact inB_iff.2 (tdiv_bd' _ _ q1 q2)
    have HU : Hid (¬ tt / g < -1000000 → ∀ (B : Nat) (W : World) (A' : Option Addr) (c' : Nat), rK xs ≤ c' → B ≤ W.heap.size → Isb B W A' (quotL xs g) → Calls Try.prog 45 #[.agg #[.slice A' (rK xs : Nat) c', .int .i64 3, .int .i64 (tt / g)]] W (GivesU B (upL 3 (quotL xs g)) 3 (upT 3 (quotL xs g) (tt / g)) W)) := fun hm B W A' c' h1 h2 h3 =>
      upright_any B A' (quotL xs g) (rK xs) c' 3 (tt / g) (quotL_len _ _).symm k12 h1 hqb (inB_iff.2 ⟨by omega, f3⟩) W h2 h3
    clear hI2 hlen hgk hqb hz hp hgp gle
    by_cases hr : tt.tmod g ≠ 0
    · rw [if_pos hr]
      have d4 : (tt.tmod g != 0) = true := by simpa using hr
      clear hr
      go_enter Try.func20, Try.ntmps20
      go_wp2_with fail
      refine (check_any A xs L c 3 tt 12 HL.out _ (HX.out.below (by go_grown))).mono ?_
      rw [H1.out, H2.out]
      rintro e w1 ⟨rfl, hb1⟩
      obtain ⟨b1, gb1⟩ := res_rb hb1
      obtain ⟨l0, l1, l2, u0, u1, u2, x0, x1, x2, x3, x4, x5, z0, z1, z2, z3⟩ := b1.cells
      have B1 := Lib.hid b1
      have G1 := Lib.hid gb1
      have HX3 : Hid (Is (w1.alloc (.cells #[.int .i64 0, .int .i64 0] 29)) A xs) := HX.out.below (G1.out.alloc (by omega) _)
      clear b1 gb1 hb1
      go_wp2_with fail
      go_quiet ((go_at_call 41; refine Calls.quiet_of (HTR.out _ HX3)))
      generalize hW : (w1.alloc (.cells #[.int .i64 0, .int .i64 0] 29)).drewN nq = W
      have b3 : RB w.heap.size (.slice A L c) (.int .i64 3) (.int .i64 tt) W := hW ▸ (B1.out.alloc _).drewN nq
      have G3 : Hid (Below w.heap.size w W) := hW ▸ below_drewN (G1.out.alloc (by omega) _) nq
      have B3 := Lib.hid b3
      clear b3 hW x0 x1 x2 x3 x4 x5 z0 z1 z2 z3 u0 u1 u2 B1 G1 HX3
      have HX4 : Hid (Is W A (xs.take (rK xs))) := HX2.out.below G3.out
      go_wp2_with fail
      refine (HQ.out _ HX4).mono ?_
      rintro e w3 ⟨rfl, m, rfl⟩
      go_wp2_with fail
      refine (rbare_any 3 1 (by omega) _).mono ?_
      rintro e w4 ⟨rfl, hb3⟩
      have b3 := (B3.out.drewN m).below hb3
      have G4 := Lib.hid (bw_below (Nat.le_refl _) (below_drewN G3.out m) hb3)
      obtain ⟨m0, m1, m2, u0'', u1'', u2'', x0'', x1'', x2'', x3'', x4'', x5'', z0'', z1'', z2'', z3''⟩ := b3.cells
      clear b3 hb3
      go_wp2
      refine bodyPost_ret (v := .tuple #[.agg #[.slice none 0 0, .int .i64 3, .int .i64 (bareT 3 1)], .agg #[.int .i64 0, .int .i64 0]]) (by simp [results, Try.results20, go_sem, x0'', x1'', x2'', z0'', z1'']) rfl ⟨none, 0, rfl, Nat.le_refl _, isb_nil _ _ _, ?_⟩
      exact rb_end _ _ _ _ _ G4.out
    rw [if_neg hr]
    have d4 : (tt.tmod g != 0) = false := by simpa using hr
    clear hr
    by_cases hm : tt / g < -1000000
    · rw [if_pos hm]
      have d3 : decide (tt / g < -1000000) = true := by simpa using hm
      clear hm
      go_enter Try.func20, Try.ntmps20
      go_wp2_with fail
      refine (check_any A xs L c 3 tt 12 HL.out _ (HX.out.below (by go_grown))).mono ?_
      rw [H1.out, H2.out]
      rintro e w1 ⟨rfl, hb1⟩
      obtain ⟨b1, gb1⟩ := res_rb hb1
      obtain ⟨l0, l1, l2, u0, u1, u2, x0, x1, x2, x3, x4, x5, z0, z1, z2, z3⟩ := b1.cells
      have B1 := Lib.hid b1
      have G1 := Lib.hid gb1
      have HX3 : Hid (Is (w1.alloc (.cells #[.int .i64 0, .int .i64 0] 29)) A xs) := HX.out.below (G1.out.alloc (by omega) _)
      clear b1 gb1 hb1
      go_wp2_with fail
      go_quiet ((go_at_call 41; refine Calls.quiet_of (HTR.out _ HX3)))
      generalize hW : (w1.alloc (.cells #[.int .i64 0, .int .i64 0] 29)).drewN nq = W
      have b3 : RB w.heap.size (.slice A L c) (.int .i64 3) (.int .i64 tt) W := hW ▸ (B1.out.alloc _).drewN nq
      have G3 : Hid (Below w.heap.size w W) := hW ▸ below_drewN (G1.out.alloc (by omega) _) nq
      have B3 := Lib.hid b3
      clear b3 hW x0 x1 x2 x3 x4 x5 z0 z1 z2 z3 u0 u1 u2 B1 G1 HX3
      have HX4 : Hid (Is W A (xs.take (rK xs))) := HX2.out.below G3.out
      go_wp2_with fail
      refine (HQ.out _ HX4).mono ?_
      rintro e w3 ⟨rfl, m, rfl⟩
      have HX5 : Hid (Is (W.drewN m) A (xs.take (rK xs))) := HX4.out
      have G4 : Hid (Below w.heap.size w (W.drewN m)) := below_drewN G3.out m
      have b4 : RB w.heap.size (.slice A L c) (.int .i64 3) (.int .i64 tt) (W.drewN m) := B3.out.drewN m
      have B4 := Lib.hid b4
      clear b4 B3 G3
      go_wp2_with fail
      refine (rfloor_any tt g g1 (by omega) (by omega) (by omega) _).mono ?_
      rintro e w4 ⟨rfl, hb4⟩
      have b4 := B4.out.below hb4
      have HX6 : Hid (Is w4 A (xs.take (rK xs))) := HX5.out.below hb4
      have G5 := Lib.hid (bw_below (Nat.le_refl _) G4.out hb4)
      have LW := Lib.hid b4.2.2.lt
      obtain ⟨m0, m1, m2, u0'', u1'', u2'', x0'', x1'', x2'', x3'', x4'', x5'', z0'', z1'', z2'', z3''⟩ := b4.cells
      have B5 := Lib.hid b4
      clear b4 hb4 B4 G4 HX4 HX5
      go_wp2
      refine bodyPost_ret (v := .tuple #[.agg #[.slice none 0 0, .int .i64 0, .int .i64 0], .agg #[.int .i64 10, .int .i64 0]]) (by simp [results, Try.results20, go_sem, x0'', x1'', x2'', z0'', z1'']) rfl ⟨none, 0, rfl, Nat.le_refl _, isb_nil _ _ _, ?_⟩
      exact rb_end _ _ _ _ _ G5.out
    · rw [if_neg hm]
      have d3 : decide (tt / g < -1000000) = false := by simpa using hm
      have HU' := Lib.hid (HU.out hm)
      clear hm HU
      go_enter Try.func20, Try.ntmps20
      go_wp2_with fail
      refine (check_any A xs L c 3 tt 12 HL.out _ (HX.out.below (by go_grown))).mono ?_
      rw [H1.out, H2.out]
      rintro e w1 ⟨rfl, hb1⟩
      obtain ⟨b1, gb1⟩ := res_rb hb1
      obtain ⟨l0, l1, l2, u0, u1, u2, x0, x1, x2, x3, x4, x5, z0, z1, z2, z3⟩ := b1.cells
      have B1 := Lib.hid b1
      have G1 := Lib.hid gb1
      have HX3 : Hid (Is (w1.alloc (.cells #[.int .i64 0, .int .i64 0] 29)) A xs) := HX.out.below (G1.out.alloc (by omega) _)
      clear b1 gb1 hb1
      go_wp2_with fail
      go_quiet ((go_at_call 41; refine Calls.quiet_of (HTR.out _ HX3)))
      generalize hW : (w1.alloc (.cells #[.int .i64 0, .int .i64 0] 29)).drewN nq = W
      have b3 : RB w.heap.size (.slice A L c) (.int .i64 3) (.int .i64 tt) W := hW ▸ (B1.out.alloc _).drewN nq
      have G3 : Hid (Below w.heap.size w W) := hW ▸ below_drewN (G1.out.alloc (by omega) _) nq
      have B3 := Lib.hid b3
      clear b3 hW x0 x1 x2 x3 x4 x5 z0 z1 z2 z3 u0 u1 u2 B1 G1 HX3
      have HX4 : Hid (Is W A (xs.take (rK xs))) := HX2.out.below G3.out
      go_wp2_with fail
      refine (HQ.out _ HX4).mono ?_
      rintro e w3 ⟨rfl, m, rfl⟩
      have HX5 : Hid (Is (W.drewN m) A (xs.take (rK xs))) := HX4.out
      have G4 : Hid (Below w.heap.size w (W.drewN m)) := below_drewN G3.out m
      have b4 : RB w.heap.size (.slice A L c) (.int .i64 3) (.int .i64 tt) (W.drewN m) := B3.out.drewN m
      have B4 := Lib.hid b4
      clear b4 B3 G3
      go_wp2_with fail
      refine (rfloor_any tt g g1 (by omega) (by omega) (by omega) _).mono ?_
      rintro e w4 ⟨rfl, hb4⟩
      have b4 := B4.out.below hb4
      have HX6 : Hid (Is w4 A (xs.take (rK xs))) := HX5.out.below hb4
      have G5 := Lib.hid (bw_below (Nat.le_refl _) G4.out hb4)
      have LW := Lib.hid b4.2.2.lt
      obtain ⟨m0, m1, m2, u0'', u1'', u2'', x0'', x1'', x2'', x3'', x4'', x5'', z0'', z1'', z2'', z3''⟩ := b4.cells
      have B5 := Lib.hid b4
      clear b4 hb4 B4 G4 HX4 HX5
      go_wp2_with fail
      refine (HD.out _ HX6).mono ?_
      rintro e w5 ⟨A5, c5, rfl, hl5, hi5, hb5⟩
      have HL5 := Lib.hid hl5
      have HI5 := Lib.hid hi5
      have LW5 := Lib.hid hb5.size
      have B6 := Lib.hid (B5.out.below hb5)
      have G6 := Lib.hid (bw_below (Nat.le_refl _) G5.out hb5)
      clear hl5 hi5 hb5 x0'' x1'' x2'' x3'' x4'' x5'' z0'' z1'' z2'' z3'' u0'' u1'' u2''
      go_wp2_with fail
      refine (HU'.out w4.heap.size w5 A5 c5 HL5.out LW5.out HI5.out).mono ?_
      rintro e w6 ⟨A6, c6, rfl, hl6, hi6, hb6⟩
      have HL6 := Lib.hid hl6
      have HI6 := Lib.hid hi6
      have b6 := B6.out.below hb6
      have G7 := Lib.hid (bw_below (Nat.le_refl _) G6.out hb6)
      obtain ⟨n0, n1, n2, u0'', u1'', u2'', x0'', x1'', x2'', x3'', x4'', x5'', z0'', z1'', z2'', z3''⟩ := b6.cells
      clear b6 hl6 hi6 hb6
      go_wp2
      refine bodyPost_ret (v := .tuple #[.agg #[.slice A6 (upL 3 (quotL xs g)).length c6, .int .i64 3, .int .i64 (upT 3 (quotL xs g) (tt / g))], .agg #[.int .i64 0, .int .i64 0]]) (by simp [results, Try.results20, go_sem, x0'', x1'', x2'', z0'', z1'']) rfl ⟨A6, c6, rfl, HL6.out, ?_, ?_⟩
      · have lz := LW.out
        exact Isb.mono ((HI6.out.far_ (g := w.heap.size + 1) (by omega) (far3 w6 _ _ _ _)).far_ (g := w.heap.size + 1 + 1) (by omega) (far2 _ _ _ _)) (by omega)
      · exact rb_end _ _ _ _ _ G7.out
set_option maxHeartbeats 4000000 in
theorem whole_bad (A : Option Addr) (xs : List Int) (L c : Nat) (kind tt : Int) (hL : L = xs.length) (w : World) (h : Is w A xs) (x y : Int) (hx : chkC kind tt xs 12 = x) (hy : chkI kind tt xs 12 = y) (h0 : x ≠ 0) :
    Calls Try.prog 20 #[.agg #[.slice A L c, .int .i64 kind, .int .i64 tt]] w (GivesRF [] 0 0 x y w) := by
  have d : (x == 0) = false := by simpa using h0
  have HX := Lib.hid h
  have H1 := Lib.hid hx
  have H2 := Lib.hid hy
  have HL := Lib.hid hL
  clear h hx hy h0 hL
  go_enter Try.func20, Try.ntmps20
  go_wp2_with fail
  refine (check_any A xs L c kind tt 12 HL.out _ (HX.out.below (by go_grown))).mono ?_
  rw [H1.out, H2.out]
  rintro e w1 ⟨rfl, hb1⟩
  obtain ⟨a1, a2, a3, lz, g1⟩ := res_blocks hb1
  obtain ⟨u0, u1, u2, u3, u4, u5⟩ := HB.row' a1
  obtain ⟨x0, x1, x2, x3, x4, x5⟩ := HB.row' a2
  obtain ⟨z0, z1, z2, z3⟩ := HB.two a3
  have l0 : w.heap.size < w1.heap.size := by omega
  have l1 : w.heap.size + 1 < w1.heap.size := by omega
  have l2 : w.heap.size + 2 < w1.heap.size := by omega
  have l2' : w.heap.size + 1 + 1 < w1.heap.size := by omega
  have A1 := Lib.hid a1
  have A2 := Lib.hid a2
  have A3 := Lib.hid a3
  have G1 := Lib.hid g1
  clear a1 a2 a3 g1 hb1
  go_wp2
  go_region
  go_wp2
  refine bodyPost_ret (v := .tuple #[.agg #[.slice none 0 0, .int .i64 0, .int .i64 0], .agg #[.int .i64 x, .int .i64 y]]) (by simp [results, Try.results20, go_sem, x0, x1, x2, z0, z1, l1, l2]) rfl ⟨none, 0, rfl, Nat.le_refl _, isb_nil _ _ _, ?_⟩
  exact ((bw_far (g := w.heap.size + 2) (bw_far (g := w.heap.size + 1) G1.out (by omega) (far3 w1 _ _ _ _)) (by omega) (far2 _ _ _ _)).alloc (by simp; omega) _).drew
end Go.Proofs.Ytkjollifghmkbaa
