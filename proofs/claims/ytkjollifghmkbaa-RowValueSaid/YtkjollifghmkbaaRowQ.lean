/-
  The contract of row.Tidy.
-/
import Derived.Test.YtkjollifghmkbaaRowJ
import Derived.Test.YtkjollifghmkbaaRowP
namespace Go.Proofs.Ytkjollifghmkbaa
open Go.RowKit

/-- The blocks of a function of a row: its argument, its results. -/
def RB (w0 : Nat) (v1 v2 v3 : Value) (w' : World) : Prop :=
  HB w' w0 24 #[v1, v2, v3] ∧ HB w' (w0 + 1) 24 #[.slice none 0 0, .int .i64 0, .int .i64 0] ∧ HB w' (w0 + 2) 29 #[.int .i64 0, .int .i64 0]
section
variable {w0 g : Nat} {v1 v2 v3 : Value} {w w' : World}
theorem RB.below (h : RB w0 v1 v2 v3 w) (k : Below w.heap.size w w') : RB w0 v1 v2 v3 w' := ⟨h.1.below k, h.2.1.below k, h.2.2.below k⟩
theorem RB.alloc (h : RB w0 v1 v2 v3 w) (o : Obj) : RB w0 v1 v2 v3 (w.alloc o) := ⟨h.1.alloc o, h.2.1.alloc o, h.2.2.alloc o⟩
theorem RB.drewN (h : RB w0 v1 v2 v3 w) (n : Nat) : RB w0 v1 v2 v3 (w.drewN n) := h
theorem RB.drew (h : RB w0 v1 v2 v3 w) : RB w0 v1 v2 v3 w.drew := h
theorem RB.cells (h : RB w0 v1 v2 v3 w) : w0 < w.heap.size ∧ w0 + 1 < w.heap.size ∧ w0 + 1 + 1 < w.heap.size ∧ w.cell? ⟨w0, 0, none⟩ = some v1 ∧ w.cell? ⟨w0, 1, none⟩ = some v2 ∧ w.cell? ⟨w0, 2, none⟩ = some v3 ∧
    w.cell? ⟨w0 + 1, 0, none⟩ = some (.slice none 0 0) ∧ w.cell? ⟨w0 + 1, 1, none⟩ = some (.int .i64 0) ∧ w.cell? ⟨w0 + 1, 2, none⟩ = some (.int .i64 0) ∧
    w.frozen? ⟨w0 + 1, 0, none⟩ = false ∧ w.frozen? ⟨w0 + 1, 1, none⟩ = false ∧ w.frozen? ⟨w0 + 1, 2, none⟩ = false ∧
    w.cell? ⟨w0 + 1 + 1, 0, none⟩ = some (.int .i64 0) ∧ w.cell? ⟨w0 + 1 + 1, 1, none⟩ = some (.int .i64 0) ∧ w.frozen? ⟨w0 + 1 + 1, 0, none⟩ = false ∧ w.frozen? ⟨w0 + 1 + 1, 1, none⟩ = false :=
  ⟨h.1.lt, h.2.1.lt, h.2.2.lt, h.1.cell 0, h.1.cell 1, h.1.cell 2, h.2.1.cell 0, h.2.1.cell 1, h.2.1.cell 2, h.2.1.frozen 0, h.2.1.frozen 1, h.2.1.frozen 2, h.2.2.cell 0, h.2.2.cell 1, h.2.2.frozen 0, h.2.2.frozen 1⟩
end
theorem res_rb {w w1 : World} {v1 v2 v3 : Value} (hb : Below (((w.alloc (.cells #[v1, v2, v3] 24)).alloc (.cells #[.slice none 0 0, .int .i64 0, .int .i64 0] 24)).alloc (.cells #[.int .i64 0, .int .i64 0] 29)).heap.size (((w.alloc (.cells #[v1, v2, v3] 24)).alloc (.cells #[.slice none 0 0, .int .i64 0, .int .i64 0] 24)).alloc (.cells #[.int .i64 0, .int .i64 0] 29)) w1) :
    RB w.heap.size v1 v2 v3 w1 ∧ Below w.heap.size w w1 := by
  obtain ⟨a1, a2, a3, _, g⟩ := res_blocks hb
  exact ⟨⟨a1, a2, a3⟩, g⟩
theorem trimmed_b (A : Option Addr) (xs : List Int) (L c : Nat) (hL : L = xs.length) (hc : L ≤ c) (hb : L ≤ 1073741824) (w : World) (h : Is w A xs) :
    Calls Try.prog 41 #[.slice A L c] w fun e w' => e = .returned (.slice A (rK xs) c) ∧ Below w.heap.size w w' := by
  subst hL
  refine (trimmed_any A xs _ c rfl hc hb w h).mono ?_
  rintro e w' ⟨rfl, n, rfl⟩
  exact ⟨rfl, below_drewN (Below.refl _ _) n⟩
/-- The way of a function of a row to its end. -/
theorem rb_end {w w2 : World} (u1 u2 u3 p q : Value) (g : Below w.heap.size w w2) :
    Below w.heap.size w (((((w2.setCell ⟨w.heap.size + 1, 0, none⟩ u1).setCell ⟨w.heap.size + 1, 1, none⟩ u2).setCell ⟨w.heap.size + 1, 2, none⟩ u3).setCell ⟨w.heap.size + 1 + 1, 0, none⟩ p).setCell ⟨w.heap.size + 1 + 1, 1, none⟩ q) :=
  bw_far (g := w.heap.size + 1 + 1) (bw_far (g := w.heap.size + 1) g (by omega) (far3 w2 _ _ _ _)) (by omega) (far2 _ _ _ _)
set_option maxRecDepth 100000 in
set_option maxHeartbeats 30000000 in
theorem tidy_good (A : Option Addr) (xs : List Int) (L c : Nat) (kind tt : Int) (hL : L = xs.length) (hc : L ≤ c) (w : World) (h : Is w A xs) (h0 : chkC kind tt xs 12 = 0) :
    Calls Try.prog 19 #[.agg #[.slice A L c, .int .i64 kind, .int .i64 tt]] w (GivesRF (tidyL kind tt xs) kind (tidyT kind tt xs) 0 0 w) := by
  obtain ⟨hy, _, _, hk, hle, hbad, hin⟩ := chk_zero h0
  have hx := h0
  have hall := bad_all hbad
  have l12 : L ≤ 12 := by omega
  have HIN := Lib.hid hin
  have HA : Hid (∀ i, i < L → inB (nth xs i) = true) := by rw [hL]; exact hall
  have HX := Lib.hid h
  have H1 := Lib.hid hx
  have H2 := Lib.hid hy
  have HL := Lib.hid hL
  have HK := Lib.hid hk
  clear h hx hy h0 hL hle hbad hin hall hk
  go_enter Try.func19, Try.ntmps19
  go_wp2_with fail
  refine (check_any A xs L c kind tt 12 HL.out _ (HX.out.below (by go_grown))).mono ?_
  rw [H1.out, H2.out]
  rintro e w1 ⟨rfl, hb1⟩
  obtain ⟨b1, g1⟩ := res_rb hb1
  obtain ⟨l0, l1, l2, u0, u1, u2, x0, x1, x2, x3, x4, x5, z0, z1, z2, z3⟩ := b1.cells
  have B1 := Lib.hid b1
  have G1 := Lib.hid g1
  clear b1 g1 hb1
  go_wp2_with fail
  refine (trimmed_b A xs L c HL.out hc (by omega) _ (HX.out.below (G1.out.alloc (by omega) _))).mono ?_
  rintro e w2 ⟨rfl, hb2⟩
  have b2 := (B1.out.alloc (.cells #[.int .i64 0, .int .i64 0] 29)).below hb2
  have G2 := Lib.hid (bw_below (Nat.le_refl _) (G1.out.alloc (by omega) _) hb2)
  obtain ⟨l0', l1', l2', u0', u1', u2', x0', x1', x2', x3', x4', x5', z0', z1', z2', z3'⟩ := b2.cells
  have B2 := Lib.hid b2
  clear b2 hb2 u0 u1 u2 x0 x1 x2 x3 x4 x5 z0 z1 z2 z3
  by_cases hz : rK xs = 0
  · have e1 : tidyL kind tt xs = [] := by unfold tidyL; rw [if_pos hz]
    have e2 : tidyT kind tt xs = bareT kind tt := by unfold tidyT; rw [if_pos hz]
    have E1 := Lib.hid e1
    have E2 := Lib.hid e2
    have d1 : ((rK xs : Int) == 0) = true := by simpa using hz
    clear e1 e2
    go_wp2_with fail
    refine (rbare_any kind tt HK.out _).mono ?_
    rintro e w3 ⟨rfl, hb3⟩
    have b3 := B2.out.below hb3
    have G3 := Lib.hid (bw_below (Nat.le_refl _) G2.out hb3)
    obtain ⟨l0'', l1'', l2'', u0'', u1'', u2'', x0'', x1'', x2'', x3'', x4'', x5'', z0'', z1'', z2'', z3''⟩ := b3.cells
    have B3 := Lib.hid b3
    clear b3 hb3
    go_wp2
    refine bodyPost_ret (v := .tuple #[.agg #[.slice none 0 0, .int .i64 kind, .int .i64 (bareT kind tt)], .agg #[.int .i64 0, .int .i64 0]]) (by simp [results, Try.results19, go_sem, x0'', x1'', x2'', z0'', z1'']) rfl ⟨none, 0, by rw [E1.out, E2.out]; rfl, by rw [E1.out]; exact Nat.le_refl _, by rw [E1.out]; exact isb_nil _ _ _, ?_⟩
    exact rb_end _ _ _ _ _ G3.out
  · have hp : 0 < rK xs := by omega
    have e1 := tidyL_pos kind tt hz
    have e2 := tidyT_pos kind tt hz
    have d1 : ((rK xs : Int) == 0) = false := by simpa using hz
    have g0 := tidyG_pos tt xs hp
    have kle := rK_le xs
    have KLE : Hid (rK xs ≤ L) := by show _ ≤ _; rw [HL.out]; exact kle
    have hI2 : ∀ i, i < rK xs → inB (nth (xs.take (rK xs)) i) = true := fun i hi => by rw [nth_take hi]; exact HA.out i (Nat.lt_of_lt_of_le hi KLE.out)
    have hlen : rK xs = (xs.take (rK xs)).length := by rw [List.length_take]; omega
    have hgk : gcdK (xs.take (rK xs)) (rK xs) = gcdK xs (rK xs) := gcdK_congr _ _ _ fun j hj => nth_take hj
    have gle : gcdK xs (rK xs) ≤ 1000000 := gcdK_le xs _ fun j hj => HA.out j (Nat.lt_of_lt_of_le hj KLE.out)
    obtain ⟨i1, i2⟩ := inB_iff.1 HIN.out
    have i1' : -1073741824 ≤ tt := by omega
    have i2' : tt ≤ 1073741824 := by omega
    have k12 : rK xs ≤ 12 := by have := KLE.out; omega
    have E1 := Lib.hid e1
    have E2 := Lib.hid e2
    have HI2 := Lib.hid hI2
    have HLEN := Lib.hid hlen
    have HX2 := Lib.hid (is_take HX.out (rK xs))
    have hq : ∀ W, Hid (Is W A (xs.take (rK xs))) → Calls Try.prog 44 #[.slice A (rK xs : Nat) c] W fun e w' => e = .returned (.int .i64 (gcdK xs (rK xs) : Nat)) ∧ ∃ n, w' = W.drewN n := fun W hW => by
      have := rdivs_any A (xs.take (rK xs)) (rK xs) c HLEN.out (by omega) HI2.out W hW.out
      rwa [hgk] at this
    have HX3 : Hid (Is w2 A (xs.take (rK xs))) := HX2.out.below G2.out
    have HQ := Lib.hid hq
    obtain ⟨g, hg⟩ : ∃ g : Int, g = (tidyG tt xs : Nat) := ⟨_, rfl⟩
    have hr : ∀ W, Calls Try.prog 43 #[.int .i64 (gcdK xs (rK xs) : Nat), .int .i64 tt] W fun e w' => e = .returned (.int .i64 g) ∧ ∃ n, w' = W.drewN n := fun W => by
      rw [hg]
      exact rdiv_any _ _ (by omega) (by omega) i1' i2' W
    have HR := Lib.hid hr
    rw [← hg] at e1 e2
    have gz : ¬ g = 0 := by omega
    have hd : ∀ W, Hid (Is W A (xs.take (rK xs))) → Calls Try.prog 46 #[.slice A (rK xs : Nat) c, .int .i64 g] W fun e w' => ∃ A' c', e = .returned (.slice A' (rK xs : Nat) c') ∧ rK xs ≤ c' ∧ Isb W.heap.size w' A' (quotL xs g) ∧ Below W.heap.size W w' := fun W hW => by
      have := divided_any A (xs.take (rK xs)) (rK xs) c g HLEN.out k12 (by omega) HI2.out W hW.out
      refine this.mono ?_
      rintro e w' ⟨A', c', rfl, h1, h2, h3⟩
      have hl : (List.map (fun x => Int.tdiv x g) (xs.take (rK xs))).length = rK xs := by rw [List.length_map, ← HLEN.out]
      exact ⟨A', c', by rw [hl], by rw [hl] at h1; exact h1, h2, h3⟩
    have HD := Lib.hid hd
    have hqb : ∀ i, i < rK xs → inB (nth (quotL xs g) i) = true := fun i hi => by
      rw [nth_quotL _ _ _ hi]
      obtain ⟨q1, q2⟩ := inB_iff.1 (HA.out i (Nat.lt_of_lt_of_le hi KLE.out))
      exact inB_iff.2 (tdiv_bd' _ _ q1 q2)
    have hu : ∀ (B : Nat) (W : World) (A' : Option Addr) (c' : Nat), rK xs ≤ c' → B ≤ W.heap.size → Isb B W A' (quotL xs g) → Calls Try.prog 45 #[.agg #[.slice A' (rK xs : Nat) c', .int .i64 kind, .int .i64 (tt.tdiv g)]] W (GivesU B (upL kind (quotL xs g)) kind (upT kind (quotL xs g) (tt.tdiv g)) W) := fun B W A' c' h1 h2 h3 =>
      upright_any B A' (quotL xs g) (rK xs) c' kind (tt.tdiv g) (quotL_len _ _).symm k12 h1 hqb (inB_iff.2 (tdiv_bd' _ _ i1 i2)) W h2 h3
    have HU := Lib.hid hu
    have E1 := Lib.hid e1
    have E2 := Lib.hid e2
    have d2 : (g == 0) = false := by simpa using gz
    obtain ⟨j1, j2⟩ := tdiv_bd' tt g i1 i2
    have tw : IntKind.i64.wrap (tt.tdiv g) = tt.tdiv g := IntWalk.i64_in _ (by omega)
    clear e1 e2 hI2 hlen hgk kle hz hq hr hd hqb hu hg
    go_wp2_with fail
    go_quiet ((first | (go_at_call 44; refine Calls.quiet_of (HQ.out _ HX3)) | (go_at_call 43; refine Calls.quiet_of (HR.out _))))
    generalize hW : w2.drewN nq = W
    have b3 : RB w.heap.size (.slice A L c) (.int .i64 kind) (.int .i64 tt) W := hW ▸ B2.out.drewN nq
    have G3 : Hid (Below w.heap.size w W) := hW ▸ below_drewN G2.out nq
    have F0 := Lib.hid b3.1
    have HX4 : Hid (Is W.drew A (xs.take (rK xs))) := Is.drew (HX2.out.below G3.out)
    have LWD : Hid (w.heap.size + 2 < W.drew.heap.size) := b3.2.2.lt
    have B3 := Lib.hid b3
    clear b3 hW x0' x1' x2' x3' x4' x5' z0' z1' z2' z3' u0' u1' u2' B2 G2 B1 G1
    go_wp2_with fail
    go_region_held3 (fun w' => HB w' w.heap.size 24 #[.slice A L c, .int .i64 kind, .int .i64 tt] ∧ w'.cell? ⟨w.heap.size, 0, none⟩ = some (.slice A L c) ∧ w'.cell? ⟨w.heap.size, 1, none⟩ = some (.int .i64 kind) ∧ w'.cell? ⟨w.heap.size, 2, none⟩ = some (.int .i64 tt))
      ((refine HB.row ?_; first | (with_reducible exact F5.out) | (with_reducible exact F4.out) | (with_reducible exact F0.out.drew) | (with_reducible exact HB.far (HB.far (HB.far F5.out (by simp) _) (by simp) _) (by simp) _) | (with_reducible exact HB.far (HB.far (HB.far (HB.far (HB.far F5.out (by simp) _) (by simp) _) (by simp) _) (by simp; omega) _) (by simp; omega) _) | (with_reducible exact HB.far (HB.far (HB.far (HB.far F5.out (by simp) _) (by simp) _) (by simp) _) (by simp; omega) _)))
      (first
        | (go_at_call 46; refine (HD.out _ HX4).mono ?_; rintro e w3 ⟨A3, c3, rfl, hl3, hi3, hb3⟩; have HL3 := Lib.hid hl3; have H3 := Lib.hid hi3; have LW3 := Lib.hid hb3.size; have F4 := Lib.hid (F0.out.drew.below hb3); have B4 := Lib.hid (B3.out.drew.below hb3); have G4 := Lib.hid (bw_below (Nat.le_refl _) G3.out.drew hb3); clear hi3 hb3 hl3)
        | (go_at_call 45; refine (HU.out W.drew.heap.size w3 A3 c3 HL3.out LW3.out H3.out).mono ?_; rintro e w4 ⟨A4, c4, rfl, hl4, hi4, hb4⟩; have HL4 := Lib.hid hl4; have H4 := Lib.hid hi4; have F5 := Lib.hid (F4.out.below hb4); have b5 := B4.out.below hb4; have G5 := Lib.hid (bw_below (Nat.le_refl _) G4.out hb4); obtain ⟨l0'', l1'', l2'', u0'', u1'', u2'', x0'', x1'', x2'', x3'', x4'', x5'', z0'', z1'', z2'', z3''⟩ := b5.cells; clear hi4 hb4 hl4 b5))
    all_goals
      go_wp2
      refine bodyPost_ret (v := .tuple #[.agg #[.slice A4 (upL kind (quotL xs g)).length c4, .int .i64 kind, .int .i64 (upT kind (quotL xs g) (tt.tdiv g))], .agg #[.int .i64 0, .int .i64 0]]) (by simp [results, Try.results19, go_sem, x0'', x1'', x2'', z0'', z1'']) rfl ⟨A4, c4, by rw [E1.out, E2.out], by rw [E1.out]; exact HL4.out, ?_, ?_⟩
      · rw [E1.out]
        have lz := LWD.out
        exact Isb.mono ((H4.out.far_ (g := w.heap.size + 1) (by omega) (far3 w4 _ _ _ _)).far_ (g := w.heap.size + 1 + 1) (by omega) (far2 _ _ _ _)) (by omega)
      · exact rb_end _ _ _ _ _ G5.out
set_option maxHeartbeats 4000000 in
theorem tidy_bad (A : Option Addr) (xs : List Int) (L c : Nat) (kind tt : Int) (hL : L = xs.length) (w : World) (h : Is w A xs) (x y : Int) (hx : chkC kind tt xs 12 = x) (hy : chkI kind tt xs 12 = y) (h0 : x ≠ 0) :
    Calls Try.prog 19 #[.agg #[.slice A L c, .int .i64 kind, .int .i64 tt]] w (GivesRF [] 0 0 x y w) := by
  have d : (x == 0) = false := by simpa using h0
  have HX := Lib.hid h
  have H1 := Lib.hid hx
  have H2 := Lib.hid hy
  have HL := Lib.hid hL
  clear h hx hy h0 hL
  go_enter Try.func19, Try.ntmps19
  go_wp2_with fail
  refine (check_any A xs L c kind tt 12 HL.out _ (HX.out.below (by go_grown))).mono ?_
  rw [H1.out, H2.out]
  rintro e w1 ⟨rfl, hb1⟩
  obtain ⟨a1, a2, a3, lz, g1⟩ := res_blocks hb1
  obtain ⟨u0, u1, u2, u3, u4, u5⟩ := HB.row' a1
  obtain ⟨x0, x1, x2, x3, x4, x5⟩ := HB.row' a2
  obtain ⟨z0, z1, z2, z3⟩ := HB.two a3
  have l0 : w.heap.size < w1.heap.size := by omega
  have l1 : w.heap.size + 1 < w1.heap.size := by omega
  have l2 : w.heap.size + 2 < w1.heap.size := by omega
  have l2' : w.heap.size + 1 + 1 < w1.heap.size := by omega
  have A1 := Lib.hid a1
  have A2 := Lib.hid a2
  have A3 := Lib.hid a3
  have G1 := Lib.hid g1
  clear a1 a2 a3 g1 hb1
  go_wp2
  go_region
  go_wp2
  refine bodyPost_ret (v := .tuple #[.agg #[.slice none 0 0, .int .i64 0, .int .i64 0], .agg #[.int .i64 x, .int .i64 y]]) (by simp [results, Try.results19, go_sem, x0, x1, x2, z0, z1, l1, l2]) rfl ⟨none, 0, rfl, Nat.le_refl _, isb_nil _ _ _, ?_⟩
  exact ((bw_far (g := w.heap.size + 2) (bw_far (g := w.heap.size + 1) G1.out (by omega) (far3 w1 _ _ _ _)) (by omega) (far2 _ _ _ _)).alloc (by simp; omega) _).drew
/-- What Tidy yields. -/
def tdL (kind tt : Int) (xs : List Int) : List Int := if chkC kind tt xs 12 = 0 then tidyL kind tt xs else []
def tdK (kind tt : Int) (xs : List Int) : Int := if chkC kind tt xs 12 = 0 then kind else 0
def tdT (kind tt : Int) (xs : List Int) : Int := if chkC kind tt xs 12 = 0 then tidyT kind tt xs else 0
theorem tidy_any (A : Option Addr) (xs : List Int) (L c : Nat) (kind tt : Int) (hL : L = xs.length) (hc : L ≤ c) (w : World) (h : Is w A xs) :
    Calls Try.prog 19 #[.agg #[.slice A L c, .int .i64 kind, .int .i64 tt]] w (GivesRF (tdL kind tt xs) (tdK kind tt xs) (tdT kind tt xs) (chkC kind tt xs 12) (chkI kind tt xs 12) w) := by
  unfold tdL tdK tdT
  by_cases h0 : chkC kind tt xs 12 = 0
  · simp only [if_pos h0]
    rw [(chk_zero h0).1, h0]
    exact tidy_good A xs L c kind tt hL hc w h h0
  · simp only [if_neg h0]
    exact tidy_bad A xs L c kind tt hL w h _ _ rfl rfl h0
end Go.Proofs.Ytkjollifghmkbaa
