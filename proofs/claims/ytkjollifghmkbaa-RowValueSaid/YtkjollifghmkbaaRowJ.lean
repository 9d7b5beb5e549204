/-
  The contract of row.Not.
-/
import Derived.Test.YtkjollifghmkbaaRowI
import Derived.Test.YtkjollifghmkbaaRowH
namespace Go.Proofs.Ytkjollifghmkbaa
open Go.RowKit

/-- The way in which a call that makes a row and tells a fault ends. -/
def GivesRF (ys : List Int) (kind tt c i : Int) (w : World) (e : Ending) (w' : World) : Prop := ∃ A cp, e = .returned (.tuple #[.agg #[.slice A ys.length cp, .int .i64 kind, .int .i64 tt], .agg #[.int .i64 c, .int .i64 i]]) ∧ ys.length ≤ cp ∧ Isb w.heap.size w' A ys ∧ Below w.heap.size w w'
/-- The blocks in which a function of a row keeps its results. -/
theorem res_blocks {w w1 : World} {v1 v2 v3 : Value} (hb : Below (((w.alloc (.cells #[v1, v2, v3] 24)).alloc (.cells #[.slice none 0 0, .int .i64 0, .int .i64 0] 24)).alloc (.cells #[.int .i64 0, .int .i64 0] 29)).heap.size (((w.alloc (.cells #[v1, v2, v3] 24)).alloc (.cells #[.slice none 0 0, .int .i64 0, .int .i64 0] 24)).alloc (.cells #[.int .i64 0, .int .i64 0] 29)) w1) :
    HB w1 w.heap.size 24 #[v1, v2, v3] ∧ HB w1 (w.heap.size + 1) 24 #[.slice none 0 0, .int .i64 0, .int .i64 0] ∧ HB w1 (w.heap.size + 2) 29 #[.int .i64 0, .int .i64 0] ∧ w.heap.size + 3 ≤ w1.heap.size ∧ Below w.heap.size w w1 := by
  have a1 := (((HB.new w 24 #[v1, v2, v3]).alloc (.cells #[.slice none 0 0, .int .i64 0, .int .i64 0] 24)).alloc (.cells #[.int .i64 0, .int .i64 0] 29)).below hb
  have a2 := ((HB.new1 w (.cells #[v1, v2, v3] 24) 24 #[.slice none 0 0, .int .i64 0, .int .i64 0]).alloc (.cells #[.int .i64 0, .int .i64 0] 29)).below hb
  have a3 := (HB.new1 (w.alloc (.cells #[v1, v2, v3] 24)) (.cells #[.slice none 0 0, .int .i64 0, .int .i64 0] 24) 29 #[.int .i64 0, .int .i64 0]).below hb
  simp at a3
  exact ⟨a1, a2, a3, by have := a3.lt; omega, below_after (by go_grown) hb⟩
theorem HB.two {w : World} {g : Nat} {t : TypeId} {v1 v2 : Value} (h : HB w g t #[v1, v2]) : w.cell? ⟨g, 0, none⟩ = some v1 ∧ w.cell? ⟨g, 1, none⟩ = some v2 ∧ w.frozen? ⟨g, 0, none⟩ = false ∧ w.frozen? ⟨g, 1, none⟩ = false := ⟨h.cell 0, h.cell 1, h.frozen 0, h.frozen 1⟩
theorem far3 (w : World) (g : Nat) (v1 v2 v3 : Value) : Far g w (((w.setCell ⟨g, 0, none⟩ v1).setCell ⟨g, 1, none⟩ v2).setCell ⟨g, 2, none⟩ v3) := ((far_set w g 0 v1).trans (far_set _ g 1 v2)).trans (far_set _ g 2 v3)
theorem far2 (w : World) (g : Nat) (v1 v2 : Value) : Far g w ((w.setCell ⟨g, 0, none⟩ v1).setCell ⟨g, 1, none⟩ v2) := (far_set w g 0 v1).trans (far_set _ g 1 v2)
set_option maxRecDepth 100000 in
set_option maxHeartbeats 4000000 in
theorem not_good (A : Option Addr) (xs : List Int) (L c : Nat) (kind tt : Int) (hL : L = xs.length) (w : World) (h : Is w A xs) (h0 : chkC kind tt xs 12 = 0) (kd : kind = 1 ∨ kind = 2) :
    Calls Try.prog 21 #[.agg #[.slice A L c, .int .i64 kind, .int .i64 tt]] w (GivesRF (negL xs) (3 - kind) (-tt) 0 0 w) := by
  obtain ⟨hy, _, _, _, hle, hbad, hin⟩ := chk_zero h0
  have hx := h0
  have hall := bad_all hbad
  have l12 : L ≤ 12 := by omega
  have HIN := Lib.hid hin
  have HA : Hid (∀ i, i < L → inB (nth xs i) = true) := by rw [hL]; exact hall
  have HX := Lib.hid h
  have H1 := Lib.hid hx
  have H2 := Lib.hid hy
  have HL := Lib.hid hL
  clear h hx hy h0 hL hle hbad hin hall
  go_enter Try.func21, Try.ntmps21
  go_wp2_with fail
  refine (check_any A xs L c kind tt 12 HL.out _ (HX.out.below (by go_grown))).mono ?_
  rw [H1.out, H2.out]
  rintro e w1 ⟨rfl, hb1⟩
  obtain ⟨a1, a2, a3, lz, g1⟩ := res_blocks hb1
  obtain ⟨u0, u1, u2, u3, u4, u5⟩ := HB.row' a1
  obtain ⟨x0, x1, x2, x3, x4, x5⟩ := HB.row' a2
  obtain ⟨z0, z1, z2, z3⟩ := HB.two a3
  have l0 : w.heap.size < w1.heap.size := by omega
  have l1 : w.heap.size + 1 < w1.heap.size := by omega
  have l2 : w.heap.size + 2 < w1.heap.size := by omega
  have l2' : w.heap.size + 1 + 1 < w1.heap.size := by omega
  have A1 := Lib.hid a1
  have A2' := Lib.hid a2
  have A3 := Lib.hid a3
  have G1 := Lib.hid g1
  clear a1 a2 a3 g1 hb1
  rcases kd with rfl | rfl
  · go_wp2_with fail
    refine (negated_any A xs L c _ tt HL.out l12 HA.out HIN.out _ (HX.out.below (G1.out.alloc (by omega) _))).mono ?_
    rintro e w2 ⟨A2, c2, rfl, hl2, hi2, hb2⟩
    have HL2 := Lib.hid hl2
    clear hl2
    have B2 := (A2'.out.alloc (.cells #[.int .i64 0, .int .i64 0] 29)).below hb2
    have B3 := (A3.out.alloc (.cells #[.int .i64 0, .int .i64 0] 29)).below hb2
    have B1 := (A1.out.alloc (.cells #[.int .i64 0, .int .i64 0] 29)).below hb2
    have G2 := Lib.hid (bw_below (Nat.le_refl _) (G1.out.alloc (by omega) _) hb2)
    have H3 := Lib.hid hi2
    obtain ⟨u0, u1, u2, u3, u4, u5⟩ := HB.row' B1
    obtain ⟨x0, x1, x2, x3, x4, x5⟩ := HB.row' B2
    obtain ⟨z0, z1, z2, z3⟩ := HB.two B3
    have l0 : w.heap.size < w2.heap.size := B1.lt
    have l1 : w.heap.size + 1 < w2.heap.size := B2.lt
    have l2 : w.heap.size + 2 < w2.heap.size := B3.lt
    have l2' : w.heap.size + 1 + 1 < w2.heap.size := B3.lt
    have HB1 := Lib.hid B1
    have HB2 := Lib.hid B2
    have HB3 := Lib.hid B3
    clear hi2 hb2 B1 B2 B3
    go_wp2
    refine bodyPost_ret (v := .tuple #[.agg #[.slice A2 (negL xs).length c2, .int .i64 2, .int .i64 (-tt)], .agg #[.int .i64 0, .int .i64 0]]) (by simp [results, Try.results21, go_sem, x0, x1, x2, z0, z1, l1, l2']) rfl ⟨A2, c2, rfl, HL2.out, ?_, ?_⟩
    · refine Isb.mono (((H3.out.far_ (g := w.heap.size + 1) (by simp; omega) (far3 w2 _ _ _ _)).far_ (g := w.heap.size + 1 + 1) (by simp; omega) (far2 _ _ _ _)).below (new_below _ _)) (by simp; omega)
    · exact (bw_far (g := w.heap.size + 1 + 1) (bw_far (g := w.heap.size + 1) G2.out (by omega) (far3 w2 _ _ _ _)) (by omega) (far2 _ _ _ _)).alloc (by simp; omega) _
  · go_wp2_with fail
    refine (negated_any A xs L c _ tt HL.out l12 HA.out HIN.out _ (HX.out.below (G1.out.alloc (by omega) _))).mono ?_
    rintro e w2 ⟨A2, c2, rfl, hl2, hi2, hb2⟩
    have HL2 := Lib.hid hl2
    clear hl2
    have B2 := (A2'.out.alloc (.cells #[.int .i64 0, .int .i64 0] 29)).below hb2
    have B3 := (A3.out.alloc (.cells #[.int .i64 0, .int .i64 0] 29)).below hb2
    have B1 := (A1.out.alloc (.cells #[.int .i64 0, .int .i64 0] 29)).below hb2
    have G2 := Lib.hid (bw_below (Nat.le_refl _) (G1.out.alloc (by omega) _) hb2)
    have H3 := Lib.hid hi2
    obtain ⟨u0, u1, u2, u3, u4, u5⟩ := HB.row' B1
    obtain ⟨x0, x1, x2, x3, x4, x5⟩ := HB.row' B2
    obtain ⟨z0, z1, z2, z3⟩ := HB.two B3
    have l0 : w.heap.size < w2.heap.size := B1.lt
    have l1 : w.heap.size + 1 < w2.heap.size := B2.lt
    have l2 : w.heap.size + 2 < w2.heap.size := B3.lt
    have l2' : w.heap.size + 1 + 1 < w2.heap.size := B3.lt
    have HB1 := Lib.hid B1
    have HB2 := Lib.hid B2
    have HB3 := Lib.hid B3
    clear hi2 hb2 B1 B2 B3
    go_wp2
    refine bodyPost_ret (v := .tuple #[.agg #[.slice A2 (negL xs).length c2, .int .i64 1, .int .i64 (-tt)], .agg #[.int .i64 0, .int .i64 0]]) (by simp [results, Try.results21, go_sem, x0, x1, x2, z0, z1, l1, l2']) rfl ⟨A2, c2, rfl, HL2.out, ?_, ?_⟩
    · refine Isb.mono (((H3.out.far_ (g := w.heap.size + 1) (by simp; omega) (far3 w2 _ _ _ _)).far_ (g := w.heap.size + 1 + 1) (by simp; omega) (far2 _ _ _ _)).below (new_below _ _)) (by simp; omega)
    · exact (bw_far (g := w.heap.size + 1 + 1) (bw_far (g := w.heap.size + 1) G2.out (by omega) (far3 w2 _ _ _ _)) (by omega) (far2 _ _ _ _)).alloc (by simp; omega) _
set_option maxHeartbeats 4000000 in
theorem not_bad (A : Option Addr) (xs : List Int) (L c : Nat) (kind tt : Int) (hL : L = xs.length) (w : World) (h : Is w A xs) (x y : Int) (hx : chkC kind tt xs 12 = x) (hy : chkI kind tt xs 12 = y) (h0 : x ≠ 0) :
    Calls Try.prog 21 #[.agg #[.slice A L c, .int .i64 kind, .int .i64 tt]] w (GivesRF [] 0 0 x y w) := by
  have d : (x == 0) = false := by simpa using h0
  have HX := Lib.hid h
  have H1 := Lib.hid hx
  have H2 := Lib.hid hy
  have HL := Lib.hid hL
  clear h hx hy h0 hL
  go_enter Try.func21, Try.ntmps21
  go_wp2_with fail
  refine (check_any A xs L c kind tt 12 HL.out _ (HX.out.below (by go_grown))).mono ?_
  rw [H1.out, H2.out]
  rintro e w1 ⟨rfl, hb1⟩
  obtain ⟨a1, a2, a3, lz, g1⟩ := res_blocks hb1
  obtain ⟨u0, u1, u2, u3, u4, u5⟩ := HB.row' a1
  obtain ⟨x0, x1, x2, x3, x4, x5⟩ := HB.row' a2
  obtain ⟨z0, z1, z2, z3⟩ := HB.two a3
  have l0 : w.heap.size < w1.heap.size := by omega
  have l1 : w.heap.size + 1 < w1.heap.size := by omega
  have l2 : w.heap.size + 2 < w1.heap.size := by omega
  have l2' : w.heap.size + 1 + 1 < w1.heap.size := by omega
  have A1 := Lib.hid a1
  have A2 := Lib.hid a2
  have A3 := Lib.hid a3
  have G1 := Lib.hid g1
  clear a1 a2 a3 g1 hb1
  go_wp2
  go_region
  go_wp2
  refine bodyPost_ret (v := .tuple #[.agg #[.slice none 0 0, .int .i64 0, .int .i64 0], .agg #[.int .i64 x, .int .i64 y]]) (by simp [results, Try.results21, go_sem, x0, x1, x2, z0, z1, l1, l2]) rfl ⟨none, 0, rfl, Nat.le_refl _, isb_nil _ _ _, ?_⟩
  exact ((bw_far (g := w.heap.size + 2) (bw_far (g := w.heap.size + 1) G1.out (by omega) (far3 w1 _ _ _ _)) (by omega) (far2 _ _ _ _)).alloc (by simp; omega) _).drew
set_option maxRecDepth 100000 in
set_option maxHeartbeats 4000000 in
theorem not_three (A : Option Addr) (xs : List Int) (L c : Nat) (tt : Int) (hL : L = xs.length) (w : World) (h : Is w A xs) (h0 : chkC 3 tt xs 12 = 0) :
    Calls Try.prog 21 #[.agg #[.slice A L c, .int .i64 3, .int .i64 tt]] w (GivesRF [] 0 0 4 0 w) := by
  obtain ⟨hy, _, _, _, hle, hbad, hin⟩ := chk_zero h0
  have hx := h0
  have hall := bad_all hbad
  have l12 : L ≤ 12 := by omega
  have HIN := Lib.hid hin
  have HA : Hid (∀ i, i < L → inB (nth xs i) = true) := by rw [hL]; exact hall
  have HX := Lib.hid h
  have H1 := Lib.hid hx
  have H2 := Lib.hid hy
  have HL := Lib.hid hL
  clear h hx hy h0 hL hle hbad hin hall
  go_enter Try.func21, Try.ntmps21
  go_wp2_with fail
  refine (check_any A xs L c 3 tt 12 HL.out _ (HX.out.below (by go_grown))).mono ?_
  rw [H1.out, H2.out]
  rintro e w1 ⟨rfl, hb1⟩
  obtain ⟨a1, a2, a3, lz, g1⟩ := res_blocks hb1
  obtain ⟨u0, u1, u2, u3, u4, u5⟩ := HB.row' a1
  obtain ⟨x0, x1, x2, x3, x4, x5⟩ := HB.row' a2
  obtain ⟨z0, z1, z2, z3⟩ := HB.two a3
  have l0 : w.heap.size < w1.heap.size := by omega
  have l1 : w.heap.size + 1 < w1.heap.size := by omega
  have l2 : w.heap.size + 2 < w1.heap.size := by omega
  have l2' : w.heap.size + 1 + 1 < w1.heap.size := by omega
  have A1 := Lib.hid a1
  have A2' := Lib.hid a2
  have A3 := Lib.hid a3
  have G1 := Lib.hid g1
  clear a1 a2 a3 g1 hb1
  go_wp2_with fail
  refine (negated_any A xs L c _ tt HL.out l12 HA.out HIN.out _ (HX.out.below (G1.out.alloc (by omega) _))).mono ?_
  rintro e w2 ⟨A2, c2, rfl, hl2, hi2, hb2⟩
  have HL2 := Lib.hid hl2
  clear hl2
  have B2 := (A2'.out.alloc (.cells #[.int .i64 0, .int .i64 0] 29)).below hb2
  have B3 := (A3.out.alloc (.cells #[.int .i64 0, .int .i64 0] 29)).below hb2
  have B1 := (A1.out.alloc (.cells #[.int .i64 0, .int .i64 0] 29)).below hb2
  have G2 := Lib.hid (bw_below (Nat.le_refl _) (G1.out.alloc (by omega) _) hb2)
  have H3 := Lib.hid hi2
  obtain ⟨u0, u1, u2, u3, u4, u5⟩ := HB.row' B1
  obtain ⟨x0, x1, x2, x3, x4, x5⟩ := HB.row' B2
  obtain ⟨z0, z1, z2, z3⟩ := HB.two B3
  have l0 : w.heap.size < w2.heap.size := B1.lt
  have l1 : w.heap.size + 1 < w2.heap.size := B2.lt
  have l2 : w.heap.size + 2 < w2.heap.size := B3.lt
  have l2' : w.heap.size + 1 + 1 < w2.heap.size := B3.lt
  have HB1 := Lib.hid B1
  have HB2 := Lib.hid B2
  have HB3 := Lib.hid B3
  clear hi2 hb2 B1 B2 B3
  go_wp2
  refine bodyPost_ret (v := .tuple #[.agg #[.slice none 0 0, .int .i64 0, .int .i64 0], .agg #[.int .i64 4, .int .i64 0]]) (by simp [results, Try.results21, go_sem, x0, x1, x2, z0, z1, l1, l2']) rfl ⟨none, 0, rfl, Nat.le_refl _, isb_nil _ _ _, ?_⟩
  exact (bw_far (g := w.heap.size + 1 + 1) (bw_far (g := w.heap.size + 1) G2.out (by omega) (far3 w2 _ _ _ _)) (by omega) (far2 _ _ _ _)).alloc (by simp; omega) _
def notC (kind tt : Int) (xs : List Int) : Int := if chkC kind tt xs 12 = 0 then (if kind = 3 then 4 else 0) else chkC kind tt xs 12
def notI (kind tt : Int) (xs : List Int) : Int := if chkC kind tt xs 12 = 0 then 0 else chkI kind tt xs 12
def notL (kind tt : Int) (xs : List Int) : List Int := if notC kind tt xs = 0 then negL xs else []
def notK (kind tt : Int) (xs : List Int) : Int := if notC kind tt xs = 0 then 3 - kind else 0
def notT (kind tt : Int) (xs : List Int) : Int := if notC kind tt xs = 0 then -tt else 0
theorem not_any (A : Option Addr) (xs : List Int) (L c : Nat) (kind tt : Int) (hL : L = xs.length) (w : World) (h : Is w A xs) :
    Calls Try.prog 21 #[.agg #[.slice A L c, .int .i64 kind, .int .i64 tt]] w (GivesRF (notL kind tt xs) (notK kind tt xs) (notT kind tt xs) (notC kind tt xs) (notI kind tt xs) w) := by
  unfold notL notK notT notC notI
  by_cases h0 : chkC kind tt xs 12 = 0
  · simp only [if_pos h0]
    obtain ⟨_, _, _, hk, _⟩ := chk_zero h0
    by_cases h3 : kind = 3
    · subst h3
      exact not_three A xs L c tt hL w h h0
    · simp only [if_neg h3]
      exact not_good A xs L c kind tt hL w h h0 (by omega)
  · simp only [if_neg h0]
    exact not_bad A xs L c kind tt hL w h _ _ rfl rfl h0
end Go.Proofs.Ytkjollifghmkbaa
