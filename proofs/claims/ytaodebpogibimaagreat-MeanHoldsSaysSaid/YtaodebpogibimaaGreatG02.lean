/-
  Values of nodes: true and false, whole numbers, a choice, the order, Booleans.
  Values of nodes: is it true?
-/
import Derived.Test.YtaodebpogibimaaGreatG01
namespace Go.Proofs.YtaodebpogibimaaGreat
open Go.RowKit

/-- A fraction as an argument. -/
def frV (q : Int × Int) : Value := .agg #[.int .i64 q.1, .int .i64 q.2]
theorem cs_two {w : World} {A : Option Addr} {cs : List (Int × Int)} (h : CsAt w A cs) (hi : 2 ≤ cs.length) : ∃ b o, A = some ⟨b, o, none⟩ ∧ b < w.heap.size ∧ w.cell? ⟨b, o, none⟩ = some (.int .i64 (cn cs 0).1) ∧ w.cell? ⟨b, o + 1, none⟩ = some (.int .i64 (cn cs 0).2) ∧ w.cell? ⟨b, o + 2, none⟩ = some (.int .i64 (cn cs 1).1) ∧ w.cell? ⟨b, o + 2 + 1, none⟩ = some (.int .i64 (cn cs 1).2) ∧ w.cell? ⟨b, o + 3, none⟩ = some (.int .i64 (cn cs 1).2) := by
  obtain ⟨b, o, e, l, q⟩ := h (by omega)
  obtain ⟨x0, y0⟩ := q 0 _ (getD_of (l := cs) (d := (0, 0)) (by omega))
  obtain ⟨x1, y1⟩ := q 1 _ (getD_of (l := cs) (d := (0, 0)) (by omega))
  exact ⟨b, o, e, l, x0, y0, x1, y1, y1⟩
theorem cs_three {w : World} {A : Option Addr} {cs : List (Int × Int)} (h : CsAt w A cs) (hi : 3 ≤ cs.length) : ∃ b o, A = some ⟨b, o, none⟩ ∧ b < w.heap.size ∧ w.cell? ⟨b, o, none⟩ = some (.int .i64 (cn cs 0).1) ∧ w.cell? ⟨b, o + 1, none⟩ = some (.int .i64 (cn cs 0).2) ∧ w.cell? ⟨b, o + 2, none⟩ = some (.int .i64 (cn cs 1).1) ∧ w.cell? ⟨b, o + 2 + 1, none⟩ = some (.int .i64 (cn cs 1).2) ∧ w.cell? ⟨b, o + 3, none⟩ = some (.int .i64 (cn cs 1).2) ∧ w.cell? ⟨b, o + 4, none⟩ = some (.int .i64 (cn cs 2).1) ∧ w.cell? ⟨b, o + 4 + 1, none⟩ = some (.int .i64 (cn cs 2).2) ∧ w.cell? ⟨b, o + 5, none⟩ = some (.int .i64 (cn cs 2).2) := by
  obtain ⟨b, o, e, l, q⟩ := h (by omega)
  obtain ⟨x0, y0⟩ := q 0 _ (getD_of (l := cs) (d := (0, 0)) (by omega))
  obtain ⟨x1, y1⟩ := q 1 _ (getD_of (l := cs) (d := (0, 0)) (by omega))
  obtain ⟨x2, y2⟩ := q 2 _ (getD_of (l := cs) (d := (0, 0)) (by omega))
  exact ⟨b, o, e, l, x0, y0, x1, y1, y1, x2, y2, y2⟩
theorem istrue_any (n d : Int) (w : World) : Calls Tryz.prog 79 #[.agg #[.int .i64 n, .int .i64 d]] w fun e w' => e = .returned (.bool (n == 1)) ∧ Below w.heap.size w w' := by
  go_enter Tryz.func79, Tryz.ntmps79
  go_wp2_with fail
  go_ret
  exact ⟨rfl, by go_grown⟩
theorem isfalse_any (n d : Int) (w : World) : Calls Tryz.prog 22 #[.agg #[.int .i64 n, .int .i64 d]] w fun e w' => e = .returned (.bool (n == 0)) ∧ Below w.heap.size w w' := by
  go_enter Tryz.func22, Tryz.ntmps22
  go_wp2_with fail
  go_ret
  exact ⟨rfl, by go_grown⟩
theorem asnumber_any (b : Bool) (w : World) : Calls Tryz.prog 38 #[.bool b] w fun e w' => e = .returned (.int .i64 (if b then 1 else 0)) ∧ w' = w := by
  cases b
  all_goals
    go_enter Tryz.func38, Tryz.ntmps38
    go_wp2_with fail
    go_ret
    exact ⟨rfl, rfl⟩
theorem whole_any (n : Int) (w : World) : Calls Tryz.prog 35 #[.int .i64 n] w fun e w' => e = .returned (.agg #[.int .i64 n, .int .i64 1, .slice none 0 0, .int .i64 0]) ∧ Below w.heap.size w w' := by
  go_enter Tryz.func35, Tryz.ntmps35
  go_wp2_with fail
  refine bodyPost_ret (v := .agg #[.int .i64 n, .int .i64 1, .slice none 0 0, .int .i64 0]) (by simp [results, Tryz.results35, go_sem]) rfl ⟨rfl, ?_⟩
  go_grown
/-- A choice. -/
def pickF (fs : List (Int × Int)) : Int × Int := if (cn fs 0).1 == 1 then cn fs 1 else cn fs 2
set_option maxHeartbeats 1000000 in
theorem pick_any' (fs : List (Int × Int)) (A : Option Addr) (c : Nat) (h3 : 3 ≤ fs.length) (hm : fs.length ≤ maxLen) (w : World) (h : CsAt w A fs) :
    Calls Tryz.prog 33 #[.slice A fs.length c] w fun e w' => e = .returned (.agg #[.int .i64 (pickF fs).1, .int .i64 (pickF fs).2]) ∧ Below w.heap.size w w' := by
  obtain ⟨b, o, rfl, hb, x0, y0, x1, y1, z1, x2, y2, z2⟩ := cs_three h h3
  have HS : Hid (∀ W, Below w.heap.size w W → W.cell? ⟨b, o, none⟩ = some (.int .i64 (cn fs 0).1) ∧ W.cell? ⟨b, o + 1, none⟩ = some (.int .i64 (cn fs 0).2) ∧ W.cell? ⟨b, o + 2, none⟩ = some (.int .i64 (cn fs 1).1) ∧ W.cell? ⟨b, o + 2 + 1, none⟩ = some (.int .i64 (cn fs 1).2) ∧ W.cell? ⟨b, o + 3, none⟩ = some (.int .i64 (cn fs 1).2) ∧ W.cell? ⟨b, o + 4, none⟩ = some (.int .i64 (cn fs 2).1) ∧ W.cell? ⟨b, o + 4 + 1, none⟩ = some (.int .i64 (cn fs 2).2) ∧ W.cell? ⟨b, o + 5, none⟩ = some (.int .i64 (cn fs 2).2)) := Lib.hid (fun W k =>
    ⟨(k.cell (p := ⟨b, o, none⟩) hb).trans x0, (k.cell (p := ⟨b, o + 1, none⟩) hb).trans y0, (k.cell (p := ⟨b, o + 2, none⟩) hb).trans x1, (k.cell (p := ⟨b, o + 2 + 1, none⟩) hb).trans y1, (k.cell (p := ⟨b, o + 3, none⟩) hb).trans z1, (k.cell (p := ⟨b, o + 4, none⟩) hb).trans x2, (k.cell (p := ⟨b, o + 4 + 1, none⟩) hb).trans y2, (k.cell (p := ⟨b, o + 5, none⟩) hb).trans z2⟩)
  unfold pickF
  unfold maxLen at hm
  clear h x0 y0 x1 y1 z1 x2 y2 z2
  generalize fs.length = L at *
  generalize cn fs 0 = q0 at *
  generalize cn fs 1 = q1 at *
  generalize cn fs 2 = q2 at *
  obtain ⟨n0, d0⟩ := q0
  obtain ⟨n1, d1⟩ := q1
  obtain ⟨n2, d2⟩ := q2
  dsimp only at HS ⊢
  have l0 : (0 : Int) < L := by omega
  have l1 : (1 : Int) < L := by omega
  have l2 : (2 : Int) < L := by omega
  obtain ⟨x0, y0, -, -, -, -, -, -⟩ := HS.out w (Below.refl _ _)
  have G0 := Lib.hid (HB.new w 44 #[.int .i64 0, .int .i64 0])
  go_enter Tryz.func33, Tryz.ntmps33
  go_wp2_with fail
  refine (istrue_any _ _ _).mono ?_
  rintro e w1 ⟨rfl, hb1⟩
  have B1 : Hid (Below w.heap.size w w1) := Lib.hid (below_after (by go_grown) hb1)
  have G1 := Lib.hid (G0.out.below hb1)
  obtain ⟨x0', y0', x1, y1, z1, x2, y2, z2⟩ := HS.out w1 B1.out
  obtain ⟨g0, g1, gf0, gf1⟩ := G1.out.two
  clear hb1 x0 y0 x0' y0'
  have T := G1.out.set_ 0
  cases hq : n0 == 1 with
  | true =>
    go_wp2_with fail
    refine bodyPost_ret (v := .agg #[.int .i64 n1, .int .i64 d1]) (by
      obtain ⟨v0, v1, _⟩ := (hb_set2 (n := .int .i64 n1) (d := .int .i64 d1) G1.out).two
      simp [results, Tryz.results33, go_sem, v0, v1]) rfl ⟨rfl, ?_⟩
    exact bw_far B1.out (Nat.le_refl _) (far2 _ _ _ _)
  | false =>
    go_wp2_with fail
    refine bodyPost_ret (v := .agg #[.int .i64 n2, .int .i64 d2]) (by
      obtain ⟨v0, v1, _⟩ := (hb_set2 (n := .int .i64 n2) (d := .int .i64 d2) G1.out).two
      simp [results, Tryz.results33, go_sem, v0, v1]) rfl ⟨rfl, ?_⟩
    exact bw_far B1.out (Nat.le_refl _) (far2 _ _ _ _)
/-- Is a fraction less? -/
def ltF (p q : Int × Int) : Bool := decide (p.1 * q.2 < q.1 * p.2)
theorem lessv_any (p q : Int × Int) (w : World) (hp : fvalid p.1 p.2 = true) (hq : fvalid q.1 q.2 = true) : Calls Tryz.prog 84 #[.agg #[.int .i64 p.1, .int .i64 p.2], .agg #[.int .i64 q.1, .int .i64 q.2]] w fun e w' => e = .returned (.bool (ltF p q)) ∧ Below w.heap.size w w' := by
  have HL := Lib.hid (fun W => less_good p.1 p.2 q.1 q.2 W hp hq)
  unfold GivesB at HL
  unfold ltF
  generalize decide (p.1 * q.2 < q.1 * p.2) = r at *
  generalize p.1 = a at *
  generalize p.2 = b at *
  generalize q.1 = x at *
  generalize q.2 = y at *
  clear hp hq
  go_enter Tryz.func84, Tryz.ntmps84
  go_wp2_with fail
  refine (HL.out _).mono ?_
  rintro e w1 ⟨rfl, hb1⟩
  have B1 : Hid (Below w.heap.size w w1) := Lib.hid (below_after (by go_grown) hb1)
  clear hb1
  go_wp2_with fail
  go_ret
  have z1 := B1.out
  have z2 := z1.size
  exact ⟨rfl, by go_grown⟩
theorem cn_of {fs : List (Int × Int)} {i : Nat} (h : i < fs.length) : cn fs i = fs[i] := by simp [cn, List.getD, h]
theorem cn_mem {fs : List (Int × Int)} {i : Nat} (h : i < fs.length) : cn fs i ∈ fs := by rw [cn_of h]; exact List.getElem_mem _
set_option maxRecDepth 100000 in
set_option maxHeartbeats 2000000 in
theorem indexfr_any {fid : Nat} (hc : Enters fid) (fs : List (Int × Int)) (A : Option Addr) (c : Nat) (caps : Array Value) (p : Int × Int → Bool) (hl : fs.length ≤ maxLen)
    (H : ∀ i W, i < fs.length → Calls Tryz.prog fid (#[.agg #[.int .i64 (cn fs i).1, .int .i64 (cn fs i).2]] ++ caps) W fun e w' => e = .returned (.bool (p (cn fs i))) ∧ Below W.heap.size W w')
    (w : World) (h : CsAt w A fs) :
    Calls Tryz.prog 116 #[.slice A fs.length c, .func (.func fid) #[] caps] w fun e w' => ∃ k : Int, e = .returned (.int .i64 k) ∧ Hid (decide (0 ≤ k) = fs.any p) ∧ Below w.heap.size w w' := by
  have HA := Lib.hid h
  have HH := Lib.hid H
  have HCC := Lib.hid hc
  unfold maxLen at hl
  generalize hL : fs.length = L at *
  have HL := Lib.hid hL
  clear h H hL hc
  go_enter Tryz.func116, Tryz.ntmps116
  go_wp2_with fail
  go_loopw [5, 8] (fun _ k wr => ∃ i : Nat, i ≤ L ∧ k = .int .i64 i ∧ Hid (∀ j, j < i → p (cn fs j) = false) ∧ Hid (Below w.heap.size w wr)) (fun _ k _ => L - (intOf k).toNat)
  case atStart => exact ⟨0, by omega, rfl, Lib.hid (fun j hj => absurd hj (by omega)), Lib.hid (Below.refl _ _)⟩
  case round =>
    obtain ⟨i, hi, rfl, HP, HB⟩ := hrel
    by_cases hlt : i < L
    · obtain ⟨b, o, rfl, hb, c0, c1⟩ := cs_at (i := i) (HA.out.below HB.out) (by rw [HL.out]; exact hlt)
      have t3 : decide ((i : Int) < L) = true := by simpa using hlt
      have HX2 := Lib.hid (HH.out i wr hlt)
      generalize hcn : cn fs i = q at *
      have HCN := Lib.hid hcn
      clear hcn
      obtain ⟨qn, qd⟩ := q
      dsimp only at c0 c1 HX2
      go_wp2_with fail
      rw [HCC.out, Oper.upon_enter]
      refine HX2.out.mono ?_
      rintro e w1 ⟨rfl, hb1⟩
      have G1 : Hid (Below w.heap.size w w1) := bw_below (Nat.le_refl _) HB.out hb1
      clear hb1
      cases hq : p (qn, qd) with
      | false =>
        have HQ := Lib.hid hq
        clear hq
        go_wp2_with fail
        go_round
        case rel => exact ⟨i + 1, by omega, by go_num, Lib.hid (fun j hj => by
          rcases Nat.lt_or_ge j i with z | z
          · exact HP.out j z
          · obtain rfl : j = i := by omega
            rw [HCN.out]
            exact HQ.out), G1⟩
        case measure => simp [intOf]; omega
      | true =>
        have HQ := Lib.hid hq
        clear hq
        go_wp2_with fail
        go_ret
        exact ⟨_, rfl, Lib.hid (by
          have : fs.any p = true := List.any_eq_true.2 ⟨cn fs i, cn_mem (by rw [HL.out]; exact hlt), by rw [HCN.out]; exact HQ.out⟩
          rw [this]; simp), G1.out⟩
    · obtain rfl : i = L := by omega
      have t3 : decide ((i : Int) < i) = false := by simp
      go_wp2_with fail
      go_ret
      exact ⟨_, rfl, Lib.hid (by
        have : fs.any p = false := List.any_eq_false.2 (fun x hx => by
          obtain ⟨j, hj, rfl⟩ := List.getElem_of_mem hx
          have := HP.out j (by rw [← HL.out]; exact hj)
          rw [cn_of hj] at this
          rw [this]
          simp)
        rw [this]; simp), HB.out⟩
theorem contfr_any {fid : Nat} (hc : Enters fid) (fs : List (Int × Int)) (A : Option Addr) (c : Nat) (caps : Array Value) (p : Int × Int → Bool) (hl : fs.length ≤ maxLen)
    (H : ∀ i W, i < fs.length → Calls Tryz.prog fid (#[.agg #[.int .i64 (cn fs i).1, .int .i64 (cn fs i).2]] ++ caps) W fun e w' => e = .returned (.bool (p (cn fs i))) ∧ Below W.heap.size W w')
    (w : World) (h : CsAt w A fs) :
    Calls Tryz.prog 83 #[.slice A fs.length c, .func (.func fid) #[] caps] w fun e w' => e = .returned (.bool (fs.any p)) ∧ Below w.heap.size w w' := by
  have HX := Lib.hid (indexfr_any hc fs A c caps p hl H w h)
  clear h H hl hc
  generalize fs.length = L at *
  go_enter Tryz.func83, Tryz.ntmps83
  go_wp2_with fail
  refine HX.out.mono ?_
  rintro e w1 ⟨k, rfl, hk, hb1⟩
  have HB1 := Lib.hid hb1
  clear hb1
  go_wp2_with fail
  rw [hk.out]
  go_ret
  exact ⟨rfl, HB1.out⟩
end Go.Proofs.YtaodebpogibimaaGreat
namespace Go.Proofs.YtaodebpogibimaaGreat
open Go.RowKit

/-- Are two fractions the same? -/
def eqF (p q : Int × Int) : Bool := p.1 == q.1 && p.2 == q.2
/-- Is it true? -/
def truF (op : Int) (fs : List (Int × Int)) : Bool :=
  if op = 1 then true else if op = 3 then (cn fs 0).1 == 0 else if op = 4 then !(fs.any fun q => q.1 == 0) else if op = 5 then fs.any fun q => q.1 == 1
  else if op = 6 ∨ op = 8 then eqF (cn fs 0) (cn fs 1) else if op = 13 ∨ op = 22 then ltF (cn fs 0) (cn fs 1) else if op = 14 then !ltF (cn fs 1) (cn fs 0) else false
theorem enters_true : Enters 79 := fun args w => by kernel_rfl
theorem enters_false : Enters 22 := fun args w => by kernel_rfl
set_option maxHeartbeats 1000000 in
theorem tru_const (op : Int) (fs : List (Int × Int)) (A : Option Addr) (c : Nat) (h : op = 1 ∨ op = 2) (w : World) :
    Calls Tryz.prog 39 #[.int .i64 op, .slice A fs.length c] w fun e w' => e = .returned (.bool (truF op fs)) ∧ Below w.heap.size w w' := by
  generalize hL : fs.length = L
  rcases h with rfl | rfl
  · rw [show truF 1 fs = true from rfl]
    go_enter Tryz.func39, Tryz.ntmps39
    go_wp2_with fail
    go_ret
    exact ⟨rfl, Below.refl _ _⟩
  · rw [show truF 2 fs = false from rfl]
    go_enter Tryz.func39, Tryz.ntmps39
    go_wp2_with fail
    go_ret
    exact ⟨rfl, Below.refl _ _⟩
set_option maxHeartbeats 1000000 in
theorem tru_not (fs : List (Int × Int)) (A : Option Addr) (c : Nat) (h1 : 1 ≤ fs.length) (hm : fs.length ≤ maxLen) (w : World) (h : CsAt w A fs) :
    Calls Tryz.prog 39 #[.int .i64 3, .slice A fs.length c] w fun e w' => e = .returned (.bool (truF 3 fs)) ∧ Below w.heap.size w w' := by
  rw [show truF 3 fs = ((cn fs 0).1 == 0) from rfl]
  obtain ⟨b, o, rfl, hb, c0, c1⟩ := cs_at (i := 0) h (by omega)
  rw [Nat.zero_mul, Nat.add_zero] at c0 c1
  unfold maxLen at hm
  generalize fs.length = L at *
  generalize (cn fs 0).1 = n0 at *
  generalize (cn fs 0).2 = d0 at *
  have l0 : (0 : Int) < L := by omega
  clear h h1
  go_enter Tryz.func39, Tryz.ntmps39
  go_wp2_with fail
  refine (isfalse_any _ _ _).mono ?_
  rintro e w1 ⟨rfl, hb1⟩
  have B1 := Lib.hid hb1
  clear hb1
  go_wp2_with fail
  go_ret
  exact ⟨rfl, B1.out⟩
set_option maxHeartbeats 1000000 in
theorem tru_and (fs : List (Int × Int)) (A : Option Addr) (c : Nat) (hm : fs.length ≤ maxLen) (w : World) (h : CsAt w A fs) :
    Calls Tryz.prog 39 #[.int .i64 4, .slice A fs.length c] w fun e w' => e = .returned (.bool (truF 4 fs)) ∧ Below w.heap.size w w' := by
  rw [show truF 4 fs = !(fs.any fun q => q.1 == 0) from rfl]
  have X := Lib.hid (contfr_any enters_false fs A c #[] (fun q => q.1 == 0) hm (fun i W _ => isfalse_any _ _ W) w h)
  generalize (fs.any fun q => q.1 == 0) = r at *
  generalize fs.length = L at *
  clear h hm
  go_enter Tryz.func39, Tryz.ntmps39
  go_wp2_with fail
  refine X.out.mono ?_
  rintro e w1 ⟨rfl, hb1⟩
  have B1 := Lib.hid hb1
  clear hb1
  go_wp2_with fail
  go_ret
  exact ⟨rfl, B1.out⟩
set_option maxHeartbeats 1000000 in
theorem tru_or (fs : List (Int × Int)) (A : Option Addr) (c : Nat) (hm : fs.length ≤ maxLen) (w : World) (h : CsAt w A fs) :
    Calls Tryz.prog 39 #[.int .i64 5, .slice A fs.length c] w fun e w' => e = .returned (.bool (truF 5 fs)) ∧ Below w.heap.size w w' := by
  rw [show truF 5 fs = (fs.any fun q => q.1 == 1) from rfl]
  have X := Lib.hid (contfr_any enters_true fs A c #[] (fun q => q.1 == 1) hm (fun i W _ => istrue_any _ _ W) w h)
  generalize (fs.any fun q => q.1 == 1) = r at *
  generalize fs.length = L at *
  clear h hm
  go_enter Tryz.func39, Tryz.ntmps39
  go_wp2_with fail
  refine X.out.mono ?_
  rintro e w1 ⟨rfl, hb1⟩
  have B1 := Lib.hid hb1
  clear hb1
  go_wp2_with fail
  go_ret
  exact ⟨rfl, B1.out⟩
set_option maxHeartbeats 2000000 in
theorem tru_iff (fs : List (Int × Int)) (A : Option Addr) (c : Nat) (h2 : 2 ≤ fs.length) (hm : fs.length ≤ maxLen) (w : World) (h : CsAt w A fs) :
    Calls Tryz.prog 39 #[.int .i64 6, .slice A fs.length c] w fun e w' => e = .returned (.bool (truF 6 fs)) ∧ Below w.heap.size w w' := by
  rw [show truF 6 fs = eqF (cn fs 0) (cn fs 1) from rfl]
  obtain ⟨b, o, rfl, hb, x0, y0, x1, y1, z1⟩ := cs_two h h2
  unfold maxLen at hm
  generalize fs.length = L at *
  generalize cn fs 0 = q0 at *
  generalize cn fs 1 = q1 at *
  obtain ⟨n0, d0⟩ := q0
  obtain ⟨n1, d1⟩ := q1
  dsimp only at x0 y0 x1 y1 z1 ⊢
  have l0 : (0 : Int) < L := by omega
  have l1 : (1 : Int) < L := by omega
  have m0 : 0 < L := by omega
  have m1 : 1 < L := by omega
  clear h h2 hb
  have HE : Hid ((n0 = n1 ∧ d0 = d1) ∨ (n0 = n1 ∧ (d0 == d1) = false ∧ d0 ≠ d1) ∨ ((n0 == n1) = false ∧ n0 ≠ n1)) := Lib.hid (by
    by_cases e0 : n0 = n1
    · by_cases e1 : d0 = d1
      · exact .inl ⟨e0, e1⟩
      · exact .inr (.inl ⟨e0, by simpa using e1, e1⟩)
    · exact .inr (.inr ⟨by simpa using e0, e0⟩))
  go_enter Tryz.func39, Tryz.ntmps39
  rcases HE.out with ⟨rfl, rfl⟩ | ⟨rfl, t1, t1'⟩ | ⟨t1, t1'⟩
  all_goals
    go_wp2_with fail
    go_quiet (fail)
    go_wp2_with fail
    go_ret
    exact ⟨by unfold eqF; first | (simp; done) | (rw [t1]; simp; done), below_dn (Below.refl _ _) _⟩
set_option maxHeartbeats 2000000 in
theorem tru_same (fs : List (Int × Int)) (A : Option Addr) (c : Nat) (h2 : 2 ≤ fs.length) (hm : fs.length ≤ maxLen) (w : World) (h : CsAt w A fs) :
    Calls Tryz.prog 39 #[.int .i64 8, .slice A fs.length c] w fun e w' => e = .returned (.bool (truF 8 fs)) ∧ Below w.heap.size w w' := by
  rw [show truF 8 fs = eqF (cn fs 0) (cn fs 1) from rfl]
  obtain ⟨b, o, rfl, hb, x0, y0, x1, y1, z1⟩ := cs_two h h2
  unfold maxLen at hm
  generalize fs.length = L at *
  generalize cn fs 0 = q0 at *
  generalize cn fs 1 = q1 at *
  obtain ⟨n0, d0⟩ := q0
  obtain ⟨n1, d1⟩ := q1
  dsimp only at x0 y0 x1 y1 z1 ⊢
  have l0 : (0 : Int) < L := by omega
  have l1 : (1 : Int) < L := by omega
  have m0 : 0 < L := by omega
  have m1 : 1 < L := by omega
  clear h h2 hb
  have HE : Hid ((n0 = n1 ∧ d0 = d1) ∨ (n0 = n1 ∧ (d0 == d1) = false ∧ d0 ≠ d1) ∨ ((n0 == n1) = false ∧ n0 ≠ n1)) := Lib.hid (by
    by_cases e0 : n0 = n1
    · by_cases e1 : d0 = d1
      · exact .inl ⟨e0, e1⟩
      · exact .inr (.inl ⟨e0, by simpa using e1, e1⟩)
    · exact .inr (.inr ⟨by simpa using e0, e0⟩))
  go_enter Tryz.func39, Tryz.ntmps39
  rcases HE.out with ⟨rfl, rfl⟩ | ⟨rfl, t1, t1'⟩ | ⟨t1, t1'⟩
  all_goals
    go_wp2_with fail
    go_quiet (fail)
    go_wp2_with fail
    go_ret
    exact ⟨by unfold eqF; first | (simp; done) | (rw [t1]; simp; done), below_dn (Below.refl _ _) _⟩
set_option maxHeartbeats 2000000 in
theorem tru_less (fs : List (Int × Int)) (A : Option Addr) (c : Nat) (h2 : 2 ≤ fs.length) (hm : fs.length ≤ maxLen) (v0 : fvalid (cn fs 0).1 (cn fs 0).2 = true) (v1 : fvalid (cn fs 1).1 (cn fs 1).2 = true) (w : World) (h : CsAt w A fs) :
    Calls Tryz.prog 39 #[.int .i64 13, .slice A fs.length c] w fun e w' => e = .returned (.bool (truF 13 fs)) ∧ Below w.heap.size w w' := by
  rw [show truF 13 fs = ltF (cn fs 0) (cn fs 1) from rfl]
  obtain ⟨b, o, rfl, hb, x0, y0, x1, y1, z1⟩ := cs_two h h2
  unfold maxLen at hm
  have HV := Lib.hid (fun W => lessv_any (cn fs 0) (cn fs 1) W v0 v1)
  generalize ltF (cn fs 0) (cn fs 1) = r at *
  clear v0 v1
  generalize fs.length = L at *
  generalize cn fs 0 = q0 at *
  generalize cn fs 1 = q1 at *
  obtain ⟨n0, d0⟩ := q0
  obtain ⟨n1, d1⟩ := q1
  dsimp only at x0 y0 x1 y1 z1 HV
  have l0 : (0 : Int) < L := by omega
  have l1 : (1 : Int) < L := by omega
  have m0 : 0 < L := by omega
  have m1 : 1 < L := by omega
  have HC : Hid (∀ W, Below w.heap.size w W → W.cell? ⟨b, o, none⟩ = some (.int .i64 n0) ∧ W.cell? ⟨b, o + 1, none⟩ = some (.int .i64 d0) ∧ W.cell? ⟨b, o + 2, none⟩ = some (.int .i64 n1) ∧ W.cell? ⟨b, o + 2 + 1, none⟩ = some (.int .i64 d1)) := Lib.hid (fun W k =>
    ⟨(k.cell (p := ⟨b, o, none⟩) hb).trans x0, (k.cell (p := ⟨b, o + 1, none⟩) hb).trans y0, (k.cell (p := ⟨b, o + 2, none⟩) hb).trans x1, (k.cell (p := ⟨b, o + 2 + 1, none⟩) hb).trans y1⟩)
  clear h h2 hb
  go_enter Tryz.func39, Tryz.ntmps39
  go_wp2_with fail
  go_region_held3 (fun W => W.cell? ⟨b, o, none⟩ = some (.int .i64 n0) ∧ W.cell? ⟨b, o + 1, none⟩ = some (.int .i64 d0) ∧ W.cell? ⟨b, o + 2, none⟩ = some (.int .i64 n1) ∧ W.cell? ⟨b, o + 2 + 1, none⟩ = some (.int .i64 d1))
    ((first | (with_reducible exact HC.out _ G1.out) | (refine HC.out _ ?_; go_grown; done)))
    (first
      | (go_at_call 84; (with_reducible refine (HV.out _).mono ?_); rintro e w1 ⟨rfl, hb1⟩; have G1 : Hid (Below w.heap.size w w1) := Lib.hid (below_after (show Below w.heap.size w _ by go_grown) hb1); clear hb1))
  all_goals
    go_wp2_with fail
    go_ret
    exact ⟨rfl, G1.out⟩
set_option maxHeartbeats 2000000 in
theorem tru_wless (fs : List (Int × Int)) (A : Option Addr) (c : Nat) (h2 : 2 ≤ fs.length) (hm : fs.length ≤ maxLen) (v0 : fvalid (cn fs 0).1 (cn fs 0).2 = true) (v1 : fvalid (cn fs 1).1 (cn fs 1).2 = true) (w : World) (h : CsAt w A fs) :
    Calls Tryz.prog 39 #[.int .i64 22, .slice A fs.length c] w fun e w' => e = .returned (.bool (truF 22 fs)) ∧ Below w.heap.size w w' := by
  rw [show truF 22 fs = ltF (cn fs 0) (cn fs 1) from rfl]
  obtain ⟨b, o, rfl, hb, x0, y0, x1, y1, z1⟩ := cs_two h h2
  unfold maxLen at hm
  have HV := Lib.hid (fun W => lessv_any (cn fs 0) (cn fs 1) W v0 v1)
  generalize ltF (cn fs 0) (cn fs 1) = r at *
  clear v0 v1
  generalize fs.length = L at *
  generalize cn fs 0 = q0 at *
  generalize cn fs 1 = q1 at *
  obtain ⟨n0, d0⟩ := q0
  obtain ⟨n1, d1⟩ := q1
  dsimp only at x0 y0 x1 y1 z1 HV
  have l0 : (0 : Int) < L := by omega
  have l1 : (1 : Int) < L := by omega
  have m0 : 0 < L := by omega
  have m1 : 1 < L := by omega
  have HC : Hid (∀ W, Below w.heap.size w W → W.cell? ⟨b, o, none⟩ = some (.int .i64 n0) ∧ W.cell? ⟨b, o + 1, none⟩ = some (.int .i64 d0) ∧ W.cell? ⟨b, o + 2, none⟩ = some (.int .i64 n1) ∧ W.cell? ⟨b, o + 2 + 1, none⟩ = some (.int .i64 d1)) := Lib.hid (fun W k =>
    ⟨(k.cell (p := ⟨b, o, none⟩) hb).trans x0, (k.cell (p := ⟨b, o + 1, none⟩) hb).trans y0, (k.cell (p := ⟨b, o + 2, none⟩) hb).trans x1, (k.cell (p := ⟨b, o + 2 + 1, none⟩) hb).trans y1⟩)
  clear h h2 hb
  go_enter Tryz.func39, Tryz.ntmps39
  go_wp2_with fail
  go_region_held3 (fun W => W.cell? ⟨b, o, none⟩ = some (.int .i64 n0) ∧ W.cell? ⟨b, o + 1, none⟩ = some (.int .i64 d0) ∧ W.cell? ⟨b, o + 2, none⟩ = some (.int .i64 n1) ∧ W.cell? ⟨b, o + 2 + 1, none⟩ = some (.int .i64 d1))
    ((first | (with_reducible exact HC.out _ G1.out) | (refine HC.out _ ?_; go_grown; done)))
    (first
      | (go_at_call 84; (with_reducible refine (HV.out _).mono ?_); rintro e w1 ⟨rfl, hb1⟩; have G1 : Hid (Below w.heap.size w w1) := Lib.hid (below_after (show Below w.heap.size w _ by go_grown) hb1); clear hb1))
  all_goals
    go_wp2_with fail
    go_ret
    exact ⟨rfl, G1.out⟩
set_option maxHeartbeats 2000000 in
theorem tru_most (fs : List (Int × Int)) (A : Option Addr) (c : Nat) (h2 : 2 ≤ fs.length) (hm : fs.length ≤ maxLen) (v0 : fvalid (cn fs 0).1 (cn fs 0).2 = true) (v1 : fvalid (cn fs 1).1 (cn fs 1).2 = true) (w : World) (h : CsAt w A fs) :
    Calls Tryz.prog 39 #[.int .i64 14, .slice A fs.length c] w fun e w' => e = .returned (.bool (truF 14 fs)) ∧ Below w.heap.size w w' := by
  rw [show truF 14 fs = !ltF (cn fs 1) (cn fs 0) from rfl]
  obtain ⟨b, o, rfl, hb, x0, y0, x1, y1, z1⟩ := cs_two h h2
  unfold maxLen at hm
  have HV := Lib.hid (fun W => lessv_any (cn fs 1) (cn fs 0) W v1 v0)
  generalize ltF (cn fs 1) (cn fs 0) = r at *
  clear v0 v1
  generalize fs.length = L at *
  generalize cn fs 0 = q0 at *
  generalize cn fs 1 = q1 at *
  obtain ⟨n0, d0⟩ := q0
  obtain ⟨n1, d1⟩ := q1
  dsimp only at x0 y0 x1 y1 z1 HV
  have l0 : (0 : Int) < L := by omega
  have l1 : (1 : Int) < L := by omega
  have m0 : 0 < L := by omega
  have m1 : 1 < L := by omega
  have HC : Hid (∀ W, Below w.heap.size w W → W.cell? ⟨b, o, none⟩ = some (.int .i64 n0) ∧ W.cell? ⟨b, o + 1, none⟩ = some (.int .i64 d0) ∧ W.cell? ⟨b, o + 2, none⟩ = some (.int .i64 n1) ∧ W.cell? ⟨b, o + 2 + 1, none⟩ = some (.int .i64 d1)) := Lib.hid (fun W k =>
    ⟨(k.cell (p := ⟨b, o, none⟩) hb).trans x0, (k.cell (p := ⟨b, o + 1, none⟩) hb).trans y0, (k.cell (p := ⟨b, o + 2, none⟩) hb).trans x1, (k.cell (p := ⟨b, o + 2 + 1, none⟩) hb).trans y1⟩)
  clear h h2 hb
  go_enter Tryz.func39, Tryz.ntmps39
  go_wp2_with fail
  go_region_held3 (fun W => W.cell? ⟨b, o, none⟩ = some (.int .i64 n0) ∧ W.cell? ⟨b, o + 1, none⟩ = some (.int .i64 d0) ∧ W.cell? ⟨b, o + 2, none⟩ = some (.int .i64 n1) ∧ W.cell? ⟨b, o + 2 + 1, none⟩ = some (.int .i64 d1))
    ((first | (with_reducible exact HC.out _ G1.out) | (refine HC.out _ ?_; go_grown; done)))
    (first
      | (go_at_call 84; (with_reducible refine (HV.out _).mono ?_); rintro e w1 ⟨rfl, hb1⟩; have G1 : Hid (Below w.heap.size w w1) := Lib.hid (below_after (show Below w.heap.size w _ by go_grown) hb1); clear hb1))
  all_goals
    go_wp2_with fail
    go_ret
    exact ⟨rfl, G1.out⟩
/-- Is it true? -/
theorem truth_any (op : Int) (fs : List (Int × Int)) (A : Option Addr) (c : Nat) (hop : op = 1 ∨ op = 2 ∨ op = 3 ∨ op = 4 ∨ op = 5 ∨ op = 6 ∨ op = 8 ∨ op = 13 ∨ op = 14 ∨ op = 22) (hm : fs.length ≤ maxLen)
    (h1 : op = 3 → 1 ≤ fs.length) (h2 : op = 6 ∨ op = 8 ∨ op = 13 ∨ op = 14 ∨ op = 22 → 2 ≤ fs.length) (hv : op = 13 ∨ op = 14 ∨ op = 22 → fvalid (cn fs 0).1 (cn fs 0).2 = true ∧ fvalid (cn fs 1).1 (cn fs 1).2 = true) (w : World) (h : CsAt w A fs) :
    Calls Tryz.prog 39 #[.int .i64 op, .slice A fs.length c] w fun e w' => e = .returned (.bool (truF op fs)) ∧ Below w.heap.size w w' := by
  rcases hop with rfl | rfl | rfl | rfl | rfl | rfl | rfl | rfl | rfl | rfl
  · exact tru_const 1 fs A c (.inl rfl) w
  · exact tru_const 2 fs A c (.inr rfl) w
  · exact tru_not fs A c (h1 rfl) hm w h
  · exact tru_and fs A c hm w h
  · exact tru_or fs A c hm w h
  · exact tru_iff fs A c (h2 (by decide)) hm w h
  · exact tru_same fs A c (h2 (by decide)) hm w h
  · exact tru_less fs A c (h2 (by decide)) hm (hv (by decide)).1 (hv (by decide)).2 w h
  · exact tru_most fs A c (h2 (by decide)) hm (hv (by decide)).1 (hv (by decide)).2 w h
  · exact tru_wless fs A c (h2 (by decide)) hm (hv (by decide)).1 (hv (by decide)).2 w h
end Go.Proofs.YtaodebpogibimaaGreat
