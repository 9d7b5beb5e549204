/-
  Values of nodes: is it true?
  Values of nodes: words.
-/
import Derived.Test.YtibpgcdaommjeaaG03
namespace Go.Proofs.Ytibpgcdaommjeaa
open Go.RowKit

/-- Are two fractions the same? -/
def eqF (p q : Int × Int) : Bool := p.1 == q.1 && p.2 == q.2
/-- Is it true? -/
def truF (op : Int) (fs : List (Int × Int)) : Bool :=
  if op = 1 then true else if op = 3 then (cn fs 0).1 == 0 else if op = 4 then !(fs.any fun q => q.1 == 0) else if op = 5 then fs.any fun q => q.1 == 1
  else if op = 6 ∨ op = 8 then eqF (cn fs 0) (cn fs 1) else if op = 13 ∨ op = 22 then ltF (cn fs 0) (cn fs 1) else if op = 14 then !ltF (cn fs 1) (cn fs 0) else false
theorem enters_true : Enters 60 := fun args w => by kernel_rfl
theorem enters_false : Enters 64 := fun args w => by kernel_rfl
set_option maxHeartbeats 1000000 in
theorem tru_const (op : Int) (fs : List (Int × Int)) (A : Option Addr) (c : Nat) (h : op = 1 ∨ op = 2) (w : World) :
    Calls Try.prog 35 #[.int .i64 op, .slice A fs.length c] w fun e w' => e = .returned (.bool (truF op fs)) ∧ Below w.heap.size w w' := by
  generalize hL : fs.length = L
  rcases h with rfl | rfl
  · rw [show truF 1 fs = true from rfl]
    go_enter Try.func35, Try.ntmps35
    go_wp2_with fail
    go_ret
    exact ⟨rfl, Below.refl _ _⟩
  · rw [show truF 2 fs = false from rfl]
    go_enter Try.func35, Try.ntmps35
    go_wp2_with fail
    go_ret
    exact ⟨rfl, Below.refl _ _⟩
set_option maxHeartbeats 1000000 in
theorem tru_not (fs : List (Int × Int)) (A : Option Addr) (c : Nat) (h1 : 1 ≤ fs.length) (hm : fs.length ≤ maxLen) (w : World) (h : CsAt w A fs) :
    Calls Try.prog 35 #[.int .i64 3, .slice A fs.length c] w fun e w' => e = .returned (.bool (truF 3 fs)) ∧ Below w.heap.size w w' := by
  rw [show truF 3 fs = ((cn fs 0).1 == 0) from rfl]
  obtain ⟨b, o, rfl, hb, c0, c1⟩ := cs_at (i := 0) h (by omega)
  rw [Nat.zero_mul, Nat.add_zero] at c0 c1
  unfold maxLen at hm
  generalize fs.length = L at *
  generalize (cn fs 0).1 = n0 at *
  generalize (cn fs 0).2 = d0 at *
  have l0 : (0 : Int) < L := by omega
  clear h h1
  go_enter Try.func35, Try.ntmps35
  go_wp2_with fail
  refine (isfalse_any _ _ _).mono ?_
  rintro e w1 ⟨rfl, hb1⟩
  have B1 := Lib.hid hb1
  clear hb1
  go_wp2_with fail
  go_ret
  exact ⟨rfl, B1.out⟩
set_option maxHeartbeats 1000000 in
theorem tru_and (fs : List (Int × Int)) (A : Option Addr) (c : Nat) (hm : fs.length ≤ maxLen) (w : World) (h : CsAt w A fs) :
    Calls Try.prog 35 #[.int .i64 4, .slice A fs.length c] w fun e w' => e = .returned (.bool (truF 4 fs)) ∧ Below w.heap.size w w' := by
  rw [show truF 4 fs = !(fs.any fun q => q.1 == 0) from rfl]
  have X := Lib.hid (contfr_any enters_false fs A c #[] (fun q => q.1 == 0) hm (fun i W _ => isfalse_any _ _ W) w h)
  generalize (fs.any fun q => q.1 == 0) = r at *
  generalize fs.length = L at *
  clear h hm
  go_enter Try.func35, Try.ntmps35
  go_wp2_with fail
  refine X.out.mono ?_
  rintro e w1 ⟨rfl, hb1⟩
  have B1 := Lib.hid hb1
  clear hb1
  go_wp2_with fail
  go_ret
  exact ⟨rfl, B1.out⟩
set_option maxHeartbeats 1000000 in
theorem tru_or (fs : List (Int × Int)) (A : Option Addr) (c : Nat) (hm : fs.length ≤ maxLen) (w : World) (h : CsAt w A fs) :
    Calls Try.prog 35 #[.int .i64 5, .slice A fs.length c] w fun e w' => e = .returned (.bool (truF 5 fs)) ∧ Below w.heap.size w w' := by
  rw [show truF 5 fs = (fs.any fun q => q.1 == 1) from rfl]
  have X := Lib.hid (contfr_any enters_true fs A c #[] (fun q => q.1 == 1) hm (fun i W _ => istrue_any _ _ W) w h)
  generalize (fs.any fun q => q.1 == 1) = r at *
  generalize fs.length = L at *
  clear h hm
  go_enter Try.func35, Try.ntmps35
  go_wp2_with fail
  refine X.out.mono ?_
  rintro e w1 ⟨rfl, hb1⟩
  have B1 := Lib.hid hb1
  clear hb1
  go_wp2_with fail
  go_ret
  exact ⟨rfl, B1.out⟩
set_option maxHeartbeats 2000000 in
theorem tru_iff (fs : List (Int × Int)) (A : Option Addr) (c : Nat) (h2 : 2 ≤ fs.length) (hm : fs.length ≤ maxLen) (w : World) (h : CsAt w A fs) :
    Calls Try.prog 35 #[.int .i64 6, .slice A fs.length c] w fun e w' => e = .returned (.bool (truF 6 fs)) ∧ Below w.heap.size w w' := by
  rw [show truF 6 fs = eqF (cn fs 0) (cn fs 1) from rfl]
  obtain ⟨b, o, rfl, hb, x0, y0, x1, y1, z1⟩ := cs_two h h2
  unfold maxLen at hm
  generalize fs.length = L at *
  generalize cn fs 0 = q0 at *
  generalize cn fs 1 = q1 at *
  obtain ⟨n0, d0⟩ := q0
  obtain ⟨n1, d1⟩ := q1
  dsimp only at x0 y0 x1 y1 z1 ⊢
  have l0 : (0 : Int) < L := by omega
  have l1 : (1 : Int) < L := by omega
  have m0 : 0 < L := by omega
  have m1 : 1 < L := by omega
  clear h h2 hb
  have HE : Hid ((n0 = n1 ∧ d0 = d1) ∨ (n0 = n1 ∧ (d0 == d1) = false ∧ d0 ≠ d1) ∨ ((n0 == n1) = false ∧ n0 ≠ n1)) := Lib.hid (by
    by_cases e0 : n0 = n1
    · by_cases e1 : d0 = d1
      · exact .inl ⟨e0, e1⟩
      · exact .inr (.inl ⟨e0, by simpa using e1, e1⟩)
    · exact .inr (.inr ⟨by simpa using e0, e0⟩))
  go_enter Try.func35, Try.ntmps35
  rcases HE.out with ⟨rfl, rfl⟩ | ⟨rfl, t1, t1'⟩ | ⟨t1, t1'⟩
  all_goals
    go_wp2_with fail
    go_quiet (fail)
    go_wp2_with fail
    go_ret
    exact ⟨by unfold eqF; first | (simp; done) | (rw [t1]; simp; done), below_dn (Below.refl _ _) _⟩
set_option maxHeartbeats 2000000 in
theorem tru_same (fs : List (Int × Int)) (A : Option Addr) (c : Nat) (h2 : 2 ≤ fs.length) (hm : fs.length ≤ maxLen) (w : World) (h : CsAt w A fs) :
    Calls Try.prog 35 #[.int .i64 8, .slice A fs.length c] w fun e w' => e = .returned (.bool (truF 8 fs)) ∧ Below w.heap.size w w' := by
  rw [show truF 8 fs = eqF (cn fs 0) (cn fs 1) from rfl]
  obtain ⟨b, o, rfl, hb, x0, y0, x1, y1, z1⟩ := cs_two h h2
  unfold maxLen at hm
  generalize fs.length = L at *
  generalize cn fs 0 = q0 at *
  generalize cn fs 1 = q1 at *
  obtain ⟨n0, d0⟩ := q0
  obtain ⟨n1, d1⟩ := q1
  dsimp only at x0 y0 x1 y1 z1 ⊢
  have l0 : (0 : Int) < L := by omega
  have l1 : (1 : Int) < L := by omega
  have m0 : 0 < L := by omega
  have m1 : 1 < L := by omega
  clear h h2 hb
  have HE : Hid ((n0 = n1 ∧ d0 = d1) ∨ (n0 = n1 ∧ (d0 == d1) = false ∧ d0 ≠ d1) ∨ ((n0 == n1) = false ∧ n0 ≠ n1)) := Lib.hid (by
    by_cases e0 : n0 = n1
    · by_cases e1 : d0 = d1
      · exact .inl ⟨e0, e1⟩
      · exact .inr (.inl ⟨e0, by simpa using e1, e1⟩)
    · exact .inr (.inr ⟨by simpa using e0, e0⟩))
  go_enter Try.func35, Try.ntmps35
  rcases HE.out with ⟨rfl, rfl⟩ | ⟨rfl, t1, t1'⟩ | ⟨t1, t1'⟩
  all_goals
    go_wp2_with fail
    go_quiet (fail)
    go_wp2_with fail
    go_ret
    exact ⟨by unfold eqF; first | (simp; done) | (rw [t1]; simp; done), below_dn (Below.refl _ _) _⟩
set_option maxHeartbeats 2000000 in
theorem tru_less (fs : List (Int × Int)) (A : Option Addr) (c : Nat) (h2 : 2 ≤ fs.length) (hm : fs.length ≤ maxLen) (v0 : fvalid (cn fs 0).1 (cn fs 0).2 = true) (v1 : fvalid (cn fs 1).1 (cn fs 1).2 = true) (w : World) (h : CsAt w A fs) :
    Calls Try.prog 35 #[.int .i64 13, .slice A fs.length c] w fun e w' => e = .returned (.bool (truF 13 fs)) ∧ Below w.heap.size w w' := by
  rw [show truF 13 fs = ltF (cn fs 0) (cn fs 1) from rfl]
  obtain ⟨b, o, rfl, hb, x0, y0, x1, y1, z1⟩ := cs_two h h2
  unfold maxLen at hm
  have HV := Lib.hid (fun W => lessv_any (cn fs 0) (cn fs 1) W v0 v1)
  generalize ltF (cn fs 0) (cn fs 1) = r at *
  clear v0 v1
  generalize fs.length = L at *
  generalize cn fs 0 = q0 at *
  generalize cn fs 1 = q1 at *
  obtain ⟨n0, d0⟩ := q0
  obtain ⟨n1, d1⟩ := q1
  dsimp only at x0 y0 x1 y1 z1 HV
  have l0 : (0 : Int) < L := by omega
  have l1 : (1 : Int) < L := by omega
  have m0 : 0 < L := by omega
  have m1 : 1 < L := by omega
  have HC : Hid (∀ W, Below w.heap.size w W → W.cell? ⟨b, o, none⟩ = some (.int .i64 n0) ∧ W.cell? ⟨b, o + 1, none⟩ = some (.int .i64 d0) ∧ W.cell? ⟨b, o + 2, none⟩ = some (.int .i64 n1) ∧ W.cell? ⟨b, o + 2 + 1, none⟩ = some (.int .i64 d1)) := Lib.hid (fun W k =>
    ⟨(k.cell (p := ⟨b, o, none⟩) hb).trans x0, (k.cell (p := ⟨b, o + 1, none⟩) hb).trans y0, (k.cell (p := ⟨b, o + 2, none⟩) hb).trans x1, (k.cell (p := ⟨b, o + 2 + 1, none⟩) hb).trans y1⟩)
  clear h h2 hb
  go_enter Try.func35, Try.ntmps35
  go_wp2_with fail
  go_region_held3 (fun W => W.cell? ⟨b, o, none⟩ = some (.int .i64 n0) ∧ W.cell? ⟨b, o + 1, none⟩ = some (.int .i64 d0) ∧ W.cell? ⟨b, o + 2, none⟩ = some (.int .i64 n1) ∧ W.cell? ⟨b, o + 2 + 1, none⟩ = some (.int .i64 d1))
    ((first | (with_reducible exact HC.out _ G1.out) | (refine HC.out _ ?_; go_grown; done)))
    (first
      | (go_at_call 66; (with_reducible refine (HV.out _).mono ?_); rintro e w1 ⟨rfl, hb1⟩; have G1 : Hid (Below w.heap.size w w1) := Lib.hid (below_after (show Below w.heap.size w _ by go_grown) hb1); clear hb1))
  all_goals
    go_wp2_with fail
    go_ret
    exact ⟨rfl, G1.out⟩
set_option maxHeartbeats 2000000 in
theorem tru_wless (fs : List (Int × Int)) (A : Option Addr) (c : Nat) (h2 : 2 ≤ fs.length) (hm : fs.length ≤ maxLen) (v0 : fvalid (cn fs 0).1 (cn fs 0).2 = true) (v1 : fvalid (cn fs 1).1 (cn fs 1).2 = true) (w : World) (h : CsAt w A fs) :
    Calls Try.prog 35 #[.int .i64 22, .slice A fs.length c] w fun e w' => e = .returned (.bool (truF 22 fs)) ∧ Below w.heap.size w w' := by
  rw [show truF 22 fs = ltF (cn fs 0) (cn fs 1) from rfl]
  obtain ⟨b, o, rfl, hb, x0, y0, x1, y1, z1⟩ := cs_two h h2
  unfold maxLen at hm
  have HV := Lib.hid (fun W => lessv_any (cn fs 0) (cn fs 1) W v0 v1)
  generalize ltF (cn fs 0) (cn fs 1) = r at *
  clear v0 v1
  generalize fs.length = L at *
  generalize cn fs 0 = q0 at *
  generalize cn fs 1 = q1 at *
  obtain ⟨n0, d0⟩ := q0
  obtain ⟨n1, d1⟩ := q1
  dsimp only at x0 y0 x1 y1 z1 HV
  have l0 : (0 : Int) < L := by omega
  have l1 : (1 : Int) < L := by omega
  have m0 : 0 < L := by omega
  have m1 : 1 < L := by omega
  have HC : Hid (∀ W, Below w.heap.size w W → W.cell? ⟨b, o, none⟩ = some (.int .i64 n0) ∧ W.cell? ⟨b, o + 1, none⟩ = some (.int .i64 d0) ∧ W.cell? ⟨b, o + 2, none⟩ = some (.int .i64 n1) ∧ W.cell? ⟨b, o + 2 + 1, none⟩ = some (.int .i64 d1)) := Lib.hid (fun W k =>
    ⟨(k.cell (p := ⟨b, o, none⟩) hb).trans x0, (k.cell (p := ⟨b, o + 1, none⟩) hb).trans y0, (k.cell (p := ⟨b, o + 2, none⟩) hb).trans x1, (k.cell (p := ⟨b, o + 2 + 1, none⟩) hb).trans y1⟩)
  clear h h2 hb
  go_enter Try.func35, Try.ntmps35
  go_wp2_with fail
  go_region_held3 (fun W => W.cell? ⟨b, o, none⟩ = some (.int .i64 n0) ∧ W.cell? ⟨b, o + 1, none⟩ = some (.int .i64 d0) ∧ W.cell? ⟨b, o + 2, none⟩ = some (.int .i64 n1) ∧ W.cell? ⟨b, o + 2 + 1, none⟩ = some (.int .i64 d1))
    ((first | (with_reducible exact HC.out _ G1.out) | (refine HC.out _ ?_; go_grown; done)))
    (first
      | (go_at_call 66; (with_reducible refine (HV.out _).mono ?_); rintro e w1 ⟨rfl, hb1⟩; have G1 : Hid (Below w.heap.size w w1) := Lib.hid (below_after (show Below w.heap.size w _ by go_grown) hb1); clear hb1))
  all_goals
    go_wp2_with fail
    go_ret
    exact ⟨rfl, G1.out⟩
set_option maxHeartbeats 2000000 in
theorem tru_most (fs : List (Int × Int)) (A : Option Addr) (c : Nat) (h2 : 2 ≤ fs.length) (hm : fs.length ≤ maxLen) (v0 : fvalid (cn fs 0).1 (cn fs 0).2 = true) (v1 : fvalid (cn fs 1).1 (cn fs 1).2 = true) (w : World) (h : CsAt w A fs) :
    Calls Try.prog 35 #[.int .i64 14, .slice A fs.length c] w fun e w' => e = .returned (.bool (truF 14 fs)) ∧ Below w.heap.size w w' := by
  rw [show truF 14 fs = !ltF (cn fs 1) (cn fs 0) from rfl]
  obtain ⟨b, o, rfl, hb, x0, y0, x1, y1, z1⟩ := cs_two h h2
  unfold maxLen at hm
  have HV := Lib.hid (fun W => lessv_any (cn fs 1) (cn fs 0) W v1 v0)
  generalize ltF (cn fs 1) (cn fs 0) = r at *
  clear v0 v1
  generalize fs.length = L at *
  generalize cn fs 0 = q0 at *
  generalize cn fs 1 = q1 at *
  obtain ⟨n0, d0⟩ := q0
  obtain ⟨n1, d1⟩ := q1
  dsimp only at x0 y0 x1 y1 z1 HV
  have l0 : (0 : Int) < L := by omega
  have l1 : (1 : Int) < L := by omega
  have m0 : 0 < L := by omega
  have m1 : 1 < L := by omega
  have HC : Hid (∀ W, Below w.heap.size w W → W.cell? ⟨b, o, none⟩ = some (.int .i64 n0) ∧ W.cell? ⟨b, o + 1, none⟩ = some (.int .i64 d0) ∧ W.cell? ⟨b, o + 2, none⟩ = some (.int .i64 n1) ∧ W.cell? ⟨b, o + 2 + 1, none⟩ = some (.int .i64 d1)) := Lib.hid (fun W k =>
    ⟨(k.cell (p := ⟨b, o, none⟩) hb).trans x0, (k.cell (p := ⟨b, o + 1, none⟩) hb).trans y0, (k.cell (p := ⟨b, o + 2, none⟩) hb).trans x1, (k.cell (p := ⟨b, o + 2 + 1, none⟩) hb).trans y1⟩)
  clear h h2 hb
  go_enter Try.func35, Try.ntmps35
  go_wp2_with fail
  go_region_held3 (fun W => W.cell? ⟨b, o, none⟩ = some (.int .i64 n0) ∧ W.cell? ⟨b, o + 1, none⟩ = some (.int .i64 d0) ∧ W.cell? ⟨b, o + 2, none⟩ = some (.int .i64 n1) ∧ W.cell? ⟨b, o + 2 + 1, none⟩ = some (.int .i64 d1))
    ((first | (with_reducible exact HC.out _ G1.out) | (refine HC.out _ ?_; go_grown; done)))
    (first
      | (go_at_call 66; (with_reducible refine (HV.out _).mono ?_); rintro e w1 ⟨rfl, hb1⟩; have G1 : Hid (Below w.heap.size w w1) := Lib.hid (below_after (show Below w.heap.size w _ by go_grown) hb1); clear hb1))
  all_goals
    go_wp2_with fail
    go_ret
    exact ⟨rfl, G1.out⟩
/-- Is it true? -/
theorem truth_any (op : Int) (fs : List (Int × Int)) (A : Option Addr) (c : Nat) (hop : op = 1 ∨ op = 2 ∨ op = 3 ∨ op = 4 ∨ op = 5 ∨ op = 6 ∨ op = 8 ∨ op = 13 ∨ op = 14 ∨ op = 22) (hm : fs.length ≤ maxLen)
    (h1 : op = 3 → 1 ≤ fs.length) (h2 : op = 6 ∨ op = 8 ∨ op = 13 ∨ op = 14 ∨ op = 22 → 2 ≤ fs.length) (hv : op = 13 ∨ op = 14 ∨ op = 22 → fvalid (cn fs 0).1 (cn fs 0).2 = true ∧ fvalid (cn fs 1).1 (cn fs 1).2 = true) (w : World) (h : CsAt w A fs) :
    Calls Try.prog 35 #[.int .i64 op, .slice A fs.length c] w fun e w' => e = .returned (.bool (truF op fs)) ∧ Below w.heap.size w w' := by
  rcases hop with rfl | rfl | rfl | rfl | rfl | rfl | rfl | rfl | rfl | rfl
  · exact tru_const 1 fs A c (.inl rfl) w
  · exact tru_const 2 fs A c (.inr rfl) w
  · exact tru_not fs A c (h1 rfl) hm w h
  · exact tru_and fs A c hm w h
  · exact tru_or fs A c hm w h
  · exact tru_iff fs A c (h2 (by decide)) hm w h
  · exact tru_same fs A c (h2 (by decide)) hm w h
  · exact tru_less fs A c (h2 (by decide)) hm (hv (by decide)).1 (hv (by decide)).2 w h
  · exact tru_most fs A c (h2 (by decide)) hm (hv (by decide)).1 (hv (by decide)).2 w h
  · exact tru_wless fs A c (h2 (by decide)) hm (hv (by decide)).1 (hv (by decide)).2 w h
end Go.Proofs.Ytibpgcdaommjeaa
namespace Go.Proofs.Ytibpgcdaommjeaa
open Go.RowKit

/-- The value of an operator on words of a sort with m values. -/
def wrdF (op N m : Int) (fs : List (Int × Int)) : Int :=
  if op = 15 then N else if op = 16 then m - 1 - (cn fs 0).1 else if op = 17 then bits .and .i64 (cn fs 0).1 (cn fs 1).1 else if op = 18 then bits .or .i64 (cn fs 0).1 (cn fs 1).1 else if op = 19 then bits .xor .i64 (cn fs 0).1 (cn fs 1).1
  else if op = 20 then ((cn fs 0).1 + (cn fs 1).1) % m else if op = 21 then ((cn fs 0).1 * (cn fs 1).1) % m else ((cn fs 0).1 * 2 ^ N.toNat) % m
theorem word1_any (fs : List (Int × Int)) (A : Option Addr) (c i g : Nat) (hi : i < fs.length) (_hm : fs.length ≤ maxLen) (w : World) (hg : HB w g 76 #[.slice A fs.length c]) (h : CsAt w A fs) :
    Calls Try.prog 67 #[.int .i64 i, .pointer (some ⟨g, 0, none⟩)] w fun e w' => e = .returned (.int .i64 (cn fs i).1) ∧ w' = w := by
  obtain ⟨b, o, rfl, hb, c0, c1⟩ := cs_at (i := i) h hi
  have g0 := hg.cell 0
  simp only [List.getElem?_toArray, List.getElem?_cons_zero] at g0
  unfold maxLen at _hm
  have l0 : (i : Int) < fs.length := by omega
  generalize fs.length = L at *
  generalize (cn fs i).1 = n0 at *
  generalize (cn fs i).2 = d0 at *
  clear h hg c1
  go_enter Try.func67, Try.ntmps67
  go_wp2_with fail
  go_ret
  exact ⟨rfl, rfl⟩
theorem bw_dn {B : Nat} {a w : World} (h : Below B a w) (n : Nat) : Below B a (w.drewN n) := ⟨h.os, h.tape, h.output, h.size, h.block⟩
theorem enters_wrd1 : Enters 67 := fun args w => by kernel_rfl
set_option maxRecDepth 100000 in
set_option maxHeartbeats 2000000 in
theorem word_const (N D m : Int) (nm : ByteArray) (Ak : Option Addr) (kl kc : Nat) (fs : List (Int × Int)) (A : Option Addr) (c : Nat) (w : World) :
    Calls Try.prog 36 #[.agg #[.int .i64 15, .slice Ak kl kc, .int .i64 N, .int .i64 D, .string nm], .int .i64 m, .slice A fs.length c] w fun e w' => e = .returned (.int .i64 (wrdF 15 N m fs)) ∧ Below w.heap.size w w' := by
  rw [show wrdF 15 N m fs = N from rfl]
  generalize fs.length = L at *
  go_enter Try.func36, Try.ntmps36
  go_wp2_with fail
  go_ret
  exact ⟨rfl, by go_grown⟩
set_option maxRecDepth 100000 in
set_option maxHeartbeats 2000000 in
theorem word_not (N D m : Int) (nm : ByteArray) (Ak : Option Addr) (kl kc : Nat) (fs : List (Int × Int)) (A : Option Addr) (c : Nat) (hl : 1 ≤ fs.length) (hm : fs.length ≤ maxLen) (m1 : 2 ≤ m) (m2 : m ≤ 256) (a0 : 0 ≤ (cn fs 0).1) (a1 : (cn fs 0).1 < m) (w : World) (h : CsAt w A fs) :
    Calls Try.prog 36 #[.agg #[.int .i64 16, .slice Ak kl kc, .int .i64 N, .int .i64 D, .string nm], .int .i64 m, .slice A fs.length c] w fun e w' => e = .returned (.int .i64 (wrdF 16 N m fs)) ∧ Below w.heap.size w w' := by
  rw [show wrdF 16 N m fs = m - 1 - (cn fs 0).1 from rfl]
  have HW : Hid (∀ W (i g : Nat), i < 1 → Below w.heap.size w W → HB W g 76 #[.slice A fs.length c] → Calls Try.prog 67 #[.int .i64 i, .pointer (some ⟨g, 0, none⟩)] W fun e w' => e = .returned (.int .i64 (cn fs i).1) ∧ w' = W) := Lib.hid (fun W i g hi k hg => word1_any fs A c i g (by omega) hm W hg (h.below k))
  have X0 : Hid (∀ W (g : Nat), Below w.heap.size w W → HB W g 76 #[.slice A fs.length c] → Calls Try.prog 67 #[.int .i64 0, .pointer (some ⟨g, 0, none⟩)] W fun e w' => e = .returned (.int .i64 (cn fs 0).1) ∧ w' = W) := Lib.hid (fun W g k hg => HW.out W 0 g (by omega) k hg)
  unfold maxLen at hm
  generalize fs.length = L at *
  generalize (cn fs 0).1 = a at *
  have q0 : IntKind.i64.wrap (m - 1) = m - 1 := IntWalk.i64_in _ (by omega)
  have q1 : IntKind.i64.wrap (m - 1 - a) = m - 1 - a := IntWalk.i64_in _ (by omega)
  clear HW h
  have HG : Hid (HB (((w.alloc (.cells #[.int .i64 16, .slice Ak kl kc, .int .i64 N, .int .i64 D, .string nm] 24))).alloc (.cells #[.slice A L c] 76)) (w.heap.size + 1) 76 #[.slice A L c]) := Lib.hid (HB.new1 _ _ _ _)
  have BW : Hid (Below w.heap.size w (((w.alloc (.cells #[.int .i64 16, .slice Ak kl kc, .int .i64 N, .int .i64 D, .string nm] 24))).alloc (.cells #[.slice A L c] 76))) := Lib.hid (by go_grown)
  go_enter Try.func36, Try.ntmps36
  go_wp2_with fail
  refine (X0.out _ _ BW.out HG.out).mono ?_
  rintro e w1 ⟨rfl, rfl⟩
  go_wp2_with fail
  go_ret
  exact ⟨rfl, BW.out⟩
set_option maxRecDepth 100000 in
set_option maxHeartbeats 2000000 in
theorem word_and (N D m : Int) (nm : ByteArray) (Ak : Option Addr) (kl kc : Nat) (fs : List (Int × Int)) (A : Option Addr) (c : Nat) (hl : 2 ≤ fs.length) (hm : fs.length ≤ maxLen) (_m1 : 2 ≤ m) (_m2 : m ≤ 256) (_a0 : 0 ≤ (cn fs 0).1) (_a1 : (cn fs 0).1 < m) (_b0 : 0 ≤ (cn fs 1).1) (_b1 : (cn fs 1).1 < m) (w : World) (h : CsAt w A fs) :
    Calls Try.prog 36 #[.agg #[.int .i64 17, .slice Ak kl kc, .int .i64 N, .int .i64 D, .string nm], .int .i64 m, .slice A fs.length c] w fun e w' => e = .returned (.int .i64 (wrdF 17 N m fs)) ∧ Below w.heap.size w w' := by
  rw [show wrdF 17 N m fs = bits .and .i64 (cn fs 0).1 (cn fs 1).1 from rfl]
  have HW : Hid (∀ W (i g : Nat), i < 2 → Below w.heap.size w W → HB W g 76 #[.slice A fs.length c] → Calls Try.prog 67 #[.int .i64 i, .pointer (some ⟨g, 0, none⟩)] W fun e w' => e = .returned (.int .i64 (cn fs i).1) ∧ w' = W) := Lib.hid (fun W i g hi k hg => word1_any fs A c i g (by omega) hm W hg (h.below k))
  have X0 : Hid (∀ W (g : Nat), Below w.heap.size w W → HB W g 76 #[.slice A fs.length c] → Calls Try.prog 67 #[.int .i64 0, .pointer (some ⟨g, 0, none⟩)] W fun e w' => e = .returned (.int .i64 (cn fs 0).1) ∧ w' = W) := Lib.hid (fun W g k hg => HW.out W 0 g (by omega) k hg)
  have X1 : Hid (∀ W (g : Nat), Below w.heap.size w W → HB W g 76 #[.slice A fs.length c] → Calls Try.prog 67 #[.int .i64 1, .pointer (some ⟨g, 0, none⟩)] W fun e w' => e = .returned (.int .i64 (cn fs 1).1) ∧ w' = W) := Lib.hid (fun W g k hg => HW.out W 1 g (by omega) k hg)
  unfold maxLen at hm
  generalize fs.length = L at *
  generalize (cn fs 0).1 = a at *
  generalize (cn fs 1).1 = b at *
  clear HW h
  have HG : Hid (HB (((w.alloc (.cells #[.int .i64 17, .slice Ak kl kc, .int .i64 N, .int .i64 D, .string nm] 24))).alloc (.cells #[.slice A L c] 76)) (w.heap.size + 1) 76 #[.slice A L c]) := Lib.hid (HB.new1 _ _ _ _)
  have BW : Hid (Below w.heap.size w (((w.alloc (.cells #[.int .i64 17, .slice Ak kl kc, .int .i64 N, .int .i64 D, .string nm] 24))).alloc (.cells #[.slice A L c] 76))) := Lib.hid (by go_grown)
  go_enter Try.func36, Try.ntmps36
  go_wp2_with fail
  refine (X0.out _ _ BW.out HG.out).mono ?_
  rintro e w1 ⟨rfl, rfl⟩
  go_wp2_with fail
  refine (X1.out _ _ BW.out HG.out).mono ?_
  rintro e w2 ⟨rfl, rfl⟩
  go_wp2_with fail
  go_ret
  exact ⟨rfl, BW.out⟩
set_option maxRecDepth 100000 in
set_option maxHeartbeats 2000000 in
theorem word_or (N D m : Int) (nm : ByteArray) (Ak : Option Addr) (kl kc : Nat) (fs : List (Int × Int)) (A : Option Addr) (c : Nat) (hl : 2 ≤ fs.length) (hm : fs.length ≤ maxLen) (_m1 : 2 ≤ m) (_m2 : m ≤ 256) (_a0 : 0 ≤ (cn fs 0).1) (_a1 : (cn fs 0).1 < m) (_b0 : 0 ≤ (cn fs 1).1) (_b1 : (cn fs 1).1 < m) (w : World) (h : CsAt w A fs) :
    Calls Try.prog 36 #[.agg #[.int .i64 18, .slice Ak kl kc, .int .i64 N, .int .i64 D, .string nm], .int .i64 m, .slice A fs.length c] w fun e w' => e = .returned (.int .i64 (wrdF 18 N m fs)) ∧ Below w.heap.size w w' := by
  rw [show wrdF 18 N m fs = bits .or .i64 (cn fs 0).1 (cn fs 1).1 from rfl]
  have HW : Hid (∀ W (i g : Nat), i < 2 → Below w.heap.size w W → HB W g 76 #[.slice A fs.length c] → Calls Try.prog 67 #[.int .i64 i, .pointer (some ⟨g, 0, none⟩)] W fun e w' => e = .returned (.int .i64 (cn fs i).1) ∧ w' = W) := Lib.hid (fun W i g hi k hg => word1_any fs A c i g (by omega) hm W hg (h.below k))
  have X0 : Hid (∀ W (g : Nat), Below w.heap.size w W → HB W g 76 #[.slice A fs.length c] → Calls Try.prog 67 #[.int .i64 0, .pointer (some ⟨g, 0, none⟩)] W fun e w' => e = .returned (.int .i64 (cn fs 0).1) ∧ w' = W) := Lib.hid (fun W g k hg => HW.out W 0 g (by omega) k hg)
  have X1 : Hid (∀ W (g : Nat), Below w.heap.size w W → HB W g 76 #[.slice A fs.length c] → Calls Try.prog 67 #[.int .i64 1, .pointer (some ⟨g, 0, none⟩)] W fun e w' => e = .returned (.int .i64 (cn fs 1).1) ∧ w' = W) := Lib.hid (fun W g k hg => HW.out W 1 g (by omega) k hg)
  unfold maxLen at hm
  generalize fs.length = L at *
  generalize (cn fs 0).1 = a at *
  generalize (cn fs 1).1 = b at *
  clear HW h
  have HG : Hid (HB (((w.alloc (.cells #[.int .i64 18, .slice Ak kl kc, .int .i64 N, .int .i64 D, .string nm] 24))).alloc (.cells #[.slice A L c] 76)) (w.heap.size + 1) 76 #[.slice A L c]) := Lib.hid (HB.new1 _ _ _ _)
  have BW : Hid (Below w.heap.size w (((w.alloc (.cells #[.int .i64 18, .slice Ak kl kc, .int .i64 N, .int .i64 D, .string nm] 24))).alloc (.cells #[.slice A L c] 76))) := Lib.hid (by go_grown)
  go_enter Try.func36, Try.ntmps36
  go_wp2_with fail
  refine (X0.out _ _ BW.out HG.out).mono ?_
  rintro e w1 ⟨rfl, rfl⟩
  go_wp2_with fail
  refine (X1.out _ _ BW.out HG.out).mono ?_
  rintro e w2 ⟨rfl, rfl⟩
  go_wp2_with fail
  go_ret
  exact ⟨rfl, BW.out⟩
set_option maxRecDepth 100000 in
set_option maxHeartbeats 2000000 in
theorem word_xor (N D m : Int) (nm : ByteArray) (Ak : Option Addr) (kl kc : Nat) (fs : List (Int × Int)) (A : Option Addr) (c : Nat) (hl : 2 ≤ fs.length) (hm : fs.length ≤ maxLen) (_m1 : 2 ≤ m) (_m2 : m ≤ 256) (_a0 : 0 ≤ (cn fs 0).1) (_a1 : (cn fs 0).1 < m) (_b0 : 0 ≤ (cn fs 1).1) (_b1 : (cn fs 1).1 < m) (w : World) (h : CsAt w A fs) :
    Calls Try.prog 36 #[.agg #[.int .i64 19, .slice Ak kl kc, .int .i64 N, .int .i64 D, .string nm], .int .i64 m, .slice A fs.length c] w fun e w' => e = .returned (.int .i64 (wrdF 19 N m fs)) ∧ Below w.heap.size w w' := by
  rw [show wrdF 19 N m fs = bits .xor .i64 (cn fs 0).1 (cn fs 1).1 from rfl]
  have HW : Hid (∀ W (i g : Nat), i < 2 → Below w.heap.size w W → HB W g 76 #[.slice A fs.length c] → Calls Try.prog 67 #[.int .i64 i, .pointer (some ⟨g, 0, none⟩)] W fun e w' => e = .returned (.int .i64 (cn fs i).1) ∧ w' = W) := Lib.hid (fun W i g hi k hg => word1_any fs A c i g (by omega) hm W hg (h.below k))
  have X0 : Hid (∀ W (g : Nat), Below w.heap.size w W → HB W g 76 #[.slice A fs.length c] → Calls Try.prog 67 #[.int .i64 0, .pointer (some ⟨g, 0, none⟩)] W fun e w' => e = .returned (.int .i64 (cn fs 0).1) ∧ w' = W) := Lib.hid (fun W g k hg => HW.out W 0 g (by omega) k hg)
  have X1 : Hid (∀ W (g : Nat), Below w.heap.size w W → HB W g 76 #[.slice A fs.length c] → Calls Try.prog 67 #[.int .i64 1, .pointer (some ⟨g, 0, none⟩)] W fun e w' => e = .returned (.int .i64 (cn fs 1).1) ∧ w' = W) := Lib.hid (fun W g k hg => HW.out W 1 g (by omega) k hg)
  unfold maxLen at hm
  generalize fs.length = L at *
  generalize (cn fs 0).1 = a at *
  generalize (cn fs 1).1 = b at *
  clear HW h
  have HG : Hid (HB (((w.alloc (.cells #[.int .i64 19, .slice Ak kl kc, .int .i64 N, .int .i64 D, .string nm] 24))).alloc (.cells #[.slice A L c] 76)) (w.heap.size + 1) 76 #[.slice A L c]) := Lib.hid (HB.new1 _ _ _ _)
  have BW : Hid (Below w.heap.size w (((w.alloc (.cells #[.int .i64 19, .slice Ak kl kc, .int .i64 N, .int .i64 D, .string nm] 24))).alloc (.cells #[.slice A L c] 76))) := Lib.hid (by go_grown)
  go_enter Try.func36, Try.ntmps36
  go_wp2_with fail
  refine (X0.out _ _ BW.out HG.out).mono ?_
  rintro e w1 ⟨rfl, rfl⟩
  go_wp2_with fail
  refine (X1.out _ _ BW.out HG.out).mono ?_
  rintro e w2 ⟨rfl, rfl⟩
  go_wp2_with fail
  go_ret
  exact ⟨rfl, BW.out⟩
set_option maxRecDepth 100000 in
set_option maxHeartbeats 2000000 in
theorem word_add (N D m : Int) (nm : ByteArray) (Ak : Option Addr) (kl kc : Nat) (fs : List (Int × Int)) (A : Option Addr) (c : Nat) (hl : 2 ≤ fs.length) (hm : fs.length ≤ maxLen) (m1 : 2 ≤ m) (m2 : m ≤ 256) (a0 : 0 ≤ (cn fs 0).1) (a1 : (cn fs 0).1 < m) (b0 : 0 ≤ (cn fs 1).1) (b1 : (cn fs 1).1 < m) (w : World) (h : CsAt w A fs) :
    Calls Try.prog 36 #[.agg #[.int .i64 20, .slice Ak kl kc, .int .i64 N, .int .i64 D, .string nm], .int .i64 m, .slice A fs.length c] w fun e w' => e = .returned (.int .i64 (wrdF 20 N m fs)) ∧ Below w.heap.size w w' := by
  rw [show wrdF 20 N m fs = ((cn fs 0).1 + (cn fs 1).1) % m from rfl]
  have HW : Hid (∀ W (i g : Nat), i < 2 → Below w.heap.size w W → HB W g 76 #[.slice A fs.length c] → Calls Try.prog 67 #[.int .i64 i, .pointer (some ⟨g, 0, none⟩)] W fun e w' => e = .returned (.int .i64 (cn fs i).1) ∧ w' = W) := Lib.hid (fun W i g hi k hg => word1_any fs A c i g (by omega) hm W hg (h.below k))
  have X0 : Hid (∀ W (g : Nat), Below w.heap.size w W → HB W g 76 #[.slice A fs.length c] → Calls Try.prog 67 #[.int .i64 0, .pointer (some ⟨g, 0, none⟩)] W fun e w' => e = .returned (.int .i64 (cn fs 0).1) ∧ w' = W) := Lib.hid (fun W g k hg => HW.out W 0 g (by omega) k hg)
  have X1 : Hid (∀ W (g : Nat), Below w.heap.size w W → HB W g 76 #[.slice A fs.length c] → Calls Try.prog 67 #[.int .i64 1, .pointer (some ⟨g, 0, none⟩)] W fun e w' => e = .returned (.int .i64 (cn fs 1).1) ∧ w' = W) := Lib.hid (fun W g k hg => HW.out W 1 g (by omega) k hg)
  unfold maxLen at hm
  generalize fs.length = L at *
  generalize (cn fs 0).1 = a at *
  generalize (cn fs 1).1 = b at *
  have tm : (m == 0) = false := by simp; omega
  have tm' : m ≠ 0 := by omega
  have q0 : IntKind.i64.wrap (a + b) = a + b := IntWalk.i64_in _ (by omega)
  clear HW h
  have HG : Hid (HB (((w.alloc (.cells #[.int .i64 20, .slice Ak kl kc, .int .i64 N, .int .i64 D, .string nm] 24))).alloc (.cells #[.slice A L c] 76)) (w.heap.size + 1) 76 #[.slice A L c]) := Lib.hid (HB.new1 _ _ _ _)
  have BW : Hid (Below w.heap.size w (((w.alloc (.cells #[.int .i64 20, .slice Ak kl kc, .int .i64 N, .int .i64 D, .string nm] 24))).alloc (.cells #[.slice A L c] 76))) := Lib.hid (by go_grown)
  go_enter Try.func36, Try.ntmps36
  go_wp2_with fail
  refine (X0.out _ _ BW.out HG.out).mono ?_
  rintro e w1 ⟨rfl, rfl⟩
  go_wp2_with fail
  refine (X1.out _ _ BW.out HG.out).mono ?_
  rintro e w2 ⟨rfl, rfl⟩
  go_wp2_with fail
  go_ret
  exact ⟨rfl, BW.out⟩
set_option maxRecDepth 100000 in
set_option maxHeartbeats 2000000 in
theorem word_times (N D m : Int) (nm : ByteArray) (Ak : Option Addr) (kl kc : Nat) (fs : List (Int × Int)) (A : Option Addr) (c : Nat) (hl : 2 ≤ fs.length) (hm : fs.length ≤ maxLen) (m1 : 2 ≤ m) (m2 : m ≤ 256) (a0 : 0 ≤ (cn fs 0).1) (a1 : (cn fs 0).1 < m) (b0 : 0 ≤ (cn fs 1).1) (b1 : (cn fs 1).1 < m) (w : World) (h : CsAt w A fs) :
    Calls Try.prog 36 #[.agg #[.int .i64 21, .slice Ak kl kc, .int .i64 N, .int .i64 D, .string nm], .int .i64 m, .slice A fs.length c] w fun e w' => e = .returned (.int .i64 (wrdF 21 N m fs)) ∧ Below w.heap.size w w' := by
  rw [show wrdF 21 N m fs = ((cn fs 0).1 * (cn fs 1).1) % m from rfl]
  have HW : Hid (∀ W (i g : Nat), i < 2 → Below w.heap.size w W → HB W g 76 #[.slice A fs.length c] → Calls Try.prog 67 #[.int .i64 i, .pointer (some ⟨g, 0, none⟩)] W fun e w' => e = .returned (.int .i64 (cn fs i).1) ∧ w' = W) := Lib.hid (fun W i g hi k hg => word1_any fs A c i g (by omega) hm W hg (h.below k))
  have X0 : Hid (∀ W (g : Nat), Below w.heap.size w W → HB W g 76 #[.slice A fs.length c] → Calls Try.prog 67 #[.int .i64 0, .pointer (some ⟨g, 0, none⟩)] W fun e w' => e = .returned (.int .i64 (cn fs 0).1) ∧ w' = W) := Lib.hid (fun W g k hg => HW.out W 0 g (by omega) k hg)
  have X1 : Hid (∀ W (g : Nat), Below w.heap.size w W → HB W g 76 #[.slice A fs.length c] → Calls Try.prog 67 #[.int .i64 1, .pointer (some ⟨g, 0, none⟩)] W fun e w' => e = .returned (.int .i64 (cn fs 1).1) ∧ w' = W) := Lib.hid (fun W g k hg => HW.out W 1 g (by omega) k hg)
  unfold maxLen at hm
  generalize fs.length = L at *
  generalize (cn fs 0).1 = a at *
  generalize (cn fs 1).1 = b at *
  have tm : (m == 0) = false := by simp; omega
  have tm' : m ≠ 0 := by omega
  have ab1 : 0 ≤ a * b := Int.mul_nonneg a0 b0
  have ab2 : a * b ≤ 65536 := by
    have h1 : a * b ≤ 256 * b := Int.mul_le_mul_of_nonneg_right (by omega) b0
    omega
  have q0 : IntKind.i64.wrap (a * b) = a * b := IntWalk.i64_in _ (by omega)
  clear HW h
  have HG : Hid (HB (((w.alloc (.cells #[.int .i64 21, .slice Ak kl kc, .int .i64 N, .int .i64 D, .string nm] 24))).alloc (.cells #[.slice A L c] 76)) (w.heap.size + 1) 76 #[.slice A L c]) := Lib.hid (HB.new1 _ _ _ _)
  have BW : Hid (Below w.heap.size w (((w.alloc (.cells #[.int .i64 21, .slice Ak kl kc, .int .i64 N, .int .i64 D, .string nm] 24))).alloc (.cells #[.slice A L c] 76))) := Lib.hid (by go_grown)
  go_enter Try.func36, Try.ntmps36
  go_wp2_with fail
  refine (X0.out _ _ BW.out HG.out).mono ?_
  rintro e w1 ⟨rfl, rfl⟩
  go_wp2_with fail
  refine (X1.out _ _ BW.out HG.out).mono ?_
  rintro e w2 ⟨rfl, rfl⟩
  go_wp2_with fail
  go_ret
  exact ⟨rfl, BW.out⟩
set_option maxRecDepth 100000 in
set_option maxHeartbeats 2000000 in
theorem word_left (N D m : Int) (nm : ByteArray) (Ak : Option Addr) (kl kc : Nat) (fs : List (Int × Int)) (A : Option Addr) (c : Nat) (hl : 1 ≤ fs.length) (hm : fs.length ≤ maxLen) (m1 : 2 ≤ m) (m2 : m ≤ 256) (a0 : 0 ≤ (cn fs 0).1) (a1 : (cn fs 0).1 < m) (n0 : 0 ≤ N) (n8 : N ≤ 8) (w : World) (h : CsAt w A fs) :
    Calls Try.prog 36 #[.agg #[.int .i64 23, .slice Ak kl kc, .int .i64 N, .int .i64 D, .string nm], .int .i64 m, .slice A fs.length c] w fun e w' => e = .returned (.int .i64 (wrdF 23 N m fs)) ∧ Below w.heap.size w w' := by
  rw [show wrdF 23 N m fs = ((cn fs 0).1 * 2 ^ N.toNat) % m from rfl]
  obtain ⟨k, rfl⟩ : ∃ k : Nat, N = k := ⟨N.toNat, by omega⟩
  rw [show ((k : Int)).toNat = k by simp]
  have HW : Hid (∀ W (i g : Nat), i < 1 → Below w.heap.size w W → HB W g 76 #[.slice A fs.length c] → Calls Try.prog 67 #[.int .i64 i, .pointer (some ⟨g, 0, none⟩)] W fun e w' => e = .returned (.int .i64 (cn fs i).1) ∧ w' = W) := Lib.hid (fun W i g hi k hg => word1_any fs A c i g (by omega) hm W hg (h.below k))
  have X0 : Hid (∀ W (g : Nat), Below w.heap.size w W → HB W g 76 #[.slice A fs.length c] → Calls Try.prog 67 #[.int .i64 0, .pointer (some ⟨g, 0, none⟩)] W fun e w' => e = .returned (.int .i64 (cn fs 0).1) ∧ w' = W) := Lib.hid (fun W g k hg => HW.out W 0 g (by omega) k hg)
  unfold maxLen at hm
  generalize fs.length = L at *
  generalize (cn fs 0).1 = a at *
  have tm : (m == 0) = false := by simp; omega
  have tm' : m ≠ 0 := by omega
  have k8 : k ≤ 8 := by omega
  have s0 : 0 ≤ a * 2 ^ k := Int.mul_nonneg a0 (Int.le_of_lt (Int.pow_pos (by decide)))
  have s1 : a * 2 ^ k ≤ 65536 := by
    have h2 : (2 : Int) ^ k ≤ 256 := by
      have : k = 0 ∨ k = 1 ∨ k = 2 ∨ k = 3 ∨ k = 4 ∨ k = 5 ∨ k = 6 ∨ k = 7 ∨ k = 8 := by omega
      rcases this with rfl | rfl | rfl | rfl | rfl | rfl | rfl | rfl | rfl <;> decide
    have h1 : a * 2 ^ k ≤ 256 * 2 ^ k := Int.mul_le_mul_of_nonneg_right (by omega) (Int.le_of_lt (Int.pow_pos (by decide)))
    omega
  have q0 : IntKind.i64.wrap (a * 2 ^ k) = a * 2 ^ k := IntWalk.i64_in _ (by omega)
  have q2 : min k 64 = k := by omega
  clear HW h
  have HG : Hid (HB (((w.alloc (.cells #[.int .i64 23, .slice Ak kl kc, .int .i64 (k : Int), .int .i64 D, .string nm] 24))).alloc (.cells #[.slice A L c] 76)) (w.heap.size + 1) 76 #[.slice A L c]) := Lib.hid (HB.new1 _ _ _ _)
  have BW : Hid (Below w.heap.size w (((w.alloc (.cells #[.int .i64 23, .slice Ak kl kc, .int .i64 (k : Int), .int .i64 D, .string nm] 24))).alloc (.cells #[.slice A L c] 76))) := Lib.hid (by go_grown)
  go_enter Try.func36, Try.ntmps36
  go_wp2_with fail
  go_quiet (exact Calls.quiet_of_same (X0.out _ _ (bw_dn BW.out _) (HG.out.drewN _)))
  go_wp2_with fail
  go_ret
  exact ⟨rfl, bw_dn BW.out _⟩
end Go.Proofs.Ytibpgcdaommjeaa
