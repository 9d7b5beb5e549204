/-
  The contracts of row's divided and negated.
-/
import Derived.Test.YtkjollifghmkbaaRowD
import Derived.Test.YtkjollifghmkbaaRowL
import Derived.Laws.MakeOwn
namespace Go.Proofs.Ytkjollifghmkbaa
open Go.RowKit

/-- A slice of whole numbers in a block from a number on. -/
def Isb (base : Nat) (w : World) (A : Option Addr) (xs : List Int) : Prop := 0 < xs.length → ∃ b o, A = some ⟨b, o, none⟩ ∧ base ≤ b ∧ b < w.heap.size ∧ ∀ k, k < xs.length → w.cell? ⟨b, o + k, none⟩ = some (.int .i64 (nth xs k))
section
variable {w w' : World} {base base' g : Nat} {A : Option Addr} {xs : List Int}
theorem Isb.is (h : Isb base w A xs) : Is w A xs := fun z => by obtain ⟨b, o, e, _, l, f⟩ := h z; exact ⟨b, o, e, l, f⟩
theorem Isb.below (h : Isb base w A xs) (hb : Below w.heap.size w w') : Isb base w' A xs := fun z => by
  obtain ⟨b, o, e, q, l, f⟩ := h z
  exact ⟨b, o, e, q, Nat.lt_of_lt_of_le l hb.size, fun k hk => (hb.cell (p := ⟨b, o + k, none⟩) l).trans (f k hk)⟩
theorem Isb.mono (h : Isb base w A xs) (hb : base' ≤ base) : Isb base' w A xs := fun z => by
  obtain ⟨b, o, e, q, r⟩ := h z
  exact ⟨b, o, e, by omega, r⟩
theorem Isb.far_ (h : Isb base w A xs) (hg : g < base) (f : Far g w w') : Isb base w' A xs := fun z => by
  obtain ⟨b, o, e, q, l, k⟩ := h z
  exact ⟨b, o, e, q, by rw [f.size]; exact l, fun j hj => (World.cell?_of_block (w := w) (f.block b (by omega))).trans (k j hj)⟩
theorem isb_nil (w : World) (base : Nat) (A : Option Addr) : Isb base w A [] := fun z => absurd z (by simp)
end
/-- A row of n whole numbers, the first i of which are a list's. -/
def PI (w : World) (g n i : Nat) (ys : List Int) : Prop := ∃ cs, w.heap[g]? = some (.cells cs 3 (0, 0)) ∧ cs.size = n ∧ ∀ k, k < i → cs[k]? = some (.int .i64 (nth ys k))
def zerosI (n : Nat) : Array Value := madeCells #[.int .i64 0] (n * 1)
theorem zerosI_size (n : Nat) : (zerosI n).size = n := by simp [zerosI, size_madeCells]
theorem PI.new (w : World) (n : Nat) (ys : List Int) : PI (w.alloc (.cells (zerosI n) 3)) w.heap.size n 0 ys := ⟨_, heap_alloc_new _ _, zerosI_size n, fun k hk => by omega⟩
section
variable {w w' : World} {g n i : Nat} {ys : List Int}
theorem PI.cell {k : Nat} (h : PI w g n i ys) (hk : k < n) : ∃ u, w.cell? ⟨g, k, none⟩ = some u := by
  obtain ⟨cs, e, hs, _⟩ := h
  exact ⟨cs[k]'(by omega), (cell_of_row w g k cs 3 (0, 0) e).trans (Array.getElem?_eq_getElem (by omega))⟩
theorem PI.frozen (h : PI w g n i ys) (k : Nat) : w.frozen? ⟨g, k, none⟩ = false := by
  obtain ⟨cs, e, _⟩ := h
  simp [World.frozen?, e]
theorem PI.lt (h : PI w g n i ys) : g < w.heap.size := by
  obtain ⟨cs, e, _⟩ := h
  exact HB.lt e
theorem PI.put (h : PI w g n i ys) (hi : i < n) {d : Int} (hd : d = nth ys i) : PI (w.setCell ⟨g, i, none⟩ (.int .i64 d)) g n (i + 1) ys := by
  obtain ⟨cs, e, hs, hk⟩ := h
  refine ⟨cs.setIfInBounds i (.int .i64 d), by simp [World.setCell, Array.getElem?_modify, e], by simp [hs], fun k hk' => ?_⟩
  rw [Array.getElem?_setIfInBounds]
  by_cases z : i = k
  · subst z; rw [if_pos rfl, if_pos (by omega), hd]
  · rw [if_neg z]; exact hk k (by omega)
theorem PI.is (h : PI w g n i ys) (hi : ys.length ≤ i) : Isb g w (some ⟨g, 0, none⟩) ys := fun _ => by
  obtain ⟨cs, e, hs, hk⟩ := id h
  refine ⟨g, 0, rfl, Nat.le_refl _, h.lt, fun k hk' => ?_⟩
  rw [Nat.zero_add]
  exact (cell_of_row w g k cs 3 (0, 0) e).trans (hk k (by omega))
end
theorem make_ints (n : Nat) (hn : n ≤ 1000000) (w : World) : (Instr.makeSlice 22 (.int .i64 n) (.int .i64 n)).run Try.prog w = .ok (.slice (some ⟨w.heap.size, 0, none⟩) n n) (w.alloc (.cells (zerosI n) 3)) := by
  obtain ⟨i0, hi0, hz0, hz1, hz2⟩ := info_parts int_info
  have h := run_make (P := Try.prog) w 22 3 i0 (.int .i64 0) Try.underlying22 hi0 hz0 .i64 .i64 (n : Int) (n : Int) (by omega) (by omega) (by rw [hz2]; omega) (by omega)
  rw [hz1] at h
  exact h
/-- The way in which a call that makes a list of whole numbers ends. -/
def GivesIs (ys : List Int) (w : World) (e : Ending) (w' : World) : Prop := ∃ A c, e = .returned (.slice A ys.length c) ∧ ys.length ≤ c ∧ Isb w.heap.size w' A ys ∧ Below w.heap.size w w'
theorem nth_map {xs : List Int} (f : Int → Int) {i : Nat} (h : i < xs.length) : nth (xs.map f) i = f (nth xs i) := by simp [nth, List.getD, h]
theorem tdiv_bd' (n d : Int) (h1 : -1000000 ≤ n) (h2 : n ≤ 1000000) : -1000000 ≤ n.tdiv d ∧ n.tdiv d ≤ 1000000 := by
  have h : (n.tdiv d).natAbs ≤ n.natAbs := by rw [Int.natAbs_tdiv]; exact Nat.div_le_self _ _
  omega
set_option maxHeartbeats 2000000 in
theorem divided_any (A : Option Addr) (xs : List Int) (L c : Nat) (d : Int) (hL : L = xs.length) (h12 : L ≤ 12) (hd : d ≠ 0) (hx : ∀ i, i < L → inB (nth xs i) = true) (w : World) (h : Is w A xs) :
    Calls Try.prog 46 #[.slice A L c, .int .i64 d] w (GivesIs (xs.map (·.tdiv d)) w) := by
  have hmk : ∀ w : World, (Instr.makeSlice 22 (.int .i64 (L : Int)) (.int .i64 (L : Int))).run Try.prog w = .ok (.slice (some ⟨w.heap.size, 0, none⟩) L L) (w.alloc (.cells (zerosI L) 3)) := fun w => make_ints L (by omega) w
  have HX := Lib.hid h
  have HL := Lib.hid hL
  have HI := Lib.hid hx
  have d0 : (d == 0) = false := by simpa using hd
  have hd' : ¬ d = 0 := hd
  clear h hL hx hd
  go_enter Try.func46, Try.ntmps46
  go_wp2
  go_loopw [13] (fun k wr => ∃ i : Nat, i ≤ L ∧ k = .int .i64 i ∧ Hid (PI wr w.heap.size L i (xs.map (·.tdiv d))) ∧ Hid (Below w.heap.size w wr)) (fun k _ => L - (intOf k).toNat)
  case atStart => exact ⟨0, by omega, rfl, PI.new w L _, new_below w _⟩
  case round =>
    obtain ⟨i, hi, rfl, HP, HB1⟩ := hrel
    by_cases hlt : i < L
    · obtain ⟨b, o, rfl, hb, hc⟩ := (HX.out.below HB1.out) (by rw [← HL.out]; omega)
      have cx := hc i (by rw [← HL.out]; exact hlt)
      obtain ⟨i1, i2⟩ := inB_iff.1 (HI.out i hlt)
      obtain ⟨j1, j2⟩ := tdiv_bd' _ d i1 i2
      have hv : (nth xs i).tdiv d = nth (xs.map (·.tdiv d)) i := (nth_map (·.tdiv d) (by rw [← HL.out]; exact hlt)).symm
      have HV := Lib.hid hv
      obtain ⟨u, hu⟩ := HP.out.cell (k := i) hlt
      have hfz := HP.out.frozen i
      have t1 : (0 : Int) ≤ i := by omega
      have t2 : (i : Int) < L := by omega
      have t3 : decide (i < L) = true := by simpa using hlt
      clear hc hv
      go_wp2
      exact ⟨⟨i + 1, by omega, by go_num, HP.out.put hlt HV.out, HB1.out.setCell (Nat.le_refl _) _⟩, by simp [intOf]; omega⟩
    · obtain rfl : i = L := by omega
      have t3 : decide (i < i) = false := by simp
      have HR := Lib.hid (HP.out.is (by rw [List.length_map, ← HL.out]; exact Nat.le_refl _))
      have HE : Hid (i = (xs.map (·.tdiv d)).length) := by show _ = _; rw [List.length_map]; exact HL.out
      clear hlt
      go_wp2
      go_ret
      refine ⟨_, i, ?_, Nat.le_of_eq HE.out.symm, HR.out, HB1.out⟩
      rw [← HE.out]
      rfl
/-- The way in which a call that makes a row ends. -/
def GivesR (ys : List Int) (kind tt : Int) (w : World) (e : Ending) (w' : World) : Prop := ∃ A c, e = .returned (.agg #[.slice A ys.length c, .int .i64 kind, .int .i64 tt]) ∧ ys.length ≤ c ∧ Isb w.heap.size w' A ys ∧ Below w.heap.size w w'
theorem HB.row {w : World} {g : Nat} {t : TypeId} {v1 v2 v3 : Value} (h : HB w g t #[v1, v2, v3]) : HB w g t #[v1, v2, v3] ∧ w.cell? ⟨g, 0, none⟩ = some v1 ∧ w.cell? ⟨g, 1, none⟩ = some v2 ∧ w.cell? ⟨g, 2, none⟩ = some v3 := ⟨h, h.cell 0, h.cell 1, h.cell 2⟩
theorem HB.row' {w : World} {g : Nat} {t : TypeId} {v1 v2 v3 : Value} (h : HB w g t #[v1, v2, v3]) : w.cell? ⟨g, 0, none⟩ = some v1 ∧ w.cell? ⟨g, 1, none⟩ = some v2 ∧ w.cell? ⟨g, 2, none⟩ = some v3 ∧ w.frozen? ⟨g, 0, none⟩ = false ∧ w.frozen? ⟨g, 1, none⟩ = false ∧ w.frozen? ⟨g, 2, none⟩ = false := ⟨h.cell 0, h.cell 1, h.cell 2, h.frozen 0, h.frozen 1, h.frozen 2⟩
set_option maxRecDepth 100000 in
set_option maxHeartbeats 4000000 in
theorem negated_any (A : Option Addr) (xs : List Int) (L c : Nat) (kind tt : Int) (hL : L = xs.length) (h12 : L ≤ 12) (hx : ∀ i, i < L → inB (nth xs i) = true) (ht : inB tt = true) (w : World) (h : Is w A xs) :
    Calls Try.prog 48 #[.agg #[.slice A L c, .int .i64 kind, .int .i64 tt]] w (GivesR (negL xs) kind (-tt) w) := by
  obtain ⟨i1, i2⟩ := inB_iff.1 ht
  have tw : IntKind.i64.wrap (-tt) = -tt := IntWalk.i64_in _ (by omega)
  have HX := Lib.hid h
  have HL := Lib.hid hL
  have HI := Lib.hid hx
  have F0 : Hid (HB ((w.alloc (.cells #[.slice A L c, .int .i64 kind, .int .i64 tt] 24)).alloc (.cells #[.slice none 0 0, .int .i64 0, .int .i64 0] 24)) w.heap.size 24 #[.slice A L c, .int .i64 kind, .int .i64 tt]) := (HB.new w _ _).alloc _
  have N0 : Hid (HB ((w.alloc (.cells #[.slice A L c, .int .i64 kind, .int .i64 tt] 24)).alloc (.cells #[.slice none 0 0, .int .i64 0, .int .i64 0] 24)) (w.heap.size + 1) 24 #[.slice none 0 0, .int .i64 0, .int .i64 0]) := HB.new1 w _ _ _
  have G0 : Hid (Below w.heap.size w ((w.alloc (.cells #[.slice A L c, .int .i64 kind, .int .i64 tt] 24)).alloc (.cells #[.slice none 0 0, .int .i64 0, .int .i64 0] 24))) := by show Below _ _ _; go_grown
  clear h hL hx ht
  go_enter Try.func48, Try.ntmps48
  go_wp2_with fail
  go_region_held3 (fun w' => HB w' w.heap.size 24 #[.slice A L c, .int .i64 kind, .int .i64 tt] ∧ w'.cell? ⟨w.heap.size, 0, none⟩ = some (.slice A L c) ∧ w'.cell? ⟨w.heap.size, 1, none⟩ = some (.int .i64 kind) ∧ w'.cell? ⟨w.heap.size, 2, none⟩ = some (.int .i64 tt))
    ((refine HB.row ?_; first | exact F2.out | exact F0.out | exact F0.out.drew | (exact HB.far (HB.far (HB.far F2.out (by simp) _) (by simp) _) (by simp) _)))
    (first
      | (go_at_call 46; refine (divided_any A xs L c (-1) HL.out h12 (by omega) HI.out _ (HX.out.below G0.out.drew)).mono ?_; rintro e w2 ⟨A2, c2, rfl, hl2, hi2, hb2⟩; have HL2 := Lib.hid hl2; clear hl2; have H2 := Lib.hid hi2; have F2 := Lib.hid (F0.out.drew.below hb2); have N2 := Lib.hid (N0.out.drew.below hb2); have G2 := Lib.hid (bw_below (Nat.le_refl _) G0.out.drew hb2); obtain ⟨y0, y1, y2, y3, y4, y5⟩ := HB.row' N2.out; clear hi2 hb2))
  all_goals
    go_wp2
    have x1 := ((far_set w2 (w.heap.size + 1) 0 (.slice A2 xs.length c2)).trans (far_set _ (w.heap.size + 1) 1 (.int .i64 kind))).trans (far_set _ (w.heap.size + 1) 2 (.int .i64 (-tt)))
    refine bodyPost_ret (v := .agg #[.slice A2 xs.length c2, .int .i64 kind, .int .i64 (-tt)]) (by simp [results, Try.results48, go_sem, y0, y1, y2]) rfl ⟨A2, c2, by rw [negL_len], by have := HL2.out; rw [List.length_map] at this; rw [negL_len]; exact this, ?_, bw_far (g := w.heap.size + 1) G2.out (by omega) x1⟩
    have := H2.out.far_ (g := w.heap.size + 1) (by simp) x1
    rw [negL_eq] at this
    exact this.mono (by simp; omega)
end Go.Proofs.Ytkjollifghmkbaa
