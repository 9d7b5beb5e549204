/-
  MeanArrays: the law returns true.
-/
import Derived.Test.YtibpgcdaommjeaaMarA
import Derived.Test.YtibpgcdaommjeaaMarB
import Derived.Test.YtibpgcdaommjeaaMevF
import Derived.Test.YtibpgcdaommjeaaGx
import Derived.Deep.CutBlock
namespace Go.Proofs.Ytibpgcdaommjeaa
open Go.RowKit

/-- The slots of the region that makes the ask, in the order of its operations. -/
def arD (i : Nat) : Nat := if i = 19 then 4 else i + 8
/-- What its operations make. -/
def arS (i : Nat) : Sp :=
  [.dc, .val (nmV ⟨#[109]⟩), .val (nmV ⟨#[97]⟩), .val (nmV ⟨#[98]⟩), .val (nmV ⟨#[99]⟩), .ks [0, 1, 2], .nd 25 0 0 [0, 1, 2], .ks [4, 3], .nd 24 0 0 [4, 3], .ks [0, 3], .nd 24 0 0 [0, 3], .ks [1, 3], .nd 8 0 0 [1, 3], .ks [7, 2, 6], .nd 7 0 0 [7, 2, 6], .ks [5, 8], .nd 8 0 0 [5, 8], .ns arN, .ak arN, .pt].getD i .pt
theorem ops_all {ops : Array Oper} {p : Nat → Oper → Bool} (h : (List.range ops.size).all (fun i => match ops[i]? with | some o => p i o | none => true) = true) : ∀ i o, ops[i]? = some o → p i o = true := by
  intro i o ho
  have hi : i < ops.size := (Array.getElem?_eq_some_iff.1 ho).1
  have := List.all_eq_true.1 h i (List.mem_range.2 hi)
  rw [ho] at this
  exact this
/-- An ask's three slices in a variable. -/
@[reducible] def ArE (g : Nat) (a0 a1 a2 : Value) (W : World) : Prop := W.cell? ⟨g, 0, none⟩ = some a0 ∧ W.cell? ⟨g, 1, none⟩ = some a1 ∧ W.cell? ⟨g, 2, none⟩ = some a2
/-- Ten values, the last of which is true. -/
def TenQ (w : World) (e : Ending) (w' : World) : Prop := ∃ (b c : Nat), e = .returned (.tuple #[.slice (some ⟨b, 0, none⟩) 10 c, .bool true]) ∧ w'.cell? ⟨b, 36, none⟩ = some (.int .i64 1) ∧ b < w'.heap.size ∧ Below w.heap.size w w'
theorem ten_of {vs : List Vl} (hl : vs.length = 10) (h9 : (vn vs 9).num = 1) {w : World} {e : Ending} {w' : World} (h : ValdS vs w e w') : TenQ w e w' := by
  obtain ⟨A, c, ps, rfl, h2, h3, h4⟩ := h
  have hpl : ps.length = 10 := by rw [← hl, ← h3, List.length_map]
  obtain ⟨p, hp⟩ : ∃ p, ps[9]? = some p := ⟨_, List.getElem?_eq_getElem (by omega)⟩
  obtain ⟨b, rfl, lb, c0, -⟩ := vm_at h2 hp
  have e9 : vn vs 9 = p.1 := by
    rw [← h3]
    simp [vn, List.getD, hp]
  rw [e9] at h9
  rw [h9] at c0
  exact ⟨b, c, by rw [hpl], c0, lb, h4⟩
theorem slot_get {a : Act} {t : Nat} {v : Value} (h : a.tmps.getD t undef = v) : a.tmps[t]?.getD undef = v := by rw [← h, Array.getD_eq_getD_getElem?]
theorem ks_new (w : World) (l : List Int) {cs : Array Value} (h : cs = (intV l).toArray) : KsG l (.slice (some ⟨w.heap.size, 0, none⟩) l.length l.length) (w.alloc (.cells cs 3)) := by
  subst h
  exact ⟨_, rfl, is_row (HB.new _ _ _) fun k hk => by simp [intV, nth, List.getD, hk]⟩
theorem arn_at {w : World} {g g4 g5 g6 g7 g8 g9 : Nat} (hg : HB w g 24 #[.int .i64 9, .slice none 0 0, .int .i64 0, .int .i64 0, .string ⟨#[109]⟩, .int .i64 9, .slice none 0 0, .int .i64 0, .int .i64 0, .string ⟨#[97]⟩, .int .i64 9, .slice none 0 0, .int .i64 0, .int .i64 0, .string ⟨#[98]⟩, .int .i64 9, .slice none 0 0, .int .i64 0, .int .i64 0, .string ⟨#[99]⟩,
    .int .i64 25, .slice (some ⟨g4, 0, none⟩) 3 3, .int .i64 0, .int .i64 0, .string ⟨#[]⟩, .int .i64 24, .slice (some ⟨g5, 0, none⟩) 2 2, .int .i64 0, .int .i64 0, .string ⟨#[]⟩, .int .i64 24, .slice (some ⟨g6, 0, none⟩) 2 2, .int .i64 0, .int .i64 0, .string ⟨#[]⟩, .int .i64 8, .slice (some ⟨g7, 0, none⟩) 2 2, .int .i64 0, .int .i64 0, .string ⟨#[]⟩, .int .i64 7, .slice (some ⟨g8, 0, none⟩) 3 3, .int .i64 0, .int .i64 0, .string ⟨#[]⟩, .int .i64 8, .slice (some ⟨g9, 0, none⟩) 2 2, .int .i64 0, .int .i64 0, .string ⟨#[]⟩])
    (h4 : Is w (some ⟨g4, 0, none⟩) [0, 1, 2]) (h5 : Is w (some ⟨g5, 0, none⟩) [4, 3]) (h6 : Is w (some ⟨g6, 0, none⟩) [0, 3]) (h7 : Is w (some ⟨g7, 0, none⟩) [1, 3]) (h8 : Is w (some ⟨g8, 0, none⟩) [7, 2, 6]) (h9 : Is w (some ⟨g9, 0, none⟩) [5, 8]) : NsAt w (some ⟨g, 0, none⟩) arN := fun _ => ⟨g, 0, rfl, hg.lt, fun i q hq => by
  have hi : i < 10 := by
    rcases Nat.lt_or_ge i 10 with z | z
    · exact z
    · rw [List.getElem?_eq_none (by simpa [arN] using z)] at hq
      cases hq
  rcases (show i = 0 ∨ i = 1 ∨ i = 2 ∨ i = 3 ∨ i = 4 ∨ i = 5 ∨ i = 6 ∨ i = 7 ∨ i = 8 ∨ i = 9 by omega) with rfl | rfl | rfl | rfl | rfl | rfl | rfl | rfl | rfl | rfl
  all_goals (simp [arN] at hq; subst hq)
  · exact ⟨(hg.cell _).trans rfl, (hg.cell _).trans rfl, (hg.cell _).trans rfl, (hg.cell _).trans rfl, nm_len _, none, 0, (hg.cell _).trans rfl, Nat.le_refl _, Nat.zero_le _, is_nil _ _⟩
  · exact ⟨(hg.cell _).trans rfl, (hg.cell _).trans rfl, (hg.cell _).trans rfl, (hg.cell _).trans rfl, nm_len _, none, 0, (hg.cell _).trans rfl, Nat.le_refl _, Nat.zero_le _, is_nil _ _⟩
  · exact ⟨(hg.cell _).trans rfl, (hg.cell _).trans rfl, (hg.cell _).trans rfl, (hg.cell _).trans rfl, nm_len _, none, 0, (hg.cell _).trans rfl, Nat.le_refl _, Nat.zero_le _, is_nil _ _⟩
  · exact ⟨(hg.cell _).trans rfl, (hg.cell _).trans rfl, (hg.cell _).trans rfl, (hg.cell _).trans rfl, nm_len _, none, 0, (hg.cell _).trans rfl, Nat.le_refl _, Nat.zero_le _, is_nil _ _⟩
  · exact ⟨(hg.cell _).trans rfl, (hg.cell _).trans rfl, (hg.cell _).trans rfl, (hg.cell _).trans rfl, by unfold maxLen; decide, some ⟨g4, 0, none⟩, 3, (hg.cell _).trans rfl, by decide, by unfold maxLen; decide, h4⟩
  · exact ⟨(hg.cell _).trans rfl, (hg.cell _).trans rfl, (hg.cell _).trans rfl, (hg.cell _).trans rfl, by unfold maxLen; decide, some ⟨g5, 0, none⟩, 2, (hg.cell _).trans rfl, by decide, by unfold maxLen; decide, h5⟩
  · exact ⟨(hg.cell _).trans rfl, (hg.cell _).trans rfl, (hg.cell _).trans rfl, (hg.cell _).trans rfl, by unfold maxLen; decide, some ⟨g6, 0, none⟩, 2, (hg.cell _).trans rfl, by decide, by unfold maxLen; decide, h6⟩
  · exact ⟨(hg.cell _).trans rfl, (hg.cell _).trans rfl, (hg.cell _).trans rfl, (hg.cell _).trans rfl, by unfold maxLen; decide, some ⟨g7, 0, none⟩, 2, (hg.cell _).trans rfl, by decide, by unfold maxLen; decide, h7⟩
  · exact ⟨(hg.cell _).trans rfl, (hg.cell _).trans rfl, (hg.cell _).trans rfl, (hg.cell _).trans rfl, by unfold maxLen; decide, some ⟨g8, 0, none⟩, 3, (hg.cell _).trans rfl, by decide, by unfold maxLen; decide, h8⟩
  · exact ⟨(hg.cell _).trans rfl, (hg.cell _).trans rfl, (hg.cell _).trans rfl, (hg.cell _).trans rfl, by unfold maxLen; decide, some ⟨g9, 0, none⟩, 2, (hg.cell _).trans rfl, by decide, by unfold maxLen; decide, h9⟩⟩
/-- Something of each operation, by its place. -/
def Chn (R : Nat → Oper → Prop) : Nat → List Oper → Prop
  | _, [] => True
  | k, o :: l => R k o ∧ Chn R (k + 1) l
theorem chn_at {R : Nat → Oper → Prop} : ∀ {l : List Oper} {k : Nat}, Chn R k l → ∀ {i : Nat} {o : Oper}, l[i]? = some o → R (k + i) o := by
  intro l
  induction l with
  | nil => intro k _ i o h; cases h
  | cons x l ih =>
    intro k hc i o h
    cases i with
    | zero => injection h with h; subst h; exact hc.1
    | succ i =>
      have := ih hc.2 (i := i) (o := o) (by simpa using h)
      rwa [show k + 1 + i = k + (i + 1) by omega] at this
theorem arr_at {R : Nat → Oper → Prop} {ops : Array Oper} (h : Chn R 0 ops.toList) {i : Nat} {o : Oper} (ho : ops[i]? = some o) : R i o := by
  have := chn_at h (i := i) (o := o) (by simpa using ho)
  rwa [Nat.zero_add] at this
/-- What is asked of an operation but the last. -/
def Stp (P : Program) (Q : Exit → Act → World → Prop) (n : Nat) (d : Nat → Nat) (G : Nat → Value → World → Prop) (a0 : Act) (W0 : World) (i : Nat) (o : Oper) : Prop :=
  i < n → ∀ (a : Act) (w : World), Below W0.heap.size W0 w → (∀ t, (∀ j, j < n → d j ≠ t) → a.tmps.getD t undef = a0.tmps.getD t undef) → (∀ e ∈ o.after, Region.binds .any e = true → G e.on (a.tmps.getD (d e.on) undef) w) →
      ∀ K : Act → World → Prop, (∀ v w', G i v w' → Below w.heap.size w w' → K (a.put (some (d i)) v) w') → o.wp P a w K Q
theorem lt20 {i : Nat} (h : i < 20) : i = 0 ∨ i = 1 ∨ i = 2 ∨ i = 3 ∨ i = 4 ∨ i = 5 ∨ i = 6 ∨ i = 7 ∨ i = 8 ∨ i = 9 ∨ i = 10 ∨ i = 11 ∨ i = 12 ∨ i = 13 ∨ i = 14 ∨ i = 15 ∨ i = 16 ∨ i = 17 ∨ i = 18 ∨ i = 19 := by omega
theorem ard_inj : ∀ i j, i < 20 → j < 20 → arD i = arD j → i = j := by
  intro i j hi hj h
  unfold arD at h
  split at h <;> split at h <;> omega
theorem ard_in {i : Nat} (h : i < 20) : arD i < 48 := by unfold arD; split <;> omega
/-- What is asked of the last. -/
def Fin (P : Program) (Q : Exit → Act → World → Prop) (n : Nat) (d : Nat → Nat) (G : Nat → Value → World → Prop) (a0 : Act) (W0 : World) (i : Nat) (o : Oper) : Prop :=
  i = n → ∀ (vs : Nat → Value) (w : World), Below W0.heap.size W0 w → (∀ i, i < n → G i (vs i) w) → o.wp P (puts a0 d vs n) w (Q .normal) Q
set_option maxRecDepth 100000 in
set_option maxHeartbeats 1000000 in
theorem meanarrays_any (zs : List Int) (A : Option Addr) (c : Nat) (hz : zs.length ≤ maxLen) (w : World) (h : Is w A zs) :
    Calls Try.prog 3 #[.slice A zs.length c] w fun e w' => e = .returned (.bool true) ∧ Below w.heap.size w w' := by
  have XW := Lib.hid (fun (W : World) (k : Below w.heap.size w W) => worldof_any zs A c hz W (h.below k))
  clear h hz
  generalize zs.length = zl at *
  go_enter Try.func3, Try.ntmps3
  go_wp2_with fail
  have X1 := func2_any ⟨#[109]⟩ w
  unfold nmV at X1
  refine X1.mono ?_
  rintro e w1 ⟨rfl, hb1⟩
  go_upto_region 2 with fail
  rename_i Q0 Kx hx
  refine wp_region_any (by kernel_rfl) ?_
  have HM : Hid (HB (World.drew (w1.alloc (.cells #[.int .i64 9, .slice none 0 0, .int .i64 0, .int .i64 0, .string ⟨#[109]⟩] 24))) w1.heap.size 24 #[.int .i64 9, .slice none 0 0, .int .i64 0, .int .i64 0, .string ⟨#[109]⟩]) := Lib.hid (HB.new _ _ _)
  have BM : Hid (Below w.heap.size w (World.drew (w1.alloc (.cells #[.int .i64 9, .slice none 0 0, .int .i64 0, .int .i64 0, .string ⟨#[109]⟩] 24)))) := Lib.hid (below_after hb1 (new_below _ _)).drew
  change wpAny Try.prog .any _ _ _ _ _ (World.drew (w1.alloc (.cells #[.int .i64 9, .slice none 0 0, .int .i64 0, .int .i64 0, .string ⟨#[109]⟩] 24)))
  generalize World.drew (w1.alloc (.cells #[.int .i64 9, .slice none 0 0, .int .i64 0, .int .i64 0, .string ⟨#[109]⟩] 24)) = W0 at *
  clear X1 hb1
  generalize w1.heap.size = gm at *
  refine any_grow (n := 20) (d := arD) (G := fun i => SpG W0.heap.size (arS i)) (by kernel_rfl)
    (fun i o hi ho => ?_) ard_inj (fun i hi => ?_)
    (fun i o ho => ?_) (fun i o ho e he => ?_) (fun o ho j hj => ?_)
    (fun i v w w' h k => spg_below h k) (fun i o hi ho => ?_) (fun o ho => ?_) 21 _ _ _ (by decide) ⟨Below.refl _ _, rfl, rfl, rfl, rfl, fun _ _ => rfl, fun i hi h => ?_⟩
  · have := ops_all (p := fun i o => decide (20 ≤ i) || o.dst == some (arD i)) (by kernel_rfl) i o ho
    simp only [Bool.or_eq_true, decide_eq_true_eq, beq_iff_eq] at this
    exact this.resolve_left (by omega)
  · show arD i < 48
    exact ard_in hi
  · have := ops_all (p := fun _ o => o.guard.isNone) (by kernel_rfl) i o ho
    simpa using this
  · have := ops_all (p := fun i o => o.after.toList.all fun e => decide (e.on < i)) (by kernel_rfl) i o ho
    exact of_decide_eq_true (List.all_eq_true.1 this e (by simpa using he))
  · have := ops_all (p := fun i o => decide (i ≠ 20) || (List.range 20).all fun j => o.after.toList.any fun e => Region.binds .any e && e.on == j) (by kernel_rfl) 20 o ho
    simp only [ne_eq, not_true_eq_false, decide_false, Bool.false_or] at this
    obtain ⟨e, h1, h2⟩ := List.any_eq_true.1 (List.all_eq_true.1 this j (List.mem_range.2 hj))
    rw [Bool.and_eq_true, beq_iff_eq] at h2
    exact ⟨e, by simpa using h1, h2.1, h2.2⟩
  · refine arr_at (R := Stp Try.prog _ 20 arD (fun i => SpG W0.heap.size (arS i)) _ _) ?_ ho hi
    clear ho hi o i hx
    refine ⟨?_, ?_, ?_, ?_, ?_, ?_, ?_, ?_, ?_, ?_, ?_, ?_, ?_, ?_, ?_, ?_, ?_, ?_, ?_, ?_, ?_, trivial⟩
    all_goals (intro hi a W hW hA hG K hK)
    · go_wp2_with fail
      refine (decls_any _).mono ?_
      rintro e w' ⟨g, rfl, hd, hb⟩
      (first | exact hK _ _ ⟨g, rfl, hd⟩ hb | (go_wp2_with fail; exact hK _ _ ⟨g, rfl, hd⟩ hb))
    · have h3 : a.tmps[3]?.getD undef = .pointer (some ⟨gm, 0, none⟩) := slot_get ((hA 3 (fun j _ => by unfold arD; split <;> omega)).trans rfl)
      have H := HM.out.below hW
      have c0 : W.cell? ⟨gm, 0, none⟩ = some (.int .i64 9) := H.cell 0
      have c1 : W.cell? ⟨gm, 1, none⟩ = some (.slice none 0 0) := H.cell 1
      have c2 : W.cell? ⟨gm, 2, none⟩ = some (.int .i64 0) := H.cell 2
      have c3 : W.cell? ⟨gm, 3, none⟩ = some (.int .i64 0) := H.cell 3
      have c4 : W.cell? ⟨gm, 4, none⟩ = some (.string ⟨#[109]⟩) := H.cell 4
      go_simp
      exact hK _ _ rfl (Below.refl _ _)
    · go_wp2_with fail
      refine (func2_any ⟨#[97]⟩ _).mono ?_
      rintro e w' ⟨rfl, hb⟩
      (first | exact hK _ _ rfl hb | (go_wp2_with fail; exact hK _ _ rfl hb))
    · go_wp2_with fail
      refine (func2_any ⟨#[98]⟩ _).mono ?_
      rintro e w' ⟨rfl, hb⟩
      (first | exact hK _ _ rfl hb | (go_wp2_with fail; exact hK _ _ rfl hb))
    · go_wp2_with fail
      refine (func2_any ⟨#[99]⟩ _).mono ?_
      rintro e w' ⟨rfl, hb⟩
      (first | exact hK _ _ rfl hb | (go_wp2_with fail; exact hK _ _ rfl hb))
    · go_wp2_with fail
      exact hK _ _ (ks_new W [0, 1, 2] rfl) (new_below _ _)
    · obtain ⟨g, h1, h2⟩ : KsG [0, 1, 2] (a.tmps.getD 13 undef) W := hG ⟨5, .data⟩ (by simp) rfl
      have h1 : a.tmps[13]?.getD undef = .slice (some ⟨g, 0, none⟩) 3 3 := slot_get h1
      go_simp
      exact hK _ _ ⟨g, rfl, h2⟩ (Below.refl _ _)
    · go_wp2_with fail
      exact hK _ _ (ks_new W [4, 3] rfl) (new_below _ _)
    · obtain ⟨g, h1, h2⟩ : KsG [4, 3] (a.tmps.getD 15 undef) W := hG ⟨7, .data⟩ (by simp) rfl
      have h1 : a.tmps[15]?.getD undef = .slice (some ⟨g, 0, none⟩) 2 2 := slot_get h1
      go_simp
      exact hK _ _ ⟨g, rfl, h2⟩ (Below.refl _ _)
    · go_wp2_with fail
      exact hK _ _ (ks_new W [0, 3] rfl) (new_below _ _)
    · obtain ⟨g, h1, h2⟩ : KsG [0, 3] (a.tmps.getD 17 undef) W := hG ⟨9, .data⟩ (by simp) rfl
      have h1 : a.tmps[17]?.getD undef = .slice (some ⟨g, 0, none⟩) 2 2 := slot_get h1
      go_simp
      exact hK _ _ ⟨g, rfl, h2⟩ (Below.refl _ _)
    · go_wp2_with fail
      exact hK _ _ (ks_new W [1, 3] rfl) (new_below _ _)
    · obtain ⟨g, h1, h2⟩ : KsG [1, 3] (a.tmps.getD 19 undef) W := hG ⟨11, .data⟩ (by simp) rfl
      have h1 : a.tmps[19]?.getD undef = .slice (some ⟨g, 0, none⟩) 2 2 := slot_get h1
      go_simp
      exact hK _ _ ⟨g, rfl, h2⟩ (Below.refl _ _)
    · go_wp2_with fail
      exact hK _ _ (ks_new W [7, 2, 6] rfl) (new_below _ _)
    · obtain ⟨g, h1, h2⟩ : KsG [7, 2, 6] (a.tmps.getD 21 undef) W := hG ⟨13, .data⟩ (by simp) rfl
      have h1 : a.tmps[21]?.getD undef = .slice (some ⟨g, 0, none⟩) 3 3 := slot_get h1
      go_simp
      exact hK _ _ ⟨g, rfl, h2⟩ (Below.refl _ _)
    · go_wp2_with fail
      exact hK _ _ (ks_new W [5, 8] rfl) (new_below _ _)
    · obtain ⟨g, h1, h2⟩ : KsG [5, 8] (a.tmps.getD 23 undef) W := hG ⟨15, .data⟩ (by simp) rfl
      have h1 : a.tmps[23]?.getD undef = .slice (some ⟨g, 0, none⟩) 2 2 := slot_get h1
      go_simp
      exact hK _ _ ⟨g, rfl, h2⟩ (Below.refl _ _)
    · have h0 : a.tmps[9]?.getD undef = .agg #[.int .i64 9, .slice none 0 0, .int .i64 0, .int .i64 0, .string ⟨#[109]⟩] := slot_get (hG ⟨1, .data⟩ (by simp) rfl)
      have h1 : a.tmps[10]?.getD undef = .agg #[.int .i64 9, .slice none 0 0, .int .i64 0, .int .i64 0, .string ⟨#[97]⟩] := slot_get (hG ⟨2, .data⟩ (by simp) rfl)
      have h2 : a.tmps[11]?.getD undef = .agg #[.int .i64 9, .slice none 0 0, .int .i64 0, .int .i64 0, .string ⟨#[98]⟩] := slot_get (hG ⟨3, .data⟩ (by simp) rfl)
      have h3 : a.tmps[12]?.getD undef = .agg #[.int .i64 9, .slice none 0 0, .int .i64 0, .int .i64 0, .string ⟨#[99]⟩] := slot_get (hG ⟨4, .data⟩ (by simp) rfl)
      obtain ⟨g4, e4, i4⟩ : NdG 25 0 0 [0, 1, 2] (a.tmps.getD 14 undef) W := hG ⟨6, .data⟩ (by simp) rfl
      have h4 : a.tmps[14]?.getD undef = .agg #[.int .i64 25, .slice (some ⟨g4, 0, none⟩) 3 3, .int .i64 0, .int .i64 0, .string ⟨#[]⟩] := slot_get e4
      obtain ⟨g5, e5, i5⟩ : NdG 24 0 0 [4, 3] (a.tmps.getD 16 undef) W := hG ⟨8, .data⟩ (by simp) rfl
      have h5 : a.tmps[16]?.getD undef = .agg #[.int .i64 24, .slice (some ⟨g5, 0, none⟩) 2 2, .int .i64 0, .int .i64 0, .string ⟨#[]⟩] := slot_get e5
      obtain ⟨g6, e6, i6⟩ : NdG 24 0 0 [0, 3] (a.tmps.getD 18 undef) W := hG ⟨10, .data⟩ (by simp) rfl
      have h6 : a.tmps[18]?.getD undef = .agg #[.int .i64 24, .slice (some ⟨g6, 0, none⟩) 2 2, .int .i64 0, .int .i64 0, .string ⟨#[]⟩] := slot_get e6
      obtain ⟨g7, e7, i7⟩ : NdG 8 0 0 [1, 3] (a.tmps.getD 20 undef) W := hG ⟨12, .data⟩ (by simp) rfl
      have h7 : a.tmps[20]?.getD undef = .agg #[.int .i64 8, .slice (some ⟨g7, 0, none⟩) 2 2, .int .i64 0, .int .i64 0, .string ⟨#[]⟩] := slot_get e7
      obtain ⟨g8, e8, i8⟩ : NdG 7 0 0 [7, 2, 6] (a.tmps.getD 22 undef) W := hG ⟨14, .data⟩ (by simp) rfl
      have h8 : a.tmps[22]?.getD undef = .agg #[.int .i64 7, .slice (some ⟨g8, 0, none⟩) 3 3, .int .i64 0, .int .i64 0, .string ⟨#[]⟩] := slot_get e8
      obtain ⟨g9, e9, i9⟩ : NdG 8 0 0 [5, 8] (a.tmps.getD 24 undef) W := hG ⟨16, .data⟩ (by simp) rfl
      have h9 : a.tmps[24]?.getD undef = .agg #[.int .i64 8, .slice (some ⟨g9, 0, none⟩) 2 2, .int .i64 0, .int .i64 0, .string ⟨#[]⟩] := slot_get e9
      go_simp
      exact hK _ _ ⟨_, rfl, arn_at (HB.new _ _ _) (i4.below (new_below _ _)) (i5.below (new_below _ _)) (i6.below (new_below _ _)) (i7.below (new_below _ _)) (i8.below (new_below _ _)) (i9.below (new_below _ _))⟩ (new_below _ _)
    · obtain ⟨gd, e0, i0⟩ : DcG (a.tmps.getD 8 undef) W := hG ⟨0, .data⟩ (by simp) rfl
      obtain ⟨gn, e1, i1⟩ : NsG arN (a.tmps.getD 25 undef) W := hG ⟨17, .data⟩ (by simp) rfl
      have h0 : a.tmps[8]?.getD undef = .slice (some ⟨gd, 0, none⟩) 14 14 := slot_get e0
      have h1 : a.tmps[25]?.getD undef = .slice (some ⟨gn, 0, none⟩) 10 10 := slot_get e1
      go_simp
      exact hK _ _ ⟨gd, gn, rfl, i0, i1⟩ (Below.refl _ _)
    · go_wp2_with fail
      exact hK _ _ ⟨_, rfl, hW.size, HB.new _ _ _⟩ (new_below _ _)
    · exfalso; revert hi; decide
  · refine arr_at (R := Fin Try.prog _ 20 arD (fun i => SpG W0.heap.size (arS i)) _ _) ?_ ho rfl
    clear ho o
    refine ⟨?_, ?_, ?_, ?_, ?_, ?_, ?_, ?_, ?_, ?_, ?_, ?_, ?_, ?_, ?_, ?_, ?_, ?_, ?_, ?_, ?_, trivial⟩
    all_goals intro hi
    · exfalso; clear hx; revert hi; decide
    · exfalso; clear hx; revert hi; decide
    · exfalso; clear hx; revert hi; decide
    · exfalso; clear hx; revert hi; decide
    · exfalso; clear hx; revert hi; decide
    · exfalso; clear hx; revert hi; decide
    · exfalso; clear hx; revert hi; decide
    · exfalso; clear hx; revert hi; decide
    · exfalso; clear hx; revert hi; decide
    · exfalso; clear hx; revert hi; decide
    · exfalso; clear hx; revert hi; decide
    · exfalso; clear hx; revert hi; decide
    · exfalso; clear hx; revert hi; decide
    · exfalso; clear hx; revert hi; decide
    · exfalso; clear hx; revert hi; decide
    · exfalso; clear hx; revert hi; decide
    · exfalso; clear hx; revert hi; decide
    · exfalso; clear hx; revert hi; decide
    · exfalso; clear hx; revert hi; decide
    · exfalso; clear hx; revert hi; decide
    · intro vs W hW hG
      have e : puts ⟨#[.slice A zl c, undef, .bool false, .pointer (some ⟨gm, 0, none⟩), undef, undef, undef, .agg #[.int .i64 9, .slice none 0 0, .int .i64 0, .int .i64 0, .string ⟨#[109]⟩], undef, undef, undef, undef, undef, undef, undef, undef, undef, undef, undef, undef, undef, undef, undef, undef, undef, undef, undef, undef, undef, undef, undef, undef, undef, undef, undef, undef, undef, undef, undef, undef, undef, undef, undef, undef, undef, undef, undef, undef], []⟩ arD vs 20 = ⟨#[.slice A zl c, undef, .bool false, .pointer (some ⟨gm, 0, none⟩), vs 19, undef, undef, .agg #[.int .i64 9, .slice none 0 0, .int .i64 0, .int .i64 0, .string ⟨#[109]⟩], vs 0, vs 1, vs 2, vs 3, vs 4, vs 5, vs 6, vs 7, vs 8, vs 9, vs 10, vs 11, vs 12, vs 13, vs 14, vs 15, vs 16, vs 17, vs 18, undef, undef, undef, undef, undef, undef, undef, undef, undef, undef, undef, undef, undef, undef, undef, undef, undef, undef, undef, undef, undef], []⟩ := by kernel_rfl
      rw [e]
      clear e hi
      obtain ⟨gd, gn, e18, hd, hn⟩ : AkG arN (vs 18) W := hG 18 (by decide)
      obtain ⟨g, e19, hbg, hg⟩ : PtG W0.heap.size (vs 19) W := hG 19 (by decide)
      have e18 : vs 18 = .agg #[.slice (some ⟨gd, 0, none⟩) 14 14, .slice (some ⟨gn, 0, none⟩) 10 10, .slice none 0 0] := e18
      rw [e18, e19]
      have HG := Lib.hid hg
      obtain ⟨a0, a1, a2, f0, f1, f2⟩ := HG.out.three
      have HB1 : Hid (Below w.heap.size w (((W.setCell ⟨g, 0, none⟩ (.slice (some ⟨gd, 0, none⟩) 14 14)).setCell ⟨g, 1, none⟩ (.slice (some ⟨gn, 0, none⟩) 10 10)).setCell ⟨g, 2, none⟩ (.slice none 0 0))) := Lib.hid (bw_far (below_after BM.out hW) (Nat.le_trans BM.out.size hbg) (far3 _ _ _ _ _))
      have HD1 : Hid (DsAt (((W.setCell ⟨g, 0, none⟩ (.slice (some ⟨gd, 0, none⟩) 14 14)).setCell ⟨g, 1, none⟩ (.slice (some ⟨gn, 0, none⟩) 10 10)).setCell ⟨g, 2, none⟩ (.slice none 0 0)) (some ⟨gd, 0, none⟩) dqs) := Lib.hid (((gx_refl g W).far (far3 _ _ _ _ _)).ds hg hd)
      have HN1 : Hid (NsAt (((W.setCell ⟨g, 0, none⟩ (.slice (some ⟨gd, 0, none⟩) 14 14)).setCell ⟨g, 1, none⟩ (.slice (some ⟨gn, 0, none⟩) 10 10)).setCell ⟨g, 2, none⟩ (.slice none 0 0)) (some ⟨gn, 0, none⟩) arN) := Lib.hid (((gx_refl g W).far (far3 _ _ _ _ _)).ns hg hn)
      have HG1 : Hid (HB (((W.setCell ⟨g, 0, none⟩ (.slice (some ⟨gd, 0, none⟩) 14 14)).setCell ⟨g, 1, none⟩ (.slice (some ⟨gn, 0, none⟩) 10 10)).setCell ⟨g, 2, none⟩ (.slice none 0 0)) g 30 #[.slice (some ⟨gd, 0, none⟩) 14 14, .slice (some ⟨gn, 0, none⟩) 10 10, .slice none 0 0]) := Lib.hid (hb_set3 hg)
      clear hd hn hG hg hW hbg BM HM e18 e19
      go_wp2_with fail
      generalize (((W.setCell ⟨g, 0, none⟩ (.slice (some ⟨gd, 0, none⟩) 14 14)).setCell ⟨g, 1, none⟩ (.slice (some ⟨gn, 0, none⟩) 10 10)).setCell ⟨g, 2, none⟩ (.slice none 0 0)) = W1 at *
      clear HG a0 a1 a2 f0 f1 f2 W0
      have KA : Hid (∀ V, Below W1.heap.size W1 V → ArE g (.slice (some ⟨gd, 0, none⟩) 14 14) (.slice (some ⟨gn, 0, none⟩) 10 10) (.slice none 0 0) V) := Lib.hid (fun V k => ⟨(HG1.out.below k).cell 0, (HG1.out.below k).cell 1, (HG1.out.below k).cell 2⟩)
      have DR : Hid (Below W1.heap.size W1 W1.drew) := Lib.hid (Below.refl _ _).drew
      have XV : Hid (∀ (V : World) (Am : Option Addr) (mc : Nat) (ms : List Mg), Below W1.heap.size W1 V → ms.length = 14 → 14 ≤ mc → mc ≤ maxLen → MsAt V Am ms → (∀ i, i < 14 → mcF dqs ms i = 0) → (∀ q ∈ ms, q.wf) → Calls Try.prog 7 #[.agg #[.slice (some ⟨gd, 0, none⟩) 14 14, .slice (some ⟨gn, 0, none⟩) 10 10, .slice none 0 0], .agg #[.slice Am 14 mc]] V (TenQ V)) := Lib.hid (fun V Am mc ms k q1 q2 q3 q4 q5 q6 => by
        obtain ⟨vs, hv, hl, h9⟩ := ar_last (world_zero ar_ak q1 q5)
        have := valued_ok dqs arN [] ms (some ⟨gd, 0, none⟩) (some ⟨gn, 0, none⟩) none Am 14 10 0 mc V ⟨Nat.le_refl _, by decide, Nat.le_refl _, by decide, Nat.zero_le _, trivial, by rw [q1]; exact q2, q3, HD1.out.below k, HN1.out.below k, is_nil _ _, q4, q6⟩ vs (by unfold mvR; rw [if_pos (world_zero ar_ak q1 q5)]; exact hv) hl
        rw [q1] at this
        exact this.mono fun e w' hx => ten_of hl h9 hx)
      clear HD1 HN1
      go_region_held3 (fun V => ArE g (.slice (some ⟨gd, 0, none⟩) 14 14) (.slice (some ⟨gn, 0, none⟩) 10 10) (.slice none 0 0) V)
        ((first | (with_reducible exact KA.out _ DR.out) | (with_reducible exact KA.out _ F3.out) | (with_reducible exact KA.out _ F4.out)))
        (first
          | (go_at_call 8; refine (XW.out _ (bw_below (Nat.le_refl _) HB1.out DR.out)).mono ?_; rintro e w3 ⟨Am, mc, ms, rfl, hml, hm1, hm2, hms, hmg, hmw, hb3⟩; have F3 := Lib.hid (below_after DR.out hb3); have MS3 := hms; have MG3 := hmg; have MW3 := hmw; have HML := Lib.hid hml; clear hb3 hms hmg hmw hml)
          | (go_at_call 7; refine (XV.out _ Am mc ms F3.out HML.out hm1 hm2 MS3.out MG3.out MW3.out).mono ?_; rintro e w4 ⟨b4, c4, rfl, c9, l9, hb4⟩; have F4 := Lib.hid (below_after F3.out hb4); clear hb4))
      all_goals
        have B4 := Lib.hid (bw_below (Nat.le_refl _) HB1.out F4.out)
        clear XV XW KA DR HB1 HG1
        go_wp2_with fail
        go_ret
        exact ⟨rfl, B4.out⟩
  · exfalso
    rcases lt20 hi with rfl | rfl | rfl | rfl | rfl | rfl | rfl | rfl | rfl | rfl | rfl | rfl | rfl | rfl | rfl | rfl | rfl | rfl | rfl | rfl <;> exact absurd h (by decide)
end Go.Proofs.Ytibpgcdaommjeaa
