/-
  Values of nodes: a row of values that a call makes.
  Values of nodes: what the value of a node is, whole; mathematics of arrays.
  Values of nodes: the value of a node is of its sort.
  The reference's put to an array: mathematics.
  The reference's value of a node: what is known of where the cells of a value lie.
  The reference's value of a node: a choice.
  The reference: sums and products of two fractions.
-/
import Derived.Test.YtaodebpogibimaaGreatG10
import Derived.Test.YtaodebpogibimaaGreatG09
import Derived.Laws.BitsLemmas
import Derived.Test.YtaodebpogibimaaGreatRefO
import Derived.Test.YtaodebpogibimaaGreatRefK
namespace Go.Proofs.YtaodebpogibimaaGreat
open Go.RowKit

/-- A value's four cells; the third is the slice of its array's cells. -/
def vlV (p : Vl × Value) : List Value := [.int .i64 p.1.num, .int .i64 p.1.den, p.2, .int .i64 p.1.rest]
/-- A row of values of the call's own; each one's cells lie in a row of the call's own. -/
def VMk (B C : Nat) (sv : Value) (w : World) (ps : List (Vl × Value)) : Prop :=
  w.ownsRow B 47 4 sv ps.length (ps.flatMap vlV) ∧ ∀ p ∈ ps, w.ownsRow C 96 2 p.2 p.1.cells.length (csV p.1.cells)
theorem vm_nil (B C : Nat) (w : World) : VMk B C (.slice none 0 0) w [] := ⟨own_nil _ _ _ _, fun p hp => absurd hp (by simp)⟩
theorem VMk.below {B C : Nat} {sv : Value} {w w' : World} {ps : List (Vl × Value)} (h : VMk B C sv w ps) (k : Below w.heap.size w w') : VMk B C sv w' ps := ⟨own_below h.1 k, fun p hp => own_below (h.2 p hp) k⟩
theorem flat4 {ps : List (Vl × Value)} : ∀ {i j : Nat} {p : Vl × Value}, ps[i]? = some p → j < 4 → (ps.flatMap vlV)[i * 4 + j]? = (vlV p)[j]? := by
  induction ps with
  | nil => intro i j p h; cases h
  | cons q ps ih =>
    intro i j p h hj
    rw [List.flatMap_cons]
    have hl : (vlV q).length = 4 := rfl
    cases i with
    | zero =>
      simp at h
      subst h
      rw [Nat.zero_mul, Nat.zero_add, List.getElem?_append_left (by rw [hl]; exact hj)]
    | succ i =>
      simp at h
      rw [List.getElem?_append_right (by rw [hl]; omega), hl, show (i + 1) * 4 + j - 4 = i * 4 + j by omega]
      exact ih h hj
theorem own_cap2 {w : World} {base n c : Nat} {e : TypeId} {sz : Nat} {A : Option Addr} {xs : List Value} (h : w.ownsRow base e sz (.slice A n c) n xs) : n ≤ c ∧ c ≤ maxLen := by
  rcases h.2 with ⟨h0, h1⟩ | ⟨g, cap, cur, h0, _, _, hc, hm, _⟩
  · injection h0 with _ h2 h3
    subst h2 h3
    exact ⟨Nat.le_refl _, Nat.zero_le _⟩
  · injection h0 with _ _ h3
    subst h3
    exact ⟨hc, by omega⟩
/-- The row reads as values. -/
theorem vm_vs {B C c n : Nat} {A : Option Addr} {w : World} {ps : List (Vl × Value)} (h : VMk B C (.slice A n c) w ps) (hn : ps.length = n) : VsAt w A (ps.map (·.1)) := by
  obtain ⟨ho, hp⟩ := h
  rcases ho.2 with ⟨h0, h1⟩ | ⟨g, cap, cur, h0, hb, hh, hc, hm, hsz, htk⟩
  · intro z
    rw [List.length_map] at z
    omega
  · injection h0 with h0 _ _
    intro z
    refine ⟨g, 0, h0, HB.lt hh, fun i q hq => ?_⟩
    rw [List.getElem?_map] at hq
    obtain ⟨p, hpi, rfl⟩ := Option.map_eq_some_iff.1 hq
    have hi : i < ps.length := by
      rcases Nat.lt_or_ge i ps.length with y | y
      · exact y
      · rw [List.getElem?_eq_none y] at hpi; cases hpi
    have hcell : ∀ j u, j < 4 → (vlV p)[j]? = some u → w.cell? ⟨g, 0 + i * 4 + j, none⟩ = some u := fun j u hj hu => by
      have e1 := flat4 hpi hj
      rw [hu, ← htk, List.getElem?_take_of_lt (by omega)] at e1
      rw [show 0 + i * 4 + j = i * 4 + j by omega, cell_of_row w g (i * 4 + j) cur 47 (0, 0) hh]
      simpa using e1
    have hpm : p ∈ ps := List.mem_of_getElem? hpi
    have hown := hp p hpm
    obtain ⟨A', c', hpv⟩ := own_val hown
    have h2 := hcell 2 p.2 (by omega) rfl
    rw [hpv] at h2 hown
    exact ⟨hcell 0 _ (by omega) rfl, hcell 1 _ (by omega) rfl, hcell 3 _ (by omega) rfl, A', c', h2, (own_cap2 hown).1, (own_cap2 hown).2, own_cs hown rfl⟩
/-- One value more. -/
theorem vm_app {B C B2 : Nat} {sv sv' : Value} {w w' : World} {ps : List (Vl × Value)} {p : Vl × Value} (h : VMk B C sv w ps) (hp : w.ownsRow B2 96 2 p.2 p.1.cells.length (csV p.1.cells)) (hC : C ≤ B2)
    (ho : w'.ownsRow B 47 4 sv' (ps.length + 1) (ps.flatMap vlV ++ vlV p)) (hk : ∀ b t cs, some b ≠ sv.ownBlock → HB w b t cs → HB w' b t cs) : VMk B C sv' w' (ps ++ [p]) := by
  refine ⟨by rw [List.length_append, List.flatMap_append]; simpa using ho, fun q hq => ?_⟩
  rcases List.mem_append.1 hq with z | z
  · exact own_keep (h.2 q z) fun b cs hb hx => hk b 96 cs (own_ne2 (h.2 q z) h.1 (by decide) b hb) hx
  · rw [List.mem_singleton] at z
    subst z
    exact own_base (own_keep hp fun b cs hb hx => hk b 96 cs (own_ne2 hp h.1 (by decide) b hb) hx) hC
/-- Another row has grown. -/
theorem VMk.keep {B C : Nat} {sv kv : Value} {w w' : World} {ps : List (Vl × Value)} (h : VMk B C sv w ps) (hk : ∀ b t cs, some b ≠ kv.ownBlock → HB w b t cs → HB w' b t cs) (hs : ∀ b, some b = sv.ownBlock → some b ≠ kv.ownBlock) (hc : ∀ p ∈ ps, ∀ b, some b = p.2.ownBlock → some b ≠ kv.ownBlock) : VMk B C sv w' ps :=
  ⟨own_keep h.1 fun b cs hb hx => hk b _ cs (hs b hb) hx, fun p hp => own_keep (h.2 p hp) fun b cs hb hx => hk b _ cs (hc p hp b hb) hx⟩
theorem infoValue : (Tryz.prog.info? 47).map (fun i => (i.zero, i.size, i.bytes)) = some (some (.agg #[.int .i64 0, .int .i64 0, .slice none 0 0, .int .i64 0]), 4, 48) := by kernel_rfl
/-- The values of nodes one after another, or the first fault. -/
def valsE (ev : Nat → List Vl → Vl × Int) : Nat → Except (Int × Int) (List Vl)
  | 0 => .ok []
  | k + 1 => match valsE ev k with | .ok vs => if (ev k vs).2 = 0 then .ok (vs ++ [(ev k vs).1]) else .error ((ev k vs).2, (k : Int)) | .error e => .error e
theorem valsE_succ (ev : Nat → List Vl → Vl × Int) (k : Nat) : valsE ev (k + 1) = match valsE ev k with | .ok vs => if (ev k vs).2 = 0 then .ok (vs ++ [(ev k vs).1]) else .error ((ev k vs).2, (k : Int)) | .error e => .error e := rfl
theorem valsE_len {ev : Nat → List Vl → Vl × Int} : ∀ {k : Nat} {vs : List Vl}, valsE ev k = .ok vs → vs.length = k := by
  intro k
  induction k with
  | zero => intro vs h; injection h with h; subst h; rfl
  | succ k ih =>
    intro vs h
    rw [valsE_succ] at h
    cases hk : valsE ev k with
    | error e => rw [hk] at h; cases h
    | ok us =>
      rw [hk] at h
      dsimp only at h
      split at h
      · injection h with h
        subst h
        rw [List.length_append, ih hk]
        rfl
      · cases h
theorem valsE_step {ev : Nat → List Vl → Vl × Int} {k : Nat} {vs : List Vl} (h : valsE ev k = .ok vs) : valsE ev (k + 1) = if (ev k vs).2 = 0 then .ok (vs ++ [(ev k vs).1]) else .error ((ev k vs).2, (k : Int)) := by
  rw [valsE_succ, h]
theorem valsE_stop {ev : Nat → List Vl → Vl × Int} {k : Nat} {e : Int × Int} (h : valsE ev k = .error e) : ∀ n, k ≤ n → valsE ev n = .error e := by
  intro n hn
  induction n with
  | zero =>
    obtain rfl : k = 0 := by omega
    exact h
  | succ n ih =>
    rcases Nat.lt_or_ge n k with z | z
    · obtain rfl : k = n + 1 := by omega
      exact h
    · rw [valsE_succ, ih z]
theorem hp_drew (w : World) (k : Nat) : w.drew.heap[k]? = w.heap[k]? := rfl
theorem hp_set (w : World) (g i k : Nat) (v : Value) (h : k ≠ g) : (w.setCell ⟨g, i, none⟩ v).heap[k]? = w.heap[k]? := Below.heap_setCell w ⟨g, i, none⟩ v k h
theorem hp_alloc (w : World) (o : Obj) (k : Nat) (h : k < w.heap.size) : (w.alloc o).heap[k]? = w.heap[k]? := Below.heap_alloc w o k h
theorem sz_drew (w : World) : w.drew.heap.size = w.heap.size := rfl
theorem sz_set (w : World) (p : Addr) (v : Value) : (w.setCell p v).heap.size = w.heap.size := by simp [World.setCell]
theorem sz_alloc (w : World) (o : Obj) : (w.alloc o).heap.size = w.heap.size + 1 := by simp
end Go.Proofs.YtaodebpogibimaaGreat
namespace Go.Proofs.YtaodebpogibimaaGreat
open Go.RowKit

/-- Putting into an array. -/
def putF (v : Vl) (t u : Int) : Vl := ⟨0, 0, v.cells.filter (fun c => decide (c.1 < t)) ++ (if u = v.rest then [] else [(t, u)]) ++ v.cells.filter (fun c => decide (t < c.1)), v.rest⟩
/-- The value of a node by its kids' values, and its fault. -/
def evV (op sort N D : Int) (m : Mg) (kids : List Vl) : Vl × Int :=
  if op = 24 then (whV (getF (vn kids 0) (vn kids 1).num), 0) else if op = 25 then (putF (vn kids 0) (vn kids 1).num (vn kids 2).num, 0) else evF op sort N D m (numsOf kids)
/-- Cells in their form, said of each. -/
def GoodCs (rest last : Int) (cs : List (Int × Int)) : Prop := (∀ c ∈ cs, last < c.1 ∧ nTh c.1 = false ∧ nTh c.2 = false ∧ c.2 ≠ rest) ∧ cs.Pairwise (fun a b => a.1 < b.1)
theorem okcs_iff {rest : Int} {cs : List (Int × Int)} : ∀ {last : Int}, okCs rest last cs = true ↔ GoodCs rest last cs := by
  induction cs with
  | nil => intro last; simp [okCs, GoodCs]
  | cons c r ih =>
    intro last
    rw [okCs]
    simp only [Bool.and_eq_true, ih, Bool.not_eq_true', decide_eq_false_iff_not, beq_eq_false_iff_ne, ne_eq]
    constructor
    · rintro ⟨⟨⟨⟨h1, h2⟩, h3⟩, h4⟩, h5, h6⟩
      refine ⟨fun x hx => ?_, List.pairwise_cons.2 ⟨fun x hx => (h5 x hx).1, h6⟩⟩
      rcases List.mem_cons.1 hx with rfl | hx
      · exact ⟨by omega, h2, h3, h4⟩
      · have := h5 x hx
        exact ⟨by omega, this.2⟩
    · rintro ⟨h1, h2⟩
      rw [List.pairwise_cons] at h2
      have h3 := h1 c (List.mem_cons_self ..)
      exact ⟨⟨⟨⟨by omega, h3.2.1⟩, h3.2.2.1⟩, h3.2.2.2⟩, fun x hx => ⟨h2.1 x hx, (h1 x (List.mem_cons_of_mem _ hx)).2⟩, h2.2⟩
theorem nth_no {z : Int} : nTh z = false ↔ 0 ≤ z ∧ z ≤ 1000 := by
  unfold nTh
  rw [Bool.or_eq_false_iff, decide_eq_false_iff_not, decide_eq_false_iff_not]
  omega
theorem pw_len {cs : List (Int × Int)} : ∀ {lo : Int}, cs.Pairwise (fun a b => a.1 < b.1) → (∀ c ∈ cs, lo ≤ c.1 ∧ c.1 ≤ 1000) → lo ≤ 1001 → (cs.length : Int) ≤ 1001 - lo := by
  induction cs with
  | nil => intro lo _ _ h; simp; omega
  | cons c r ih =>
    intro lo h1 h2 h3
    rw [List.pairwise_cons] at h1
    have h4 := h2 c (List.mem_cons_self ..)
    have := ih (lo := c.1 + 1) h1.2 (fun x hx => ⟨by have := h1.1 x hx; omega, (h2 x (List.mem_cons_of_mem _ hx)).2⟩) (by omega)
    rw [List.length_cons]
    omega
theorem good_len {rest last : Int} {cs : List (Int × Int)} (h : GoodCs rest last cs) : cs.length ≤ 1001 := by
  have := pw_len (lo := 0) h.2 (fun c hc => by have := nth_no.1 (h.1 c hc).2.1; exact this) (by omega)
  omega
theorem good_srt {rest last : Int} {cs : List (Int × Int)} (h : GoodCs rest last cs) : Srt cs := by
  intro i j hij hj
  have := List.pairwise_iff_getElem.1 h.2 i j (by omega) hj hij
  rw [cn_of (show i < cs.length by omega), cn_of hj]
  exact this
theorem gdv5 {v : Vl} : gdV 5 v = true ↔ v.num = 0 ∧ v.den = 0 ∧ nTh v.rest = false ∧ GoodCs v.rest (-1) v.cells := by
  rw [gdv_5, Bool.and_eq_true, Bool.and_eq_true, Bool.and_eq_true, okcs_iff, beq_iff_eq, beq_iff_eq, Bool.not_eq_true']
  constructor
  · rintro ⟨⟨⟨a, b⟩, c⟩, d⟩; exact ⟨a, b, c, d⟩
  · rintro ⟨a, b, c, d⟩; exact ⟨⟨⟨a, b⟩, c⟩, d⟩
theorem gdv_w {s : Int} {v : Vl} (hs : s ≠ 5) : gdV s v = true ↔ v.cells = [] ∧ v.rest = 0 ∧ gdN s v.num v.den = true := by
  unfold gdV
  rw [if_neg hs, Bool.and_eq_true, Bool.and_eq_true, List.isEmpty_iff, beq_iff_eq]
  constructor
  · rintro ⟨⟨a, b⟩, c⟩; exact ⟨a, b, c⟩
  · rintro ⟨a, b, c⟩; exact ⟨⟨a, b⟩, c⟩
theorem gdn_iff {s n d : Int} : gdN s n d = true ↔ fvalid n d = true ∧ (s = 3 ∨ (d = 1 ∧ (s = 2 ∨ (0 ≤ n ∧ n ≤ grt s)))) := by
  unfold gdN
  simp only [Bool.and_eq_true, Bool.or_eq_true, beq_iff_eq, decide_eq_true_eq]
theorem fvalid_whole {n : Int} (h1 : -1073741824 ≤ n) (h2 : n ≤ 1073741824) : fvalid n 1 = true := by
  unfold fvalid
  rw [decide_eq_true_eq]
  refine ⟨by omega, by omega, by omega, by omega, ?_⟩
  have : mag 1 = 1 := by decide
  rw [this, Nat.gcd_one_right]
/-- The cells ahead of a thing, and behind it. -/
theorem filt_at {cs : List (Int × Int)} {t : Int} {i : Nat} (h : AtI cs t i) (hs : Srt cs) : cs.filter (fun c => decide (c.1 < t)) = cs.take i ∧
    cs.filter (fun c => decide (t < c.1)) = cs.drop (if (decide (i < cs.length) && (cn cs i).1 == t) = true then i + 1 else i) := by
  obtain ⟨h1, h2, h3⟩ := h
  have ht : ∀ x ∈ cs.take i, x.1 < t := fun x hx => by
    obtain ⟨j, hj, rfl⟩ := List.getElem_of_mem hx
    rw [List.length_take] at hj
    rw [List.getElem_take]
    have := h2 j (by omega)
    rw [cn_of (by omega)] at this
    exact this
  have hd : ∀ x ∈ cs.drop i, t ≤ x.1 := fun x hx => by
    obtain ⟨j, hj, rfl⟩ := List.getElem_of_mem hx
    rw [List.length_drop] at hj
    rw [List.getElem_drop]
    have := h3 (i + j) (by omega) (by omega)
    rw [cn_of (by omega)] at this
    exact this
  have e : cs = cs.take i ++ cs.drop i := (List.take_append_drop i cs).symm
  constructor
  · conv => lhs; rw [e]
    rw [List.filter_append, List.filter_eq_self.2 (fun x hx => by simpa using ht x hx), List.filter_eq_nil_iff.2 (fun x hx => by have := hd x hx; simp; omega), List.append_nil]
  · conv => lhs; rw [e]
    rw [List.filter_append, List.filter_eq_nil_iff.2 (fun x hx => by have := ht x hx; simp; omega), List.nil_append]
    by_cases z : i < cs.length ∧ (cn cs i).1 = t
    · rw [if_pos (by simpa using z), drop_cn z.1, List.filter_cons_of_neg (by simp [z.2])]
      refine List.filter_eq_self.2 (fun x hx => ?_)
      obtain ⟨j, hj, rfl⟩ := List.getElem_of_mem hx
      rw [List.length_drop] at hj
      rw [List.getElem_drop]
      have := hs i (i + 1 + j) (by omega) (by omega)
      rw [cn_of (by omega : i + 1 + j < cs.length)] at this
      simp
      omega
    · rw [if_neg (by simpa using z)]
      refine List.filter_eq_self.2 (fun x hx => ?_)
      obtain ⟨j, hj, rfl⟩ := List.getElem_of_mem hx
      rw [List.length_drop] at hj
      rw [List.getElem_drop]
      have a := h3 (i + j) (by omega) (by omega)
      rcases Nat.eq_zero_or_pos j with rfl | z2
      · have : (cn cs i).1 ≠ t := fun q => z ⟨by omega, q⟩
        rw [cn_of (by omega : i + 0 < cs.length)] at a
        rw [cn_of (by omega : i < cs.length)] at this
        simp only [Nat.add_zero] at a ⊢
        simp
        omega
      · have b := hs i (i + j) (by omega) (by omega)
        have c := h3 i (Nat.le_refl _) (by omega)
        rw [cn_of (by omega : i + j < cs.length)] at b
        simp
        omega
theorem put_good {v : Vl} {t u : Int} (h : gdV 5 v = true) (ht : nTh t = false) (hu : nTh u = false) : gdV 5 (putF v t u) = true := by
  obtain ⟨_, _, h3, h4, h5⟩ := gdv5.1 h
  refine gdv5.2 ⟨rfl, rfl, h3, ?_⟩
  have t0 := nth_no.1 ht
  show GoodCs v.rest (-1) (v.cells.filter (fun c => decide (c.1 < t)) ++ (if u = v.rest then [] else [(t, u)]) ++ v.cells.filter (fun c => decide (t < c.1)))
  have hm : ∀ x ∈ (if u = v.rest then [] else [(t, u)]), x = (t, u) ∧ u ≠ v.rest := fun x hx => by
    split at hx
    · cases hx
    · rename_i z
      exact ⟨by simpa using hx, z⟩
  constructor
  · intro c hc
    rw [List.mem_append, List.mem_append] at hc
    rcases hc with (hc | hc) | hc
    · exact h4 c (List.mem_filter.1 hc).1
    · obtain ⟨rfl, z⟩ := hm c hc
      exact ⟨by dsimp only; omega, ht, hu, z⟩
    · exact h4 c (List.mem_filter.1 hc).1
  · rw [List.pairwise_append, List.pairwise_append]
    refine ⟨⟨h5.filter _, ?_, fun a ha b hb => ?_⟩, h5.filter _, fun a ha b hb => ?_⟩
    · split
      · exact List.Pairwise.nil
      · exact List.pairwise_singleton _ _
    · obtain ⟨rfl, _⟩ := hm b hb
      simpa using (List.mem_filter.1 ha).2
    · have hb2 : t < b.1 := by simpa using (List.mem_filter.1 hb).2
      rcases List.mem_append.1 ha with ha | ha
      · have : a.1 < t := by simpa using (List.mem_filter.1 ha).2
        omega
      · obtain ⟨rfl, _⟩ := hm a ha
        exact hb2
theorem get_good {v : Vl} {t : Int} (h : gdV 5 v = true) : nTh (getF v t) = false := by
  obtain ⟨_, _, h3, h4, _⟩ := gdv5.1 h
  unfold getF
  split
  · rename_i c hc
    exact (h4 c (List.mem_of_find?_eq_some hc)).2.2.1
  · exact h3
end Go.Proofs.YtaodebpogibimaaGreat
namespace Go.Proofs.YtaodebpogibimaaGreat
open Go.RowKit

theorem cn_nums (kids : List Vl) (j : Nat) : cn (numsOf kids) j = ((vn kids j).num, (vn kids j).den) := by
  unfold cn numsOf vn
  rw [List.getD_eq_getElem?_getD, List.getD_eq_getElem?_getD, List.getElem?_map]
  cases kids[j]? with
  | none => rfl
  | some v => rfl
theorem whn_ne {b : Bool} {s : Int} (h : whn b s ≠ 0) : b = true ∧ whn b s = s := by
  cases b with
  | true => exact ⟨rfl, rfl⟩
  | false => exact absurd rfl h
theorem gd_fr {s : Int} {v : Vl} (hs : s ≠ 5) (h : gdV s v = true) : fvalid v.num v.den = true := (gdn_iff.1 ((gdv_w hs).1 h).2.2).1
theorem all_nth {p : Int → Bool} {ks : List Int} (h : ks.all p = true) {j : Nat} (hj : j < ks.length) : p (nth ks j) = true := by
  rw [List.all_eq_true] at h
  rw [nth_of hj]
  exact h _ (List.getElem_mem hj)
theorem sw_all {ks : List Int} (h : sSw ks = true) : sWd (nth ks 0) = true ∧ ∀ j, j < ks.length → nth ks j = nth ks 0 := by
  unfold sSw at h
  rw [Bool.and_eq_true] at h
  exact ⟨h.1, fun j hj => by simpa using all_nth h.2 hj⟩
theorem swdV_iff {s : Int} : sWd s = true ↔ 11 ≤ s ∧ s ≤ 18 := by
  unfold sWd
  rw [Bool.and_eq_true, decide_eq_true_eq, decide_eq_true_eq]
  omega
theorem snuV_iff {s : Int} : sNu s = true ↔ s = 2 ∨ s = 3 := by
  unfold sNu
  rw [Bool.or_eq_true, beq_iff_eq, beq_iff_eq]
/-- A word's number. -/
theorem gd_word {s : Int} {v : Vl} (hs : 11 ≤ s ∧ s ≤ 18) (h : gdV s v = true) : v.den = 1 ∧ 0 ≤ v.num ∧ v.num < mds s ∧ v.cells = [] ∧ v.rest = 0 := by
  obtain ⟨h1, h2, h3⟩ := (gdv_w (by omega)).1 h
  obtain ⟨_, h4⟩ := gdn_iff.1 h3
  have e : grt s = mds s - 1 := by unfold grt; rw [if_neg (by omega), if_neg (by omega)]
  rcases h4 with h4 | ⟨h5, h4 | h4⟩
  · omega
  · omega
  · rw [e] at h4
    exact ⟨h5, h4.1, by omega, h1, h2⟩
theorem word_gd {s n : Int} (hs : 11 ≤ s ∧ s ≤ 18) (h1 : 0 ≤ n) (h2 : n < mds s) : gdV s (whV n) = true := by
  have e : grt s = mds s - 1 := by unfold grt; rw [if_neg (by omega), if_neg (by omega)]
  have b : mds s ≤ 256 := by rcases mds_cases hs with ⟨_, h⟩ | ⟨_, h⟩ | ⟨_, h⟩ | ⟨_, h⟩ | ⟨_, h⟩ | ⟨_, h⟩ | ⟨_, h⟩ | ⟨_, h⟩ <;> omega
  exact (gdv_w (by omega)).2 ⟨rfl, rfl, gdn_iff.2 ⟨(show fvalid n 1 = true from fvalid_whole (by omega) (by omega)), .inr ⟨rfl, .inr ⟨h1, (show n ≤ grt s by rw [e]; omega)⟩⟩⟩⟩
theorem bool_gd (b : Bool) : gdV 1 (whV (if b then 1 else 0)) = true := by cases b <;> decide
theorem thing_gd {n : Int} (h : nTh n = false) : gdV 4 (whV n) = true := by
  have := nth_no.1 h
  exact (gdv_w (by decide)).2 ⟨rfl, rfl, gdn_iff.2 ⟨(show fvalid n 1 = true from fvalid_whole (by omega) (by omega)), .inr ⟨rfl, .inr ⟨this.1, by show n ≤ 1000; exact this.2⟩⟩⟩⟩
theorem gd_thing {v : Vl} (h : gdV 4 v = true) : nTh v.num = false := by
  obtain ⟨h1, h2, h3⟩ := (gdv_w (by decide)).1 h
  obtain ⟨_, h4⟩ := gdn_iff.1 h3
  rcases h4 with h4 | ⟨h5, h4 | h4⟩
  · omega
  · omega
  · exact nth_no.2 ⟨h4.1, h4.2⟩
theorem nat_rng {m : Int} {s : Int} (hs : 11 ≤ s ∧ s ≤ 18) (hm : m = mds s) : ∃ k : Nat, k ≤ 8 ∧ m = ((2 ^ k : Nat) : Int) := by
  subst hm
  rcases mds_cases hs with ⟨_, h⟩ | ⟨_, h⟩ | ⟨_, h⟩ | ⟨_, h⟩ | ⟨_, h⟩ | ⟨_, h⟩ | ⟨_, h⟩ | ⟨_, h⟩ <;> rw [h]
  · exact ⟨1, by omega, rfl⟩
  · exact ⟨2, by omega, rfl⟩
  · exact ⟨3, by omega, rfl⟩
  · exact ⟨4, by omega, rfl⟩
  · exact ⟨5, by omega, rfl⟩
  · exact ⟨6, by omega, rfl⟩
  · exact ⟨7, by omega, rfl⟩
  · exact ⟨8, by omega, rfl⟩
theorem bits_xor_nat (a b : Nat) (ha : a < 2 ^ 8) (hb : b < 2 ^ 8) : bits .xor .i64 a b = ((a ^^^ b : Nat) : Int) := by
  have ha' : a % 2 ^ IntKind.i64.bits = a := Nat.mod_eq_of_lt (Nat.lt_of_lt_of_le ha (by decide))
  have hb' : b % 2 ^ IntKind.i64.bits = b := Nat.mod_eq_of_lt (Nat.lt_of_lt_of_le hb (by decide))
  have hx : a ^^^ b < 2 ^ 8 := Nat.xor_lt_two_pow ha hb
  simp only [bits, BitVec.ofInt_natCast, BitVec.toNat_xor, BitVec.toNat_ofNat, ha', hb']
  rw [IntKind.wrap_i64]
  omega
theorem bits_rng {x y m s : Int} (hs : 11 ≤ s ∧ s ≤ 18) (hm : m = mds s) (x0 : 0 ≤ x) (x1 : x < m) (y0 : 0 ≤ y) (y1 : y < m) :
    (0 ≤ bits .and .i64 x y ∧ bits .and .i64 x y < m) ∧ (0 ≤ bits .or .i64 x y ∧ bits .or .i64 x y < m) ∧ (0 ≤ bits .xor .i64 x y ∧ bits .xor .i64 x y < m) := by
  obtain ⟨k, hk, rfl⟩ := nat_rng hs hm
  obtain ⟨a, rfl⟩ := Int.eq_ofNat_of_zero_le x0
  obtain ⟨b, rfl⟩ := Int.eq_ofNat_of_zero_le y0
  have ha : a < 2 ^ k := by exact_mod_cast x1
  have hb : b < 2 ^ k := by exact_mod_cast y1
  have h8 : 2 ^ k ≤ 2 ^ 8 := Nat.pow_le_pow_right (by decide) hk
  obtain ⟨e1, e2⟩ := bits_nat .i64 8 (by decide) (fun n h0 h1 => by rw [IntKind.wrap_i64]; omega) a b (by omega) (by omega)
  have e3 := bits_xor_nat a b (by omega) (by omega)
  rw [e1, e2, e3]
  have l1 := Nat.and_lt_two_pow a hb
  have l2 := Nat.or_lt_two_pow ha hb
  have l3 := Nat.xor_lt_two_pow ha hb
  refine ⟨⟨by omega, by exact_mod_cast l1⟩, ⟨by omega, by exact_mod_cast l2⟩, ⟨by omega, by exact_mod_cast l3⟩⟩
/-- A whole sum stays whole. -/
theorem made_one {x : Int} (hc : madeC x 1 = 0) : madeD x 1 = 1 ∧ madeN x 1 = x := by
  obtain ⟨h1, h2⟩ := made_spec (num := x) (den := 1) (by decide) hc
  obtain ⟨d1, d2, n1, n2, hg⟩ := fvalid_bd h1
  rw [Int.mul_one] at h2
  have e : mag (madeD x 1) ∣ mag (madeN x 1) := by
    rw [h2]
    unfold mag
    rw [Int.natAbs_mul]
    exact Nat.dvd_mul_left _ _
  have e2 : mag (madeD x 1) = 1 := by
    rw [Nat.gcd_comm, Nat.gcd_eq_left e] at hg
    exact hg
  have e3 : madeD x 1 = 1 := by unfold mag at e2; omega
  rw [e3, Int.mul_one] at h2
  exact ⟨e3, h2⟩
theorem den_ne {p q : Int × Int} (hp : fvalid p.1 p.2 = true) (hq : fvalid q.1 q.2 = true) : p.2 * q.2 ≠ 0 := by
  obtain ⟨a, _⟩ := fvalid_bd hp
  obtain ⟨b, _⟩ := fvalid_bd hq
  exact Int.mul_ne_zero (by omega) (by omega)
theorem sumL_good {fs : List (Int × Int)} : ∀ {p : Int × Int}, fvalid p.1 p.2 = true → (∀ q ∈ fs, fvalid q.1 q.2 = true) → (sumL p fs).2 = 0 → fvalid (sumL p fs).1.1 (sumL p fs).1.2 = true ∧ (p.2 = 1 → (∀ q ∈ fs, q.2 = 1) → (sumL p fs).1.2 = 1) := by
  induction fs with
  | nil => intro p hp _ _; exact ⟨hp, fun h _ => h⟩
  | cons q r ih =>
    intro p hp hq h0
    have hq1 := hq q (List.mem_cons_self ..)
    have hne := den_ne hp hq1
    rw [sumL] at h0 ⊢
    by_cases hc : madeC (p.1 * q.2 + q.1 * p.2) (p.2 * q.2) = 0
    · rw [if_pos hc] at h0 ⊢
      obtain ⟨a, b⟩ := ih (made_spec hne hc).1 (fun x hx => hq x (List.mem_cons_of_mem _ hx)) h0
      refine ⟨a, fun z1 z2 => b ?_ (fun x hx => z2 x (List.mem_cons_of_mem _ hx))⟩
      have := z2 q (List.mem_cons_self ..)
      dsimp only
      rw [z1, this, Int.mul_one] at hc ⊢
      exact (made_one hc).1
    · rw [if_neg hc] at h0
      exact absurd h0 (by decide)
/-- What is known of a node whose kids have their values. -/
structure Nk (op n d ds : Int) (ks : List Int) (kids : List Vl) : Prop where
  lo : 1 ≤ op
  hi : op ≤ 25
  len : kids.length = ks.length
  good : ∀ j, j < ks.length → gdV (nth ks j) (vn kids j) = true
  sort : srt op d ds ks ≠ 0
  kc : op ≠ 9 → kcN op ≠ -1 → (ks.length : Int) = kcN op
  fl : flC op n d true = 0 ∨ flC op n d false = 0
theorem fl_num {op n d : Int} {e : Bool} (h : flC op n d e = 0) (ho : op = 10 ∨ op = 12) : isFr n d = true := by
  unfold flC at h
  cases hf : isFr n d with
  | true => rfl
  | false =>
    rw [hf] at h
    split at h
    · exact absurd h (by decide)
    · split at h
      · exact absurd h (by decide)
      · split at h
        · exact absurd h (by decide)
        · rw [if_pos ⟨ho, rfl⟩] at h
          exact absurd h (by decide)
theorem fl_left {op n d : Int} {e : Bool} (h : flC op n d e = 0) (ho : op = 23) : 0 ≤ n ∧ n ≤ 8 := by
  subst ho
  unfold flC at h
  by_cases z : n < 0 ∨ 8 < n
  · split at h
    · exact absurd h (by decide)
    · split at h
      · exact absurd h (by decide)
      · split at h
        · exact absurd h (by decide)
        · split at h
          · exact absurd h (by decide)
          · split at h
            · exact absurd h (by decide)
            · rw [if_pos ⟨rfl, z⟩] at h
              exact absurd h (by decide)
  · omega
theorem Nk.num {op n d ds : Int} {ks : List Int} {kids : List Vl} (h : Nk op n d ds ks kids) (ho : op = 10 ∨ op = 12) : isFr n d = true := by
  rcases h.fl with z | z <;> exact fl_num z ho
theorem Nk.left {op n d ds : Int} {ks : List Int} {kids : List Vl} (h : Nk op n d ds ks kids) (ho : op = 23) : 0 ≤ n ∧ n ≤ 8 := by
  rcases h.fl with z | z <;> exact fl_left z ho
theorem Nk.word {op n d ds : Int} {ks : List Int} {kids : List Vl} (h : Nk op n d ds ks kids) (ho : op = 15) : 1 ≤ d ∧ d ≤ 8 ∧ 0 ≤ n ∧ n < 2 ^ d.toNat := by
  rcases h.fl with z | z <;> exact fl_word z ho
theorem isfr_val {n d : Int} (h : isFr n d = true) : fvalid n d = true := by
  have h' := h
  unfold isFr at h'
  rw [decide_eq_true_eq] at h'
  rw [isfr_valid h'.1 h'.2.1 h'.2.2.2.1]
  exact h
/-- The words of a word's node. -/
theorem Nk.words {op n d ds : Int} {ks : List Int} {kids : List Vl} (h : Nk op n d ds ks kids) (hs : sSw ks = true) : (11 ≤ nth ks 0 ∧ nth ks 0 ≤ 18) ∧ ∀ j, j < kids.length → (vn kids j).den = 1 ∧ 0 ≤ (vn kids j).num ∧ (vn kids j).num < mds (nth ks 0) := by
  obtain ⟨a, b⟩ := sw_all hs
  have a' := swdV_iff.1 a
  refine ⟨a', fun j hj => ?_⟩
  rw [h.len] at hj
  have := gd_word (by rw [b j hj]; exact a') (h.good j hj)
  rw [b j hj] at this
  exact ⟨this.1, this.2.1, this.2.2.1⟩
/-- The fractions of a number's node. -/
theorem Nk.nums {op n d ds : Int} {ks : List Int} {kids : List Vl} (h : Nk op n d ds ks kids) (hs : ks.all sNu = true) (j : Nat) (hj : j < kids.length) : fvalid (vn kids j).num (vn kids j).den = true := by
  rw [h.len] at hj
  have a := snuV_iff.1 (all_nth hs hj)
  exact gd_fr (by omega) (h.good j hj)
theorem gd_int {v : Vl} (h : gdV 2 v = true) : v.den = 1 := by
  obtain ⟨_, _, h3⟩ := (gdv_w (by decide)).1 h
  obtain ⟨_, h4⟩ := gdn_iff.1 h3
  rcases h4 with h4 | ⟨h5, _⟩
  · omega
  · exact h5
theorem num_gd {n d : Int} (h : fvalid n d = true) (s : Int) (hs : s = 3 ∨ (s = 2 ∧ d = 1)) : gdV s (frVl (n, d)) = true := by
  rcases hs with rfl | ⟨rfl, rfl⟩
  · exact (gdv_w (by decide)).2 ⟨rfl, rfl, gdn_iff.2 ⟨h, .inl rfl⟩⟩
  · exact (gdv_w (by decide)).2 ⟨rfl, rfl, gdn_iff.2 ⟨h, .inr ⟨rfl, .inl rfl⟩⟩⟩
theorem nums_sort (op d : Int) (ks : List Int) : numS op d ks = 3 ∨ (numS op d ks = 2 ∧ (op = 11 ∨ d = 1) ∧ ks.all sIn = true) := by
  unfold numS
  by_cases z : (op ≠ 11 ∧ d ≠ 1) ∨ ks.all sIn = false
  · exact .inl (if_pos z)
  · right
    rw [if_neg z]
    refine ⟨rfl, ?_, ?_⟩
    · omega
    · cases q : ks.all sIn with
      | true => rfl
      | false => exact absurd (.inr q) z
theorem op_cases6 {op : Int} (h1 : 1 ≤ op) (h2 : op ≤ 25) : (op = 1 ∨ op = 2 ∨ op = 3 ∨ op = 4 ∨ op = 5 ∨ op = 6 ∨ op = 8 ∨ op = 13 ∨ op = 14 ∨ op = 22) ∨ op = 7 ∨ op = 9 ∨ (op = 10 ∨ op = 11 ∨ op = 12) ∨ (op = 15 ∨ op = 16 ∨ op = 17 ∨ op = 18 ∨ op = 19 ∨ op = 20 ∨ op = 21 ∨ op = 23) ∨ op = 24 ∨ op = 25 := by omega
theorem evv_tru {op sort N D : Int} {m : Mg} {kids : List Vl} (h : op = 1 ∨ op = 2 ∨ op = 3 ∨ op = 4 ∨ op = 5 ∨ op = 6 ∨ op = 8 ∨ op = 13 ∨ op = 14 ∨ op = 22) (hs : sort = 1) : evV op sort N D m kids = (whV (if truF op (numsOf kids) then 1 else 0), 0) := by
  unfold evV evF
  rw [if_neg (by omega), if_neg (by omega), if_neg (by omega), if_neg (by omega), if_neg (by omega), if_pos hs]
theorem evv_num {op sort N D : Int} {m : Mg} {kids : List Vl} (h : op = 10 ∨ op = 11 ∨ op = 12) : evV op sort N D m kids = (frVl (numF op N D (numsOf kids)).1, (numF op N D (numsOf kids)).2) := by
  unfold evV evF
  rw [if_neg (by omega), if_neg (by omega), if_neg (by omega), if_neg (by omega), if_pos h]
theorem evv_wrd {op sort N D : Int} {m : Mg} {kids : List Vl} (h : op = 15 ∨ op = 16 ∨ op = 17 ∨ op = 18 ∨ op = 19 ∨ op = 20 ∨ op = 21 ∨ op = 23) (hs : sort ≠ 1) : evV op sort N D m kids = (whV (wrdF op N (mds sort) (numsOf kids)), 0) := by
  unfold evV evF
  rw [if_neg (by omega), if_neg (by omega), if_neg (by omega), if_neg (by omega), if_neg (by omega), if_neg hs]
theorem evv_7 {sort N D : Int} {m : Mg} {kids : List Vl} : evV 7 sort N D m kids = (frVl (pickF (numsOf kids)), 0) := rfl
theorem evv_9 {sort N D : Int} {m : Mg} {kids : List Vl} : evV 9 sort N D m kids = (tolF m (numsOf kids), 0) := rfl
theorem evv_24 {sort N D : Int} {m : Mg} {kids : List Vl} : evV 24 sort N D m kids = (whV (getF (vn kids 0) (vn kids 1).num), 0) := rfl
theorem evv_25 {sort N D : Int} {m : Mg} {kids : List Vl} : evV 25 sort N D m kids = (putF (vn kids 0) (vn kids 1).num (vn kids 2).num, 0) := rfl
/-- The sort of each operator's node. -/
theorem srt_tru {op d ds : Int} {ks : List Int} (h : op = 1 ∨ op = 2 ∨ op = 3 ∨ op = 4 ∨ op = 5 ∨ op = 6 ∨ op = 8 ∨ op = 13 ∨ op = 14 ∨ op = 22) (hs : srt op d ds ks ≠ 0) : srt op d ds ks = 1 ∧ (op = 13 ∨ op = 14 → ks.all sNu = true) ∧ (op = 22 → sSw ks = true) := by
  rcases h with rfl | rfl | rfl | rfl | rfl | rfl | rfl | rfl | rfl | rfl
  · exact ⟨(whn_ne hs).2, by omega, by omega⟩
  · exact ⟨(whn_ne hs).2, by omega, by omega⟩
  · exact ⟨(whn_ne hs).2, by omega, by omega⟩
  · exact ⟨(whn_ne hs).2, by omega, by omega⟩
  · exact ⟨(whn_ne hs).2, by omega, by omega⟩
  · exact ⟨(whn_ne hs).2, by omega, by omega⟩
  · exact ⟨(whn_ne hs).2, by omega, by omega⟩
  · exact ⟨(whn_ne hs).2, fun _ => (whn_ne hs).1, by omega⟩
  · exact ⟨(whn_ne hs).2, fun _ => (whn_ne hs).1, by omega⟩
  · exact ⟨(whn_ne hs).2, by omega, fun _ => (whn_ne hs).1⟩
theorem srt_wrd {op d ds : Int} {ks : List Int} (h : op = 16 ∨ op = 17 ∨ op = 18 ∨ op = 19 ∨ op = 20 ∨ op = 21 ∨ op = 23) (hs : srt op d ds ks ≠ 0) : srt op d ds ks = nth ks 0 ∧ sSw ks = true := by
  rcases h with rfl | rfl | rfl | rfl | rfl | rfl | rfl <;> exact ⟨(whn_ne hs).2, (whn_ne hs).1⟩
theorem srt_num {op d ds : Int} {ks : List Int} (h : op = 10 ∨ op = 11 ∨ op = 12) (hs : srt op d ds ks ≠ 0) : srt op d ds ks = numS op d ks ∧ ks.all sNu = true := by
  rcases h with rfl | rfl | rfl <;> exact ⟨(whn_ne hs).2, (whn_ne hs).1⟩
theorem srt_7 {d ds : Int} {ks : List Int} (hs : srt 7 d ds ks ≠ 0) : srt 7 d ds ks = nth ks 1 ∧ nth ks 2 = nth ks 1 ∧ nth ks 1 ≠ 5 := by
  have a := (whn_ne hs).1
  simp only [Bool.and_eq_true, beq_iff_eq, bne_iff_ne, ne_eq] at a
  exact ⟨(whn_ne hs).2, a.1.2.symm, a.2⟩
theorem srt_24 {d ds : Int} {ks : List Int} (hs : srt 24 d ds ks ≠ 0) : srt 24 d ds ks = 4 ∧ nth ks 0 = 5 ∧ nth ks 1 = 4 := by
  have a := (whn_ne hs).1
  unfold sTh at a
  simp only [Bool.and_eq_true, beq_iff_eq] at a
  exact ⟨(whn_ne hs).2, a.1, a.2⟩
theorem srt_25 {d ds : Int} {ks : List Int} (hs : srt 25 d ds ks ≠ 0) : srt 25 d ds ks = 5 ∧ nth ks 0 = 5 ∧ nth ks 1 = 4 ∧ nth ks 2 = 4 := by
  have a := (whn_ne hs).1
  unfold sTh at a
  simp only [Bool.and_eq_true, beq_iff_eq] at a
  exact ⟨(whn_ne hs).2, a.1, a.2.1, a.2.2⟩
theorem mds_big {s : Int} (hs : 11 ≤ s ∧ s ≤ 18) : 2 ≤ mds s ∧ mds s ≤ 256 := by
  rcases mds_cases hs with ⟨_, h⟩ | ⟨_, h⟩ | ⟨_, h⟩ | ⟨_, h⟩ | ⟨_, h⟩ | ⟨_, h⟩ | ⟨_, h⟩ | ⟨_, h⟩ <;> omega
theorem wrd_rng {op N m s : Int} {fs : List (Int × Int)} (h : op = 16 ∨ op = 17 ∨ op = 18 ∨ op = 19 ∨ op = 20 ∨ op = 21 ∨ op = 23) (hs : 11 ≤ s ∧ s ≤ 18) (hm : m = mds s) (x0 : 0 ≤ (cn fs 0).1) (x1 : (cn fs 0).1 < m) (hy : op ≠ 16 → op ≠ 23 → 0 ≤ (cn fs 1).1 ∧ (cn fs 1).1 < m) : 0 ≤ wrdF op N m fs ∧ wrdF op N m fs < m := by
  have hm2 := mds_big hs
  rw [← hm] at hm2
  rcases h with rfl | rfl | rfl | rfl | rfl | rfl | rfl
  · show 0 ≤ m - 1 - (cn fs 0).1 ∧ m - 1 - (cn fs 0).1 < m
    omega
  · obtain ⟨y0, y1⟩ := hy (by decide) (by decide)
    exact (bits_rng hs hm x0 x1 y0 y1).1
  · obtain ⟨y0, y1⟩ := hy (by decide) (by decide)
    exact (bits_rng hs hm x0 x1 y0 y1).2.1
  · obtain ⟨y0, y1⟩ := hy (by decide) (by decide)
    exact (bits_rng hs hm x0 x1 y0 y1).2.2
  · exact ⟨Int.emod_nonneg _ (by omega), Int.emod_lt_of_pos _ (by omega)⟩
  · exact ⟨Int.emod_nonneg _ (by omega), Int.emod_lt_of_pos _ (by omega)⟩
  · exact ⟨Int.emod_nonneg _ (by omega), Int.emod_lt_of_pos _ (by omega)⟩
/-- What a meaning tells is of its sort. -/
theorem tol_good {ds : Int} {m : Mg} {fs : List (Int × Int)} (h1 : gdV ds m.rest = true) (h2 : ∀ x ∈ m.rows, gdV ds x.too = true) : gdV ds (tolF m fs) = true := by
  unfold tolF
  split
  · rename_i x hx
    exact h2 x (List.mem_of_find?_eq_some hx)
  · exact h1
theorem evv_good {op n d ds : Int} {ks : List Int} {kids : List Vl} {m : Mg} (h : Nk op n d ds ks kids) (hm : op = 9 → gdV ds m.rest = true ∧ ∀ x ∈ m.rows, gdV ds x.too = true) (h0 : (evV op (srt op d ds ks) n d m kids).2 = 0) :
    gdV (srt op d ds ks) (evV op (srt op d ds ks) n d m kids).1 = true := by
  have hs := h.sort
  have hkc := h.kc
  have hlen := h.len
  rcases op_cases6 h.lo h.hi with ho | rfl | rfl | ho | ho | rfl | rfl
  · rw [evv_tru ho (srt_tru ho hs).1, (srt_tru ho hs).1]
    exact bool_gd _
  · obtain ⟨e1, e2, e3⟩ := srt_7 hs
    have hl : (ks.length : Int) = 3 := hkc (by decide) (by decide)
    rw [evv_7, e1]
    have g1 := h.good 1 (by omega)
    have g2 := h.good 2 (by omega)
    rw [e2] at g2
    obtain ⟨_, _, a⟩ := (gdv_w e3).1 g1
    obtain ⟨_, _, b⟩ := (gdv_w e3).1 g2
    unfold pickF
    rw [cn_nums, cn_nums, cn_nums]
    split
    · exact (gdv_w e3).2 ⟨rfl, rfl, a⟩
    · exact (gdv_w e3).2 ⟨rfl, rfl, b⟩
  · rw [evv_9]
    have e : srt 9 d ds ks = ds := (whn_ne hs).2
    rw [e]
    exact tol_good (hm rfl).1 (hm rfl).2
  · obtain ⟨e1, e2⟩ := srt_num ho hs
    rw [evv_num ho] at h0 ⊢
    rw [e1]
    dsimp only at h0 ⊢
    rcases ho with rfl | rfl | rfl
    · show gdV _ (frVl (n, d)) = true
      refine num_gd (isfr_val (h.num (.inl rfl))) _ ?_
      rcases nums_sort 10 d ks with z | ⟨z1, z2, _⟩
      · exact .inl z
      · exact .inr ⟨z1, by omega⟩
    · have e : numF 11 n d (numsOf kids) = sumL (0, 1) (numsOf kids) := rfl
      rw [e] at h0 ⊢
      obtain ⟨a, b⟩ := sumL_good (p := (0, 1)) (by decide) (fun q hq => by
        obtain ⟨j, hj, rfl⟩ := List.getElem_of_mem hq
        have hj2 := hj
        rw [numsOf_len] at hj2
        rw [← cn_of hj, cn_nums]
        exact h.nums e2 j hj2) h0
      refine num_gd a _ ?_
      rcases nums_sort 11 d ks with z | ⟨z1, _, z3⟩
      · exact .inl z
      · refine .inr ⟨z1, b rfl (fun q hq => ?_)⟩
        obtain ⟨j, hj, rfl⟩ := List.getElem_of_mem hq
        have hj2 := hj
        rw [numsOf_len, hlen] at hj2
        rw [← cn_of hj, cn_nums]
        have := all_nth z3 hj2
        unfold sIn at this
        rw [beq_iff_eq] at this
        have g := h.good j hj2
        rw [this] at g
        exact gd_int g
    · have hl : (ks.length : Int) = 1 := hkc (by decide) (by decide)
      have e : numF 12 n d (numsOf kids) = ((madeN ((cn (numsOf kids) 0).1 * n) ((cn (numsOf kids) 0).2 * d), madeD ((cn (numsOf kids) 0).1 * n) ((cn (numsOf kids) 0).2 * d)), madeC ((cn (numsOf kids) 0).1 * n) ((cn (numsOf kids) 0).2 * d)) := rfl
      rw [e] at h0 ⊢
      rw [cn_nums] at h0 ⊢
      dsimp only at h0 ⊢
      have v0 := h.nums e2 0 (by omega)
      have v1 := isfr_val (h.num (.inr rfl))
      have hne := den_ne (p := ((vn kids 0).num, (vn kids 0).den)) (q := (n, d)) v0 v1
      refine num_gd (made_spec hne h0).1 _ ?_
      rcases nums_sort 12 d ks with z | ⟨z1, z2, z3⟩
      · exact .inl z
      · refine .inr ⟨z1, ?_⟩
        have := all_nth (j := 0) z3 (by omega)
        unfold sIn at this
        rw [beq_iff_eq] at this
        have g := h.good 0 (by omega)
        rw [this] at g
        have dd : d = 1 := by omega
        rw [gd_int g, dd] at h0 ⊢
        exact (made_one h0).1
  · by_cases h15 : op = 15
    · subst h15
      obtain ⟨w1, w2, w3, w4⟩ := h.word rfl
      have e : srt 15 d ds ks = 10 + d := rfl
      rw [evv_wrd ho (by rw [e]; omega), e]
      refine word_gd (by omega) w3 ?_
      show n < mds (10 + d)
      unfold mds
      rw [show (10 + d - 10).toNat = d.toNat by omega]
      exact w4
    · have ho2 : op = 16 ∨ op = 17 ∨ op = 18 ∨ op = 19 ∨ op = 20 ∨ op = 21 ∨ op = 23 := by omega
      obtain ⟨e1, e2⟩ := srt_wrd ho2 hs
      obtain ⟨w1, w2⟩ := h.words e2
      rw [evv_wrd ho (by rw [e1]; omega), e1]
      have k1 : 1 ≤ kids.length := by
        have := hkc (by omega) (by rcases ho2 with rfl | rfl | rfl | rfl | rfl | rfl | rfl <;> decide)
        rcases ho2 with rfl | rfl | rfl | rfl | rfl | rfl | rfl <;> (simp [kcN] at this; omega)
      have k2 : op ≠ 16 → op ≠ 23 → 2 ≤ kids.length := fun z1 z2 => by
        have := hkc (by omega) (by rcases ho2 with rfl | rfl | rfl | rfl | rfl | rfl | rfl <;> decide)
        rcases ho2 with rfl | rfl | rfl | rfl | rfl | rfl | rfl
        · exact absurd rfl z1
        · simp [kcN] at this; omega
        · simp [kcN] at this; omega
        · simp [kcN] at this; omega
        · simp [kcN] at this; omega
        · simp [kcN] at this; omega
        · exact absurd rfl z2
      have g0 := w2 0 k1
      obtain ⟨a, b⟩ := wrd_rng (N := n) (fs := numsOf kids) ho2 w1 rfl (by rw [cn_nums]; exact g0.2.1) (by rw [cn_nums]; exact g0.2.2) (fun z1 z2 => by
        have := w2 1 (k2 z1 z2)
        rw [cn_nums]
        exact this.2)
      exact word_gd w1 a b
  · obtain ⟨e1, e2, e3⟩ := srt_24 hs
    have hl : (ks.length : Int) = 2 := hkc (by decide) (by decide)
    rw [evv_24, e1]
    have g0 := h.good 0 (by omega)
    rw [e2] at g0
    exact thing_gd (get_good g0)
  · obtain ⟨e1, e2, e3, e4⟩ := srt_25 hs
    have hl : (ks.length : Int) = 3 := hkc (by decide) (by decide)
    rw [evv_25, e1]
    have g0 := h.good 0 (by omega)
    have g1 := h.good 1 (by omega)
    have g2 := h.good 2 (by omega)
    rw [e2] at g0
    rw [e3] at g1
    rw [e4] at g2
    exact put_good g0 (gd_thing g1) (gd_thing g2)
end Go.Proofs.YtaodebpogibimaaGreat
namespace Go.Proofs.YtaodebpogibimaaGreat
open Go.RowKit

/-- What one cell does: is it in already, and what has been told. -/
def pcS (t u : Int) (s : Bool × List (Int × Int)) (c : Int × Int) : Bool × List (Int × Int) :=
  (s.1 || decide (t < c.1), (if (!s.1 && decide (t < c.1)) = true then s.2 ++ [(t, u)] else s.2) ++ (if c.1 = t then [] else [c]))
def pcL (t u : Int) (b : Bool) (cs : List (Int × Int)) (i : Nat) : Bool × List (Int × Int) := (cs.take i).foldl (pcS t u) (b, [])
theorem pcL_step {t u : Int} {b : Bool} {cs : List (Int × Int)} {i : Nat} (h : i < cs.length) : pcL t u b cs (i + 1) = pcS t u (pcL t u b cs i) (cn cs i) := by
  unfold pcL
  rw [List.take_add_one, List.getElem?_eq_getElem h, ← cn_of h]
  simp
theorem pcL_all {t u : Int} {b : Bool} {cs : List (Int × Int)} : pcL t u b cs cs.length = cs.foldl (pcS t u) (b, []) := by
  unfold pcL
  rw [List.take_length]
theorem pc_len {t u : Int} (cs : List (Int × Int)) : ∀ {s : Bool × List (Int × Int)}, (cs.foldl (pcS t u) s).2.length ≤ s.2.length + 2 * cs.length := by
  induction cs with
  | nil => intro s; simp
  | cons c r ih =>
    intro s
    rw [List.foldl_cons]
    refine Nat.le_trans ih ?_
    have : (pcS t u s c).2.length ≤ s.2.length + 2 := by
      unfold pcS
      dsimp only
      split <;> split <;> simp
    simp only [List.length_cons]
    omega
theorem pcL_len {t u : Int} {b : Bool} {cs : List (Int × Int)} {i : Nat} : (pcL t u b cs i).2.length ≤ 2 * cs.length := by
  have := pc_len (t := t) (u := u) (cs.take i) (s := (b, []))
  have h2 : (cs.take i).length ≤ cs.length := by rw [List.length_take]; exact Nat.min_le_right _ _
  simp only [List.length_nil, Nat.zero_add] at this
  exact Nat.le_trans this (by omega)
theorem pc_in {t u : Int} {cs : List (Int × Int)} : ∀ {acc : List (Int × Int)}, cs.foldl (pcS t u) (true, acc) = (true, acc ++ cs.filter fun c => decide (c.1 ≠ t)) := by
  induction cs with
  | nil => intro acc; simp
  | cons c r ih =>
    intro acc
    have e : pcS t u (true, acc) c = (true, acc ++ if c.1 = t then [] else [c]) := by simp [pcS]
    rw [List.foldl_cons, e, ih, List.filter_cons]
    by_cases z : c.1 = t
    · simp [z]
    · simp [z]
theorem pc_out {t u : Int} {cs : List (Int × Int)} : ∀ {acc : List (Int × Int)}, cs.Pairwise (fun a b => a.1 < b.1) →
    (if (cs.foldl (pcS t u) (false, acc)).1 = true then (cs.foldl (pcS t u) (false, acc)).2 else (cs.foldl (pcS t u) (false, acc)).2 ++ [(t, u)]) = acc ++ cs.filter (fun c => decide (c.1 < t)) ++ [(t, u)] ++ cs.filter (fun c => decide (t < c.1)) := by
  induction cs with
  | nil => intro acc _; simp
  | cons c r ih =>
    intro acc hs
    obtain ⟨h1, h2⟩ := List.pairwise_cons.1 hs
    rw [List.foldl_cons]
    rcases Int.lt_trichotomy c.1 t with z | z | z
    · have e : pcS t u (false, acc) c = (false, acc ++ [c]) := by
        have a : ¬ t < c.1 := by omega
        have b : ¬ c.1 = t := by omega
        simp [pcS, a, b]
      rw [e, ih h2, List.filter_cons, List.filter_cons]
      have a : ¬ t < c.1 := by omega
      simp [z, a]
    · have e : pcS t u (false, acc) c = (false, acc) := by
        have a : ¬ t < c.1 := by omega
        simp [pcS, z]
      rw [e, ih h2, List.filter_cons, List.filter_cons]
      have a : ¬ t < c.1 := by omega
      have b : ¬ c.1 < t := by omega
      simp [a, b]
    · have e : pcS t u (false, acc) c = (true, acc ++ [(t, u)] ++ [c]) := by
        have b : ¬ c.1 = t := by omega
        simp [pcS, z, b]
      rw [e, pc_in]
      have n1 : (c :: r).filter (fun c => decide (c.1 < t)) = [] := List.filter_eq_nil_iff.2 fun x hx => by
        rw [decide_eq_true_eq]
        rcases List.mem_cons.1 hx with rfl | hx
        · omega
        · have := h1 x hx; omega
      have n2 : (c :: r).filter (fun c => decide (t < c.1)) = c :: r := List.filter_eq_self.2 fun x hx => by
        rw [decide_eq_true_eq]
        rcases List.mem_cons.1 hx with rfl | hx
        · omega
        · have := h1 x hx; omega
      have n3 : r.filter (fun c => decide (c.1 ≠ t)) = r := List.filter_eq_self.2 fun x hx => by
        rw [decide_eq_true_eq]
        have := h1 x hx
        omega
      rw [n1, n2, n3]
      simp
theorem pc_two {t : Int} {cs : List (Int × Int)} (hs : cs.Pairwise (fun a b => a.1 < b.1)) : (cs.filter fun c => decide (c.1 ≠ t)) = cs.filter (fun c => decide (c.1 < t)) ++ cs.filter (fun c => decide (t < c.1)) := by
  induction cs with
  | nil => rfl
  | cons c r ih =>
    obtain ⟨h1, h2⟩ := List.pairwise_cons.1 hs
    rw [List.filter_cons, List.filter_cons, List.filter_cons, ih h2]
    rcases Int.lt_trichotomy c.1 t with z | z | z
    · have a : ¬ t < c.1 := by omega
      have b : c.1 ≠ t := by omega
      simp [z, a, b]
    · have a : ¬ t < c.1 := by omega
      have b : ¬ c.1 < t := by omega
      simp [z]
    · have a : ¬ c.1 < t := by omega
      have b : c.1 ≠ t := by omega
      have n1 : r.filter (fun c => decide (c.1 < t)) = [] := List.filter_eq_nil_iff.2 fun x hx => by
        rw [decide_eq_true_eq]
        have := h1 x hx
        omega
      simp [z, a, b, n1]
/-- What the walk over the cells yields is what was put. -/
theorem pc_put {v : Vl} {t u : Int} (hs : v.cells.Pairwise (fun a b => a.1 < b.1)) :
    (if (pcL t u (u == v.rest) v.cells v.cells.length).1 = true then (pcL t u (u == v.rest) v.cells v.cells.length).2 else (pcL t u (u == v.rest) v.cells v.cells.length).2 ++ [(t, u)]) = (putF v t u).cells := by
  rw [pcL_all]
  unfold putF
  dsimp only
  by_cases z : u = v.rest
  · have e : (u == v.rest) = true := by rw [z]; simp
    rw [e, pc_in, if_pos rfl, if_pos z, List.nil_append, List.append_nil]
    exact pc_two hs
  · have e : (u == v.rest) = false := by simpa using z
    rw [e, pc_out hs, if_neg z, List.nil_append]
end Go.Proofs.YtaodebpogibimaaGreat
namespace Go.Proofs.YtaodebpogibimaaGreat
open Go.RowKit

/-- What valueOf yields: a value, of whose cells something is known. -/
def RvK (K : World → Option Addr → Nat → Prop) (q : Vl) (w : World) (e : Ending) (w' : World) : Prop := ∃ A c, e = .returned (.tuple #[.agg #[.int .i64 q.num, .int .i64 q.den, .slice A q.cells.length c, .int .i64 q.rest], .bool true]) ∧ q.cells.length ≤ c ∧ c ≤ maxLen ∧ K w' A c ∧ Below w.heap.size w w'
end Go.Proofs.YtaodebpogibimaaGreat
namespace Go.Proofs.YtaodebpogibimaaGreat
open Go.RowKit

set_option maxRecDepth 100000 in
set_option maxHeartbeats 8000000 in
theorem valueof_7 (sa sn sh sm nk : Value) (N D sort : Int) (nm : ByteArray) (Av : Option Addr) (vc : Nat) (kids : List Vl) (hk : kids.length ≤ 1000) (h2 : 3 ≤ kids.length) (w : World) (hv : VsAt w Av kids) :
    Calls Tryz.prog 18 #[.agg #[sa, sn, sh], .agg #[sm], .agg #[.int .i64 7, nk, .int .i64 N, .int .i64 D, .string nm], .int .i64 sort, .slice Av kids.length vc] w (RvQ (if (vn kids 0).num = 1 then vn kids 1 else vn kids 2) w) := by
  have HM := Lib.hid (vo_new w sa sn sh sm nk 7 N D nm)
  have HV := Lib.hid hv
  have HY := Lib.hid (fun i (h : i < kids.length) => yesN_step h)
  have HYL := Lib.hid (fun i => yesN_le kids i)
  have HY0 : Hid (yesN kids 0 = 0) := Lib.hid (by simp [yesN])
  clear hv
  generalize yesN kids = Y at *
  generalize hL : kids.length = L at *
  have HL := Lib.hid hL
  clear hL
  generalize hq : (if (vn kids 0).num = 1 then vn kids 1 else vn kids 2) = q at *
  have HQ := Lib.hid hq
  clear hq
  unfold RvQ
  go_enter Tryz.func18, Tryz.ntmps18
  go_wp2_with fail
  go_loopw [16, 17] (fun y k wr => ∃ i : Nat, i ≤ L ∧ k = .int .i64 i ∧ y = .int .i64 (Y i) ∧ Hid (VoM w sa sn sh sm nk 7 N D nm wr)) (fun _ k _ => L - (intOf k).toNat)
  case atStart => exact ⟨0, by omega, rfl, by rw [HY0.out]; rfl, HM⟩
  case round =>
    clear HM
    obtain ⟨i, hi, rfl, rfl, HM⟩ := hrel
    by_cases hlt : i < L
    · have t3 : decide ((i : Int) < L) = true := by simpa using hlt
      have l0 : (i : Int) < L := by omega
      obtain ⟨b, o, rfl, lb, a0, -⟩ := vs_at (i := i) (HV.out.below HM.out.b) (by rw [HL.out]; exact hlt)
      simp only [Nat.add_zero] at a0
      have HS := Lib.hid (HY.out i hlt)
      have hyl := HYL.out i
      by_cases hn : (vn kids i).num = 1
      · have HS2 : Hid (Y (i + 1) = Y i + 1) := Lib.hid (by rw [HS.out, if_pos hn])
        rw [hn] at a0
        clear hn
        go_wp2_with fail
        go_round
        case rel => exact ⟨i + 1, by omega, by go_num, by rw [HS2.out]; go_num, HM⟩
        case measure => simp [intOf]; omega
      · have HS2 : Hid (Y (i + 1) = Y i) := Lib.hid (by rw [HS.out, if_neg hn])
        have tn : ((vn kids i).num == 1) = false := by simpa using hn
        clear hn
        generalize (vn kids i).num = q at *
        go_wp2_with fail
        go_round
        case rel => exact ⟨i + 1, by omega, by go_num, by rw [HS2.out], HM⟩
        case measure => simp [intOf]; omega
    · obtain rfl : i = L := by omega
      have t3 : decide ((i : Int) < i) = false := by simp
      obtain ⟨n0, n1, n2, n3, n4⟩ := HM.out.n.five
      have l2 : 3 ≤ i := h2
      have l3 : 0 < i := by omega
      have l4 : 1 < i := by omega
      have l5 : (0 : Int) < i := by omega
      have l6 : (1 : Int) < i := by omega
      have l7 : 2 < i := by omega
      have l8 : (2 : Int) < i := by omega
      obtain ⟨b0, o0, hA0, lbw, HIN⟩ := vs_blk HV.out (by rw [HL.out]; omega)
      have lb0 : b0 < wr.heap.size := Nat.lt_of_lt_of_le lbw HM.out.b.size
      subst hA0
      have d00 : wr.cell? ⟨b0, o0, none⟩ = some (.int .i64 (vn kids 0).num) := (HM.out.b.cell (p := ⟨b0, o0, none⟩) lbw).trans (HIN 0 (by rw [HL.out]; omega)).1
      by_cases hx : (vn kids 0).num = 1
      · rw [hx] at d00
        have hq2 : vn kids 1 = q := by rw [← HQ.out, if_pos hx]
        obtain ⟨e0, e1, e3, A1, c1, e2, lk, mk, HCk⟩ := HIN 1 (by rw [HL.out]; omega)
        rw [hq2] at e0 e1 e2 e3 lk HCk
        have HCK := Lib.hid HCk
        have g0 : wr.cell? ⟨b0, o0 + 4, none⟩ = some (.int .i64 q.num) := (HM.out.b.cell (p := ⟨b0, o0 + 4, none⟩) lbw).trans e0
        have g1 : wr.cell? ⟨b0, o0 + 5, none⟩ = some (.int .i64 q.den) := (HM.out.b.cell (p := ⟨b0, o0 + 5, none⟩) lbw).trans e1
        have g2 : wr.cell? ⟨b0, o0 + 6, none⟩ = some (.slice A1 q.cells.length c1) := (HM.out.b.cell (p := ⟨b0, o0 + 6, none⟩) lbw).trans e2
        have g3 : wr.cell? ⟨b0, o0 + 7, none⟩ = some (.int .i64 q.rest) := (HM.out.b.cell (p := ⟨b0, o0 + 7, none⟩) lbw).trans e3
        clear e0 e1 e2 e3 HIN HCk hq2 HQ
        obtain ⟨r0, r1, r2, r3, y0, y1, y2, y3⟩ := HM.out.r.four
        have P := vo_res HM.out (.int .i64 q.num) (.int .i64 q.den) (.slice A1 q.cells.length c1) (.int .i64 q.rest)
        obtain ⟨z0, z1, z2, z3, -⟩ := P.1.four
        have FIN := Lib.hid P.2
        have CSF := Lib.hid (HCK.out.below FIN.out)
        have hb := Lib.hid (And.intro lk mk)
        clear P lk mk
        go_wp2_with fail
        exact bodyPost_ret (v := .tuple #[.agg #[.int .i64 q.num, .int .i64 q.den, .slice A1 q.cells.length c1, .int .i64 q.rest], .bool true]) (by simp [results, Tryz.results18, go_sem, z0, z1, z2, z3]) rfl ⟨A1, c1, rfl, hb.out.1, hb.out.2, CSF.out, FIN.out⟩
      · have t9 : ((vn kids 0).num == 1) = false := by simpa using hx
        have hq2 : vn kids 2 = q := by rw [← HQ.out, if_neg hx]
        obtain ⟨e0, e1, e3, A2, c2, e2, lk, mk, HCk⟩ := HIN 2 (by rw [HL.out]; omega)
        rw [hq2] at e0 e1 e2 e3 lk HCk
        have HCK := Lib.hid HCk
        have g0 : wr.cell? ⟨b0, o0 + 8, none⟩ = some (.int .i64 q.num) := (HM.out.b.cell (p := ⟨b0, o0 + 8, none⟩) lbw).trans e0
        have g1 : wr.cell? ⟨b0, o0 + 9, none⟩ = some (.int .i64 q.den) := (HM.out.b.cell (p := ⟨b0, o0 + 9, none⟩) lbw).trans e1
        have g2 : wr.cell? ⟨b0, o0 + 10, none⟩ = some (.slice A2 q.cells.length c2) := (HM.out.b.cell (p := ⟨b0, o0 + 10, none⟩) lbw).trans e2
        have g3 : wr.cell? ⟨b0, o0 + 11, none⟩ = some (.int .i64 q.rest) := (HM.out.b.cell (p := ⟨b0, o0 + 11, none⟩) lbw).trans e3
        clear hx
        generalize (vn kids 0).num = x0 at *
        clear e0 e1 e2 e3 HIN HCk hq2 HQ
        obtain ⟨r0, r1, r2, r3, y0, y1, y2, y3⟩ := HM.out.r.four
        have P := vo_res HM.out (.int .i64 q.num) (.int .i64 q.den) (.slice A2 q.cells.length c2) (.int .i64 q.rest)
        obtain ⟨z0, z1, z2, z3, -⟩ := P.1.four
        have FIN := Lib.hid P.2
        have CSF := Lib.hid (HCK.out.below FIN.out)
        have hb := Lib.hid (And.intro lk mk)
        clear P lk mk
        go_wp2_with fail
        exact bodyPost_ret (v := .tuple #[.agg #[.int .i64 q.num, .int .i64 q.den, .slice A2 q.cells.length c2, .int .i64 q.rest], .bool true]) (by simp [results, Tryz.results18, go_sem, z0, z1, z2, z3]) rfl ⟨A2, c2, rfl, hb.out.1, hb.out.2, CSF.out, FIN.out⟩
end Go.Proofs.YtaodebpogibimaaGreat
namespace Go.Proofs.YtaodebpogibimaaGreat
open Go.RowKit

set_option maxHeartbeats 1000000 in
theorem timesR_any (p1 p2 q1 q2 : Int) (w : World) (hp : fvalid p1 p2 = true) (hq : fvalid q1 q2 = true) :
    Calls Tryz.prog 50 #[.agg #[.int .i64 p1, .int .i64 p2], .agg #[.int .i64 q1, .int .i64 q2]] w fun e w' => e = .returned (.tuple #[.agg #[.int .i64 (madeN (p1 * q1) (p2 * q2)), .int .i64 (madeD (p1 * q1) (p2 * q2))], .bool (madeC (p1 * q1) (p2 * q2) == 0)]) ∧ Below w.heap.size w w' := by
  have a := fvalid_bd hp
  have b := fvalid_bd hq
  have m1 := mul_bd p1 q1 (by omega) (by omega) (by omega) (by omega)
  have m2 := mul_bd p2 q2 (by omega) (by omega) (by omega) (by omega)
  have m3 : 1 ≤ p2 * q2 := Int.mul_pos (by omega) (by omega)
  have w1 : IntKind.i64.wrap (p1 * q1) = p1 * q1 := IntWalk.i64_in _ (by omega)
  have w2 : IntKind.i64.wrap (p2 * q2) = p2 * q2 := IntWalk.i64_in _ (by omega)
  have XL := Lib.hid (fun W => lowest_any (p1 * q1) (p2 * q2) W (by omega) (by omega) (by omega) (by omega))
  have BX : Hid (Below w.heap.size w (((w.alloc (.cells #[.int .i64 p1, .int .i64 p2] 44)).alloc (.cells #[.int .i64 q1, .int .i64 q2] 44)).alloc (.cells #[.int .i64 0, .int .i64 0] 44))) := Lib.hid (by go_grown)
  have FX := Lib.hid (HB.new2 w (.cells #[.int .i64 p1, .int .i64 p2] 44) (.cells #[.int .i64 q1, .int .i64 q2] 44) 44 #[.int .i64 0, .int .i64 0])
  clear a b m1 m2 m3 hp hq
  generalize madeN (p1 * q1) (p2 * q2) = N at *
  generalize madeD (p1 * q1) (p2 * q2) = D at *
  generalize (madeC (p1 * q1) (p2 * q2) == 0) = C at *
  go_enter Tryz.func50, Tryz.ntmps50
  go_wp2_with fail
  refine (XL.out _).mono ?_
  rintro e w1 ⟨rfl, hb1⟩
  have B1 := Lib.hid (below_after BX.out hb1)
  have F1 := Lib.hid (FX.out.below hb1)
  clear hb1
  obtain ⟨f0, f1, f2, f3⟩ := F1.out.two
  obtain ⟨c0, c1, -⟩ := (hb_set2 (n := .int .i64 N) (d := .int .i64 D) F1.out).two
  have BF := Lib.hid (bw_far B1.out (by omega) (far2 w1 (w.heap.size + 1 + 1) (.int .i64 N) (.int .i64 D)))
  go_wp2_with fail
  exact bodyPost_ret (v := .tuple #[.agg #[.int .i64 N, .int .i64 D], .bool C]) (by simp [results, Tryz.results50, go_sem, c0, c1]) rfl ⟨rfl, BF.out⟩
set_option maxHeartbeats 1000000 in
theorem addR_any (p1 p2 q1 q2 : Int) (w : World) (hp : fvalid p1 p2 = true) (hq : fvalid q1 q2 = true) :
    Calls Tryz.prog 49 #[.agg #[.int .i64 p1, .int .i64 p2], .agg #[.int .i64 q1, .int .i64 q2]] w fun e w' => e = .returned (.tuple #[.agg #[.int .i64 (madeN (p1 * q2 + q1 * p2) (p2 * q2)), .int .i64 (madeD (p1 * q2 + q1 * p2) (p2 * q2))], .bool (madeC (p1 * q2 + q1 * p2) (p2 * q2) == 0)]) ∧ Below w.heap.size w w' := by
  have a := fvalid_bd hp
  have b := fvalid_bd hq
  have m1 := mul_bd p1 q2 (by omega) (by omega) (by omega) (by omega)
  have m4 := mul_bd q1 p2 (by omega) (by omega) (by omega) (by omega)
  have m2 := mul_bd p2 q2 (by omega) (by omega) (by omega) (by omega)
  have m3 : 1 ≤ p2 * q2 := Int.mul_pos (by omega) (by omega)
  have w1 : IntKind.i64.wrap (p1 * q2) = p1 * q2 := IntWalk.i64_in _ (by omega)
  have w4 : IntKind.i64.wrap (q1 * p2) = q1 * p2 := IntWalk.i64_in _ (by omega)
  have w2 : IntKind.i64.wrap (p2 * q2) = p2 * q2 := IntWalk.i64_in _ (by omega)
  have w3 : IntKind.i64.wrap (p1 * q2 + q1 * p2) = p1 * q2 + q1 * p2 := IntWalk.i64_in _ (by omega)
  have XL := Lib.hid (fun W => lowest_any (p1 * q2 + q1 * p2) (p2 * q2) W (by omega) (by omega) (by omega) (by omega))
  have BX : Hid (Below w.heap.size w (((w.alloc (.cells #[.int .i64 p1, .int .i64 p2] 44)).alloc (.cells #[.int .i64 q1, .int .i64 q2] 44)).alloc (.cells #[.int .i64 0, .int .i64 0] 44))) := Lib.hid (by go_grown)
  have FX := Lib.hid (HB.new2 w (.cells #[.int .i64 p1, .int .i64 p2] 44) (.cells #[.int .i64 q1, .int .i64 q2] 44) 44 #[.int .i64 0, .int .i64 0])
  clear a b m1 m2 m3 m4 hp hq
  generalize madeN (p1 * q2 + q1 * p2) (p2 * q2) = N at *
  generalize madeD (p1 * q2 + q1 * p2) (p2 * q2) = D at *
  generalize (madeC (p1 * q2 + q1 * p2) (p2 * q2) == 0) = C at *
  go_enter Tryz.func49, Tryz.ntmps49
  go_wp2_with fail
  refine (XL.out _).mono ?_
  rintro e w1' ⟨rfl, hb1⟩
  have B1 := Lib.hid (below_after BX.out hb1)
  have F1 := Lib.hid (FX.out.below hb1)
  clear hb1
  obtain ⟨f0, f1, f2, f3⟩ := F1.out.two
  obtain ⟨c0, c1, -⟩ := (hb_set2 (n := .int .i64 N) (d := .int .i64 D) F1.out).two
  have BF := Lib.hid (bw_far B1.out (by omega) (far2 w1' (w.heap.size + 1 + 1) (.int .i64 N) (.int .i64 D)))
  go_wp2_with fail
  exact bodyPost_ret (v := .tuple #[.agg #[.int .i64 N, .int .i64 D], .bool C]) (by simp [results, Tryz.results49, go_sem, c0, c1]) rfl ⟨rfl, BF.out⟩
end Go.Proofs.YtaodebpogibimaaGreat
