/-
  Values of nodes: a row of values that a call makes.
-/
import Derived.Test.YtibpgcdaommjeaaG18
namespace Go.Proofs.Ytibpgcdaommjeaa
open Go.RowKit

/-- A value's four cells; the third is the slice of its array's cells. -/
def vlV (p : Vl × Value) : List Value := [.int .i64 p.1.num, .int .i64 p.1.den, p.2, .int .i64 p.1.rest]
/-- A row of values of the call's own; each one's cells lie in a row of the call's own. -/
def VMk (B C : Nat) (sv : Value) (w : World) (ps : List (Vl × Value)) : Prop :=
  w.ownsRow B 42 4 sv ps.length (ps.flatMap vlV) ∧ ∀ p ∈ ps, w.ownsRow C 59 2 p.2 p.1.cells.length (csV p.1.cells)
theorem vm_nil (B C : Nat) (w : World) : VMk B C (.slice none 0 0) w [] := ⟨own_nil _ _ _ _, fun p hp => absurd hp (by simp)⟩
theorem VMk.below {B C : Nat} {sv : Value} {w w' : World} {ps : List (Vl × Value)} (h : VMk B C sv w ps) (k : Below w.heap.size w w') : VMk B C sv w' ps := ⟨own_below h.1 k, fun p hp => own_below (h.2 p hp) k⟩
theorem flat4 {ps : List (Vl × Value)} : ∀ {i j : Nat} {p : Vl × Value}, ps[i]? = some p → j < 4 → (ps.flatMap vlV)[i * 4 + j]? = (vlV p)[j]? := by
  induction ps with
  | nil => intro i j p h; cases h
  | cons q ps ih =>
    intro i j p h hj
    rw [List.flatMap_cons]
    have hl : (vlV q).length = 4 := rfl
    cases i with
    | zero =>
      simp at h
      subst h
      rw [Nat.zero_mul, Nat.zero_add, List.getElem?_append_left (by rw [hl]; exact hj)]
    | succ i =>
      simp at h
      rw [List.getElem?_append_right (by rw [hl]; omega), hl, show (i + 1) * 4 + j - 4 = i * 4 + j by omega]
      exact ih h hj
theorem own_cap2 {w : World} {base n c : Nat} {e : TypeId} {sz : Nat} {A : Option Addr} {xs : List Value} (h : w.ownsRow base e sz (.slice A n c) n xs) : n ≤ c ∧ c ≤ maxLen := by
  rcases h.2 with ⟨h0, h1⟩ | ⟨g, cap, cur, h0, _, _, hc, hm, _⟩
  · injection h0 with _ h2 h3
    subst h2 h3
    exact ⟨Nat.le_refl _, Nat.zero_le _⟩
  · injection h0 with _ _ h3
    subst h3
    exact ⟨hc, by omega⟩
/-- The row reads as values. -/
theorem vm_vs {B C c n : Nat} {A : Option Addr} {w : World} {ps : List (Vl × Value)} (h : VMk B C (.slice A n c) w ps) (hn : ps.length = n) : VsAt w A (ps.map (·.1)) := by
  obtain ⟨ho, hp⟩ := h
  rcases ho.2 with ⟨h0, h1⟩ | ⟨g, cap, cur, h0, hb, hh, hc, hm, hsz, htk⟩
  · intro z
    rw [List.length_map] at z
    omega
  · injection h0 with h0 _ _
    intro z
    refine ⟨g, 0, h0, HB.lt hh, fun i q hq => ?_⟩
    rw [List.getElem?_map] at hq
    obtain ⟨p, hpi, rfl⟩ := Option.map_eq_some_iff.1 hq
    have hi : i < ps.length := by
      rcases Nat.lt_or_ge i ps.length with y | y
      · exact y
      · rw [List.getElem?_eq_none y] at hpi; cases hpi
    have hcell : ∀ j u, j < 4 → (vlV p)[j]? = some u → w.cell? ⟨g, 0 + i * 4 + j, none⟩ = some u := fun j u hj hu => by
      have e1 := flat4 hpi hj
      rw [hu, ← htk, List.getElem?_take_of_lt (by omega)] at e1
      rw [show 0 + i * 4 + j = i * 4 + j by omega, cell_of_row w g (i * 4 + j) cur 42 (0, 0) hh]
      simpa using e1
    have hpm : p ∈ ps := List.mem_of_getElem? hpi
    have hown := hp p hpm
    obtain ⟨A', c', hpv⟩ := own_val hown
    have h2 := hcell 2 p.2 (by omega) rfl
    rw [hpv] at h2 hown
    exact ⟨hcell 0 _ (by omega) rfl, hcell 1 _ (by omega) rfl, hcell 3 _ (by omega) rfl, A', c', h2, (own_cap2 hown).1, (own_cap2 hown).2, own_cs hown rfl⟩
/-- One value more. -/
theorem vm_app {B C B2 : Nat} {sv sv' : Value} {w w' : World} {ps : List (Vl × Value)} {p : Vl × Value} (h : VMk B C sv w ps) (hp : w.ownsRow B2 59 2 p.2 p.1.cells.length (csV p.1.cells)) (hC : C ≤ B2)
    (ho : w'.ownsRow B 42 4 sv' (ps.length + 1) (ps.flatMap vlV ++ vlV p)) (hk : ∀ b t cs, some b ≠ sv.ownBlock → HB w b t cs → HB w' b t cs) : VMk B C sv' w' (ps ++ [p]) := by
  refine ⟨by rw [List.length_append, List.flatMap_append]; simpa using ho, fun q hq => ?_⟩
  rcases List.mem_append.1 hq with z | z
  · exact own_keep (h.2 q z) fun b cs hb hx => hk b 59 cs (own_ne2 (h.2 q z) h.1 (by decide) b hb) hx
  · rw [List.mem_singleton] at z
    subst z
    exact own_base (own_keep hp fun b cs hb hx => hk b 59 cs (own_ne2 hp h.1 (by decide) b hb) hx) hC
/-- Another row has grown. -/
theorem VMk.keep {B C : Nat} {sv kv : Value} {w w' : World} {ps : List (Vl × Value)} (h : VMk B C sv w ps) (hk : ∀ b t cs, some b ≠ kv.ownBlock → HB w b t cs → HB w' b t cs) (hs : ∀ b, some b = sv.ownBlock → some b ≠ kv.ownBlock) (hc : ∀ p ∈ ps, ∀ b, some b = p.2.ownBlock → some b ≠ kv.ownBlock) : VMk B C sv w' ps :=
  ⟨own_keep h.1 fun b cs hb hx => hk b _ cs (hs b hb) hx, fun p hp => own_keep (h.2 p hp) fun b cs hb hx => hk b _ cs (hc p hp b hb) hx⟩
theorem infoValue : (Try.prog.info? 42).map (fun i => (i.zero, i.size, i.bytes)) = some (some (.agg #[.int .i64 0, .int .i64 0, .slice none 0 0, .int .i64 0]), 4, 48) := by kernel_rfl
/-- The values of nodes one after another, or the first fault. -/
def valsE (ev : Nat → List Vl → Vl × Int) : Nat → Except (Int × Int) (List Vl)
  | 0 => .ok []
  | k + 1 => match valsE ev k with | .ok vs => if (ev k vs).2 = 0 then .ok (vs ++ [(ev k vs).1]) else .error ((ev k vs).2, (k : Int)) | .error e => .error e
theorem valsE_succ (ev : Nat → List Vl → Vl × Int) (k : Nat) : valsE ev (k + 1) = match valsE ev k with | .ok vs => if (ev k vs).2 = 0 then .ok (vs ++ [(ev k vs).1]) else .error ((ev k vs).2, (k : Int)) | .error e => .error e := rfl
theorem valsE_len {ev : Nat → List Vl → Vl × Int} : ∀ {k : Nat} {vs : List Vl}, valsE ev k = .ok vs → vs.length = k := by
  intro k
  induction k with
  | zero => intro vs h; injection h with h; subst h; rfl
  | succ k ih =>
    intro vs h
    rw [valsE_succ] at h
    cases hk : valsE ev k with
    | error e => rw [hk] at h; cases h
    | ok us =>
      rw [hk] at h
      dsimp only at h
      split at h
      · injection h with h
        subst h
        rw [List.length_append, ih hk]
        rfl
      · cases h
theorem valsE_step {ev : Nat → List Vl → Vl × Int} {k : Nat} {vs : List Vl} (h : valsE ev k = .ok vs) : valsE ev (k + 1) = if (ev k vs).2 = 0 then .ok (vs ++ [(ev k vs).1]) else .error ((ev k vs).2, (k : Int)) := by
  rw [valsE_succ, h]
theorem valsE_stop {ev : Nat → List Vl → Vl × Int} {k : Nat} {e : Int × Int} (h : valsE ev k = .error e) : ∀ n, k ≤ n → valsE ev n = .error e := by
  intro n hn
  induction n with
  | zero =>
    obtain rfl : k = 0 := by omega
    exact h
  | succ n ih =>
    rcases Nat.lt_or_ge n k with z | z
    · obtain rfl : k = n + 1 := by omega
      exact h
    · rw [valsE_succ, ih z]
theorem hp_drew (w : World) (k : Nat) : w.drew.heap[k]? = w.heap[k]? := rfl
theorem hp_set (w : World) (g i k : Nat) (v : Value) (h : k ≠ g) : (w.setCell ⟨g, i, none⟩ v).heap[k]? = w.heap[k]? := Below.heap_setCell w ⟨g, i, none⟩ v k h
theorem hp_alloc (w : World) (o : Obj) (k : Nat) (h : k < w.heap.size) : (w.alloc o).heap[k]? = w.heap[k]? := Below.heap_alloc w o k h
theorem sz_drew (w : World) : w.drew.heap.size = w.heap.size := rfl
theorem sz_set (w : World) (p : Addr) (v : Value) : (w.setCell p v).heap.size = w.heap.size := by simp [World.setCell]
theorem sz_alloc (w : World) (o : Obj) : (w.alloc o).heap.size = w.heap.size + 1 := by simp
end Go.Proofs.Ytibpgcdaommjeaa
