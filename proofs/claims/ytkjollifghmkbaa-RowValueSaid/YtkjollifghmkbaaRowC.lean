/-
  The contract of sum.plus: the sum with one product more.
-/
import Derived.Test.YtkjollifghmkbaaRowB
import Derived.Test.YtkjollifghmkbaaFracO
import Derived.Deep.RegionHeld3
import Derived.Deep.AppendLies
import Derived.Deep.DeepCutAuto
namespace Go.Proofs.Ytkjollifghmkbaa
open Go.RowKit

theorem times_int (A : Option Addr) (L c X : Nat) (z : Int) (hL : L ≤ 1000) (h0 : 0 ≤ z) (hz : z ≤ 4294967295) (w : World) (h : Sl w A L X) :
    Calls Try.prog 69 #[.slice A L c, .int .i64 z] w (GivesLg (X * z.toNat) (L + 1) w) := by
  have := times_any A L c X z.toNat hL (by omega) w h
  rwa [Int.toNat_of_nonneg h0] at this
/-- A sum in hand: what is above 0, what is below it, the unit, the denominators. -/
def SumAt (w : World) (base : Nat) (v : Value) (K a b u : Nat) (ds : List Int) : Prop :=
  ∃ A1 L1 c1 A2 L2 c2 A3 L3 c3 A4 n4 c4, v = .agg #[.slice A1 L1 c1, .slice A2 L2 c2, .slice A3 L3 c3, .slice A4 n4 c4] ∧ L1 ≤ K ∧ L2 ≤ K ∧ L3 ≤ K ∧
    Lg w A1 L1 a ∧ Lg w A2 L2 b ∧ Lg w A3 L3 u ∧ n4 = ds.length ∧ w.ownsRow base 3 1 (.slice A4 n4 c4) n4 (ds.map (.int .i64))
def GivesSum (base K a b u : Nat) (ds : List Int) (w : World) (e : Ending) (w' : World) : Prop := ∃ v, e = .returned v ∧ SumAt w' base v K a b u ds ∧ Below base w w'
theorem int_info : (Try.prog.info? 3).map (fun i => (i.zero, i.size, i.bytes)) = some (some (.int .i64 0), 1, 8) := by kernel_rfl

theorem max_mag (z : Int) : (if z < -z then -z else z) = (mag z : Int) := by unfold mag; split <;> omega
theorem mag_bd {z : Int} {B : Nat} (h0 : -(B : Int) ≤ z) (hz : z ≤ B) : mag z ≤ B := by unfold mag; omega
/-- A block that is known whole. -/
def HB (w : World) (g : Nat) (t : TypeId) (cs : Array Value) : Prop := w.heap[g]? = some (.cells cs t (0, 0))
section
variable {w w' w'' : World} {g t L n : Nat} {A : Option Addr} {cs : Array Value}
theorem HB.lt (h : HB w g t cs) : g < w.heap.size := by
  rcases Nat.lt_or_ge g w.heap.size with hlt | hge
  · exact hlt
  · unfold HB at h; rw [Array.getElem?_eq_none hge] at h; cases h
theorem HB.cell (h : HB w g t cs) (i : Nat) : w.cell? ⟨g, i, none⟩ = cs[i]? := cell_of_row w g i cs t (0, 0) h
theorem HB.frozen (h : HB w g t cs) (i : Nat) : w.frozen? ⟨g, i, none⟩ = false := by unfold HB at h; simp [World.frozen?, h]
theorem HB.new (w : World) (t : TypeId) (cs : Array Value) : HB (w.alloc (.cells cs t)) w.heap.size t cs := heap_alloc_new w _
theorem HB.drew (h : HB w g t cs) : HB w.drew g t cs := h
theorem HB.drewN (h : HB w g t cs) (k : Nat) : HB (w.drewN k) g t cs := h
theorem HB.alloc (h : HB w g t cs) (o : Obj) : HB (w.alloc o) g t cs := (Below.heap_alloc w o g h.lt).trans h
theorem HB.below (h : HB w g t cs) (k : Below w.heap.size w w') : HB w' g t cs := (k.block g h.lt).trans h
theorem HB.far (h : HB w g t cs) {p : Addr} (hp : g ≠ p.block) (u : Value) : HB (w.setCell p u) g t cs := (Below.heap_setCell w p u g hp).trans h
theorem HB.set_ (h : HB w g t cs) (i : Nat) (u : Value) : HB (w.setCell ⟨g, i, none⟩ u) g t (cs.setIfInBounds i u) := by
  unfold HB at h ⊢
  simp [World.setCell, Array.getElem?_modify, h]
theorem HB.grown {row : Option Nat} (h : HB w g t cs) (hb : w.grownBy w' row) (hg : some g ≠ row) : HB w' g t cs := (hb.block g h.lt hg).trans h
theorem HB.ty (h : HB w g t cs) : ty w g = some t := by unfold Go.Proofs.Ytkjollifghmkbaa.ty; unfold HB at h; rw [h]; rfl
theorem Lg.drew (h : Lg w A L n) : Lg w.drew A L n := h
theorem Lg.drewN (h : Lg w A L n) (k : Nat) : Lg (w.drewN k) A L n := h
theorem Lg.alloc (h : Lg w A L n) (o : Obj) : Lg (w.alloc o) A L n := h.below (new_below w o)
theorem Lg.at (h : Lg w A L n) (hk : ∀ g, Go.Proofs.Ytkjollifghmkbaa.ty w g = some 87 → w'.heap[g]? = w.heap[g]?) : Lg w' A L n :=
  ⟨⟨h.1.1, fun z => by
    obtain ⟨g, e, cs, e2, f⟩ := h.1.2 z
    exact ⟨g, e, cs, (hk g (by unfold Go.Proofs.Ytkjollifghmkbaa.ty; rw [e2]; rfl)).trans e2, f⟩⟩, h.2⟩
theorem ty_lt {t : TypeId} (h : ty w g = some t) : g < w.heap.size := by
  rcases Nat.lt_or_ge g w.heap.size with hlt | hge
  · exact hlt
  · unfold Go.Proofs.Ytkjollifghmkbaa.ty at h; rw [Array.getElem?_eq_none hge] at h; cases h
theorem Lg.grown {base : Nat} {v : Value} {m : Nat} {xs : List Value} {e : TypeId} (h : Lg w A L n) (ho : w.ownsRow base e 1 v m xs) (hg : w.grownBy w' v.ownBlock) (he : e ≠ 87) : Lg w' A L n := by
  refine h.at fun g hty => hg.block g (ty_lt hty) (fun e2 => ?_)
  rcases ho.2 with ⟨rfl, _⟩ | ⟨g', cap, cur, rfl, _, hh, _⟩
  · simp [Value.ownBlock] at e2
  · simp [Value.ownBlock] at e2
    subst e2
    unfold Go.Proofs.Ytkjollifghmkbaa.ty at hty
    rw [hh] at hty
    exact he (by injection hty)
theorem Lg.set_ (h : Lg w A L n) {t : TypeId} (k : HB w g t cs) (ht : t ≠ 87) (i : Nat) (u : Value) : Lg (w.setCell ⟨g, i, none⟩ u) A L n := by
  refine h.at fun g' hty => Below.heap_setCell _ _ _ _ (fun e => ?_)
  have e' : g' = g := e
  subst e'
  rw [k.ty] at hty
  exact ht (by injection hty)
theorem own_below {base m : Nat} {e : TypeId} {v : Value} {xs : List Value} (h : w.ownsRow base e 1 v m xs) (k : Below w.heap.size w w') : w'.ownsRow base e 1 v m xs := by
  refine ⟨h.1, ?_⟩
  rcases h.2 with z | ⟨g, cap, cur, rfl, hb, hh, r⟩
  · exact .inl z
  · exact .inr ⟨g, cap, cur, rfl, hb, (k.block g (HB.lt hh)).trans hh, r⟩
theorem own_far {base m : Nat} {e : TypeId} {v : Value} {xs : List Value} (h : w.ownsRow base e 1 v m xs) {t : TypeId} (k : HB w g t cs) (ht : t ≠ e) (i : Nat) (u : Value) : (w.setCell ⟨g, i, none⟩ u).ownsRow base e 1 v m xs := by
  refine ⟨h.1, ?_⟩
  rcases h.2 with z | ⟨g', cap, cur, rfl, hb, hh, r⟩
  · exact .inl z
  · refine .inr ⟨g', cap, cur, rfl, hb, HB.far (p := ⟨g, i, none⟩) hh (fun e2 => ?_) u, r⟩
    have e3 : g' = g := e2
    subst e3
    unfold HB at k
    rw [hh] at k
    injection k with k
    injection k with _ k
    exact ht k.symm
theorem bw_below {base : Nat} (hb : base ≤ w.heap.size) (h : Below base w w') (k : Below w'.heap.size w' w'') : Below base w w'' := h.trans (k.mono (Nat.le_trans hb h.size))
theorem bw_grown {base m : Nat} {e : TypeId} {v : Value} {xs : List Value} (hb : base ≤ w.heap.size) (h : Below base w w') (ho : w'.ownsRow base e 1 v m xs) (k : w'.grownBy w'' v.ownBlock) : Below base w w'' := by
  refine h.grown k (Nat.le_trans hb h.size) (fun j hj => ?_)
  rcases ho.2 with ⟨rfl, _⟩ | ⟨g', cap, cur, rfl, hb', _⟩
  · simp [Value.ownBlock] at hj
  · simp [Value.ownBlock] at hj; omega
theorem own_ne {base m : Nat} {e : TypeId} {v : Value} {xs : List Value} (h : w.ownsRow base e 1 v m xs) {t : TypeId} (k : HB w g t cs) (ht : t ≠ e) : some g ≠ v.ownBlock := by
  rcases h.2 with ⟨rfl, _⟩ | ⟨g', cap, cur, rfl, _, hh, _⟩
  · simp [Value.ownBlock]
  · simp [Value.ownBlock]
    rintro rfl
    unfold HB at k
    rw [hh] at k
    injection k with k
    injection k with _ k
    exact ht k.symm
end
end Go.Proofs.Ytkjollifghmkbaa
