/-
  A region that draws its order and makes memory: each operation but the last one yields a value of which something is known that new memory does not undo; the last one waits for all.
-/
import Derived.Test.YtibpgcdaommjeaaG00
import Derived.Orders
namespace Go.Proofs.Ytibpgcdaommjeaa
open Go.RowKit

/-- A frame with n slots written. -/
def puts (a0 : Act) (d : Nat → Nat) (vs : Nat → Value) : Nat → Act
  | 0 => a0
  | i + 1 => (puts a0 d vs i).put (some (d i)) (vs i)
theorem puts_size (a0 : Act) (d : Nat → Nat) (vs : Nat → Value) (n : Nat) : (puts a0 d vs n).tmps.size = a0.tmps.size ∧ (puts a0 d vs n).defers = a0.defers := by
  induction n with
  | zero => exact ⟨rfl, rfl⟩
  | succ n ih => simp [puts, Act.put, ih]
theorem puts_hit {a0 : Act} {d : Nat → Nat} {vs : Nat → Value} {n : Nat} (hi : ∀ i j, i < n → j < n → d i = d j → i = j) (hin : ∀ i, i < n → d i < a0.tmps.size) : ∀ i, i < n → (puts a0 d vs n).tmps.getD (d i) undef = vs i := by
  induction n with
  | zero => intro i h; omega
  | succ n ih =>
    intro i h
    show ((puts a0 d vs n).tmps.setIfInBounds (d n) (vs n)).getD (d i) undef = vs i
    by_cases e : i = n
    · subst e
      have := hin i h
      have hs := (puts_size a0 d vs i).1
      simp [Array.getD_eq_getD_getElem?, hs, this]
    · have hne : d n ≠ d i := fun h2 => e (hi n i (by omega) h h2).symm
      rw [Array.getD_eq_getD_getElem?, Array.getElem?_setIfInBounds_ne hne, ← Array.getD_eq_getD_getElem?]
      exact ih (fun a b ha hb => hi a b (by omega) (by omega)) (fun a ha => hin a (by omega)) i (by omega)
theorem puts_miss {a0 : Act} {d : Nat → Nat} {vs : Nat → Value} {n t : Nat} (h : ∀ i, i < n → d i ≠ t) : (puts a0 d vs n).tmps.getD t undef = a0.tmps.getD t undef := by
  induction n with
  | zero => rfl
  | succ n ih =>
    show ((puts a0 d vs n).tmps.setIfInBounds (d n) (vs n)).getD t undef = _
    rw [Array.getD_eq_getD_getElem?, Array.getElem?_setIfInBounds_ne (h n (by omega)), ← Array.getD_eq_getD_getElem?]
    exact ih (fun i hi => h i (by omega))
theorem act_same {a b : Act} (hs : a.tmps.size = b.tmps.size) (hd : a.defers = b.defers) (h : ∀ t, t < a.tmps.size → a.tmps.getD t undef = b.tmps.getD t undef) : a = b := by
  obtain ⟨ta, da⟩ := a
  obtain ⟨tb, db⟩ := b
  simp only at hs hd h
  subst hd
  congr 1
  apply Array.ext hs
  intro i h1 h2
  have := h i h1
  simpa [Array.getD, h1, h2] using this
/-- What holds while the region goes on. -/
structure Grw (n : Nat) (d : Nat → Nat) (G : Nat → Value → World → Prop) (a0 : Act) (W0 : World) (listed : Array Bool) (a : Act) (w : World) : Prop where
  b : Below W0.heap.size W0 w
  s : a.tmps.size = a0.tmps.size
  f : a.defers = a0.defers
  l : listed.size = n + 1
  z : listed.getD n true = false
  x : ∀ t, (∀ i, i < n → d i ≠ t) → a.tmps.getD t undef = a0.tmps.getD t undef
  g : ∀ i, i < n → listed.getD i true = true → G i (a.tmps.getD (d i) undef) w
theorem getD_two {l : Array Bool} {i : Nat} {x : Bool} (h : i < l.size) : l.getD i true = x ↔ l.getD i false = x := by simp [Array.getD, h]
/-- How many are still to come. -/
def left (l : Array Bool) (n : Nat) : Nat := ((List.range n).filter fun i => !l.getD i true).length
theorem left_set {l : Array Bool} {n i : Nat} (hi : i < n) (hs : i < l.size) (h : l.getD i true = false) : left (l.setIfInBounds i true) n < left l n := by
  unfold left
  have sub : ∀ (m : List Nat), m.Nodup → ((m.filter fun j => !(l.setIfInBounds i true).getD j true).length ≤ (m.filter fun j => !l.getD j true).length) ∧ (i ∈ m → (m.filter fun j => !(l.setIfInBounds i true).getD j true).length < (m.filter fun j => !l.getD j true).length) := by
    intro m
    induction m with
    | nil => intro _; simp
    | cons x r ih =>
      intro hm
      obtain ⟨i1, i2⟩ := ih (List.nodup_cons.1 hm).2
      by_cases e : x = i
      · subst e
        have h1 : (l.setIfInBounds x true).getD x true = true := by simp [Array.getD, hs]
        rw [List.filter_cons, List.filter_cons, h1, h]
        simp only [Bool.not_true, Bool.not_false, if_true, Bool.false_eq_true, if_false, List.length_cons]
        exact ⟨by omega, fun _ => by omega⟩
      · have h1 : (l.setIfInBounds i true).getD x true = l.getD x true := by
          rw [Array.getD_eq_getD_getElem?, Array.getElem?_setIfInBounds_ne (Ne.symm e), ← Array.getD_eq_getD_getElem?]
        rw [List.filter_cons, List.filter_cons, h1]
        cases l.getD x true
        · simp only [Bool.not_false, if_true, List.length_cons]
          exact ⟨by omega, fun hm2 => by
            rcases List.mem_cons.1 hm2 with q | q
            · exact absurd q.symm e
            · have := i2 q; omega⟩
        · simp only [Bool.not_true, Bool.false_eq_true, if_false]
          exact ⟨i1, fun hm2 => by
            rcases List.mem_cons.1 hm2 with q | q
            · exact absurd q.symm e
            · exact i2 q⟩
  exact (sub (List.range n) List.nodup_range).2 (List.mem_range.2 hi)
section
variable {P : Program} {ops : Array Oper} {Q : Exit → Act → World → Prop} {n : Nat} {d : Nat → Nat} {G : Nat → Value → World → Prop} {a0 : Act} {W0 : World}
theorem any_grow (hsz : ops.size = n + 1)
    (hdst : ∀ (i : Nat) (o : Oper), i < n → ops[i]? = some o → o.dst = some (d i)) (hinj : ∀ i j, i < n → j < n → d i = d j → i = j) (hin : ∀ i, i < n → d i < a0.tmps.size)
    (hguard : ∀ (i : Nat) (o : Oper), ops[i]? = some o → o.guard = none)
    (hback : ∀ (i : Nat) (o : Oper), ops[i]? = some o → ∀ e ∈ o.after, e.on < i)
    (hlast : ∀ o : Oper, ops[n]? = some o → ∀ j, j < n → ∃ e ∈ o.after, Region.binds .any e = true ∧ e.on = j)
    (hst : ∀ i v w w', G i v w → Below w.heap.size w w' → G i v w')
    (hstep : ∀ (i : Nat) (o : Oper), i < n → ops[i]? = some o → ∀ (a : Act) (w : World), Below W0.heap.size W0 w → (∀ t, (∀ j, j < n → d j ≠ t) → a.tmps.getD t undef = a0.tmps.getD t undef) → (∀ e ∈ o.after, Region.binds .any e = true → G e.on (a.tmps.getD (d e.on) undef) w) →
      ∀ K : Act → World → Prop, (∀ v w', G i v w' → Below w.heap.size w w' → K (a.put (some (d i)) v) w') → o.wp P a w K Q)
    (hend : ∀ o : Oper, ops[n]? = some o → ∀ (vs : Nat → Value) (w : World), Below W0.heap.size W0 w → (∀ i, i < n → G i (vs i) w) → o.wp P (puts a0 d vs n) w (Q .normal) Q) :
    ∀ (fuel : Nat) (listed : Array Bool) (a : Act) (w : World), left listed (n + 1) ≤ fuel → Grw n d G a0 W0 listed a w → wpAny P .any ops Q fuel listed a w := by
  have wanted : ∀ (i : Nat) (o : Oper) (a : Act), ops[i]? = some o → Region.wanted o (yielded ops a.tmps) = true := fun i o a h => by
    unfold Region.wanted
    rw [hguard i o h]
  intro fuel
  induction fuel with
  | zero =>
    intro listed a w hf hg
    exfalso
    have := left_set (n := n + 1) (i := n) (by omega) (by rw [hg.l]; omega) hg.z
    omega
  | succ fuel ih =>
    intro listed a w hf hg
    have some_ : ∀ i, i ≤ n → ∃ o, ops[i]? = some o := fun i hi => ⟨ops[i]'(by omega), by rw [Array.getElem?_eq_getElem]⟩
    refine ⟨fun hr => ?_, fun i hi => ?_⟩
    · exfalso
      -- the least that is not listed is ready
      have : ∃ i, i ≤ n ∧ listed.getD i true = false ∧ ∀ j, j < i → listed.getD j true = true := by
        have key : ∀ m, m ≤ n → (∀ j, j < m → listed.getD j true = true) ∨ ∃ i, i ≤ n ∧ listed.getD i true = false ∧ ∀ j, j < i → listed.getD j true = true := by
          intro m
          induction m with
          | zero => intro _; exact .inl (fun j hj => by omega)
          | succ m ihm =>
            intro hm
            rcases ihm (by omega) with q | q
            · cases hv : listed.getD m true with
              | false => exact .inr ⟨m, by omega, hv, q⟩
              | true => exact .inl (fun j hj => by
                  by_cases e : j = m
                  · subst e; exact hv
                  · exact q j (by omega))
            · exact .inr q
        rcases key n (Nat.le_refl _) with q | q
        · exact ⟨n, Nat.le_refl _, hg.z, q⟩
        · exact q
      obtain ⟨i, h1, h2, h3⟩ := this
      obtain ⟨o, ho⟩ := some_ i h1
      have : i ∈ Region.ready .any ops listed := mem_ready.2 ⟨h2, o, ho, fun e he _ => (getD_two (by rw [hg.l]; have := hback i o ho e he; omega)).1 (h3 e.on (hback i o ho e he))⟩
      rw [hr] at this
      cases this
    · obtain ⟨hun, o, ho, hall⟩ := mem_ready.1 hi
      have hin2 : i ≤ n := by
        have := (Array.getElem?_eq_some_iff.1 ho).1
        omega
      unfold wpOp
      simp only [ho]
      rw [if_pos (wanted i o a ho)]
      refine .inl ?_
      by_cases hl : i = n
      · subst hl
        -- the last one
        have hall2 : ∀ j, j < i → listed.getD j true = true := fun j hj => by
          obtain ⟨e, he, hb, rfl⟩ := hlast o ho j hj
          exact (getD_two (by rw [hg.l]; omega)).2 (hall e he hb)
        have ha : a = puts a0 d (fun j => a.tmps.getD (d j) undef) i := by
          refine act_same (by rw [(puts_size _ _ _ _).1]; exact hg.s) (by rw [(puts_size _ _ _ _).2]; exact hg.f) (fun t _ => ?_)
          by_cases hx : ∃ j, j < i ∧ d j = t
          · obtain ⟨j, hj, rfl⟩ := hx
            rw [puts_hit hinj hin j hj]
          · have hx' : ∀ j, j < i → d j ≠ t := fun j hj he => hx ⟨j, hj, he⟩
            rw [puts_miss hx', hg.x t hx']
        have hE := hend o ho (fun j => a.tmps.getD (d j) undef) w hg.b (fun j hj => hg.g j hj (hall2 j hj))
        rw [← ha] at hE
        refine Oper.wp_mono (fun a' w' hq => ?_) hE
        -- nothing is left
        have hz : ∀ m, wpAny P .any ops Q m (listed.setIfInBounds i true) a' w' := fun m => by
          have hr : Region.ready .any ops (listed.setIfInBounds i true) = [] := by
            rw [List.eq_nil_iff_forall_not_mem]
            intro j hj
            obtain ⟨h1, o', ho', _⟩ := mem_ready.1 hj
            have hjn : j < i + 1 := by
              have := (Array.getElem?_eq_some_iff.1 ho').1
              omega
            by_cases e : j = i
            · subst e
              have : (listed.setIfInBounds j true).getD j true = true := by simp [Array.getD, hg.l]
              rw [this] at h1; cases h1
            · rw [Array.getD_eq_getD_getElem?, Array.getElem?_setIfInBounds_ne (Ne.symm e), ← Array.getD_eq_getD_getElem?, hall2 j (by omega)] at h1
              cases h1
          cases m with
          | zero => exact ⟨hr, hq⟩
          | succ m => exact ⟨fun _ => hq, fun j hj => by rw [hr] at hj; cases hj⟩
        exact hz fuel
      · have hlt : i < n := by omega
        refine hstep i o hlt ho a w hg.b hg.x (fun e he hb => ?_) _ (fun v w' hv hb => ?_)
        · have := hback i o ho e he
          exact hg.g e.on (by omega) ((getD_two (by rw [hg.l]; omega)).2 (hall e he hb))
        · have hgr : Grw n d G a0 W0 (listed.setIfInBounds i true) (a.put (some (d i)) v) w' := by
            refine ⟨bw_below (Nat.le_refl _) hg.b hb, by simp [Act.put, hg.s], by simp [Act.put, hg.f], by simp [hg.l], ?_, fun t ht => ?_, fun j hj hjl => ?_⟩
            · rw [Array.getD_eq_getD_getElem?, Array.getElem?_setIfInBounds_ne (by omega), ← Array.getD_eq_getD_getElem?]; exact hg.z
            · show (a.tmps.setIfInBounds (d i) v).getD t undef = _
              rw [Array.getD_eq_getD_getElem?, Array.getElem?_setIfInBounds_ne (ht i hlt), ← Array.getD_eq_getD_getElem?]
              exact hg.x t ht
            · show G j ((a.tmps.setIfInBounds (d i) v).getD (d j) undef) w'
              by_cases e : j = i
              · subst e
                have : d j < a.tmps.size := by rw [hg.s]; exact hin j hlt
                simpa [Array.getD_eq_getD_getElem?, Array.getElem?_setIfInBounds_self, this] using hv
              · have hne : d i ≠ d j := fun h2 => e (hinj i j hlt hj h2).symm
                rw [Array.getD_eq_getD_getElem?, Array.getElem?_setIfInBounds_ne hne, ← Array.getD_eq_getD_getElem?]
                refine hst j _ w w' (hg.g j hj ?_) hb
                rwa [Array.getD_eq_getD_getElem?, Array.getElem?_setIfInBounds_ne (Ne.symm e), ← Array.getD_eq_getD_getElem?] at hjl
          exact ih _ _ _ (by have := left_set (n := n + 1) (i := i) (by omega) (by rw [hg.l]; omega) hun; omega) hgr
end
end Go.Proofs.Ytibpgcdaommjeaa
