/-
  The contracts of the whole numbers' small functions: trim of what is trimmed, Neg, Abs, Sign, Uint64, Int64.
-/
import Derived.Test.YtkjollifghmkbaaWideC
namespace Go.Proofs.Ytkjollifghmkbaa
open Go.RowKit

/-- Nothing has changed but blocks that hold no digits, and what is new. -/
def Ch (S : Nat → Prop) (w w' : World) : Prop :=
  w'.os = w.os ∧ w'.tape = w.tape ∧ w'.output = w.output ∧ w.heap.size ≤ w'.heap.size ∧ (∀ g, g < w.heap.size → ¬ S g → w'.heap[g]? = w.heap[g]?) ∧
    (∀ g, g < w.heap.size → S g → ty w g ≠ some 87 ∧ ty w' g = ty w g)
section
variable {w w' w'' : World} {S T : Nat → Prop} {b o g n : Nat} {s : Bool}
theorem Ch.size (h : Ch S w w') : w.heap.size ≤ w'.heap.size := h.2.2.2.1
theorem Ch.ty_eq (h : Ch S w w') (hg : g < w.heap.size) : ty w' g = ty w g := by
  by_cases hs : S g
  · exact (h.2.2.2.2.2 g hg hs).2
  · exact ty_of_block (h.2.2.2.2.1 g hg hs)
theorem Ch.refl (w : World) : Ch (fun _ => False) w w := ⟨rfl, rfl, rfl, Nat.le_refl _, fun _ _ _ => rfl, fun _ _ h => h.elim⟩
theorem Ch.mono (h : Ch S w w') (k : ∀ g, g < w.heap.size → S g → T g ∧ ty w g ≠ some 87) (k' : ∀ g, g < w.heap.size → T g → ty w g ≠ some 87) : Ch T w w' :=
  ⟨h.1, h.2.1, h.2.2.1, h.2.2.2.1, fun g hg ht => h.2.2.2.2.1 g hg (fun hs => ht (k g hg hs).1), fun g hg ht => ⟨k' g hg ht, h.ty_eq hg⟩⟩
theorem Ch.trans (h : Ch S w w') (k : Ch T w' w'') : Ch (fun g => S g ∨ T g) w w'' := by
  refine ⟨k.1.trans h.1, k.2.1.trans h.2.1, k.2.2.1.trans h.2.2.1, Nat.le_trans h.size k.size, fun g hg hn => ?_, fun g hg hs => ?_⟩
  · exact (k.2.2.2.2.1 g (Nat.lt_of_lt_of_le hg h.size) (fun x => hn (.inr x))).trans (h.2.2.2.2.1 g hg (fun x => hn (.inl x)))
  · refine ⟨?_, (k.ty_eq (Nat.lt_of_lt_of_le hg h.size)).trans (h.ty_eq hg)⟩
    rcases hs with hs | hs
    · exact (h.2.2.2.2.2 g hg hs).1
    · rw [← h.ty_eq hg]; exact (k.2.2.2.2.2 g (Nat.lt_of_lt_of_le hg h.size) hs).1
theorem Chg.ch (h : Chg b o w w') : Ch (fun g => g = b) w w' :=
  ⟨h.1, h.2.1, h.2.2.1, h.2.2.2.1, h.2.2.2.2.1, fun g _ hs => by rw [hs]; exact ⟨h.2.2.2.2.2.2.1, h.2.2.2.2.2.2.2.1⟩⟩
theorem ch_of_below (h : Below w.heap.size w w') : Ch (fun _ => False) w w' := ⟨h.os, h.tape, h.output, h.size, fun g hg _ => h.block g hg, fun _ _ x => x.elim⟩
theorem Ch.below {B : Nat} (h : Ch S w w') (hB : B ≤ w.heap.size) (hs : ∀ g, g < B → ¬ S g) : Below B w w' :=
  ⟨h.1, h.2.1, h.2.2.1, h.2.2.2.1, fun g hg => h.2.2.2.2.1 g (Nat.lt_of_lt_of_le hg hB) (hs g hg)⟩
/-- Behind a change of what is new: what has changed of the old. -/
theorem Ch.old (h : Ch S w w') (k : Ch T w' w'') (hT : ∀ g, g < w.heap.size → ¬ T g) : Ch S w w'' :=
  ⟨k.1.trans h.1, k.2.1.trans h.2.1, k.2.2.1.trans h.2.2.1, Nat.le_trans h.size k.size, fun g hg hn => (k.2.2.2.2.1 g (Nat.lt_of_lt_of_le hg h.size) (hT g hg)).trans (h.2.2.2.2.1 g hg hn),
    fun g hg hs => ⟨(h.2.2.2.2.2 g hg hs).1, (k.ty_eq (Nat.lt_of_lt_of_le hg h.size)).trans (h.ty_eq hg)⟩⟩
theorem Ch.then_ (h : Ch S w w') (k : Ch S w' w'') : Ch S w w'' := by
  have := h.trans k
  exact ⟨this.1, this.2.1, this.2.2.1, this.2.2.2.1, fun g hg hn => this.2.2.2.2.1 g hg (by simpa using hn), fun g hg hs => this.2.2.2.2.2 g hg (.inl hs)⟩
theorem Row.ch {L : Nat} (r : Row w g L n) (h : Ch S w w') : Row w' g L n := by
  obtain ⟨cs, e, k⟩ := id r
  refine ⟨cs, (h.2.2.2.2.1 g r.lt (fun hs => ?_)).trans e, k⟩
  exact (h.2.2.2.2.2 g r.lt hs).1 (by unfold ty; rw [e]; rfl)
theorem Digs.ch {v : Value} (h : Digs w v n) (c : Ch S w w') : Digs w' v n := by
  obtain ⟨L, c', h1, h2, h3, h4⟩ := h
  refine ⟨L, c', h1, h2, h3, h4.imp id ?_⟩
  rintro ⟨g, e, r⟩
  exact ⟨g, e, r.ch c⟩
/-- A number whose sign may be that of a nought below 0. -/
def Semi (w : World) (b o : Nat) (s : Bool) (n : Nat) : Prop := Hdr w b o ∧ w.cell? ⟨b, o, none⟩ = some (.bool s) ∧ ∃ v, w.cell? ⟨b, o + 1, none⟩ = some v ∧ Digs w v n
theorem IntAt.semi (h : IntAt w b o s n) : Semi w b o s n := ⟨h.hdr, h.2.2.2.2.1, h.2.2.2.2.2.1⟩
theorem IntAt.zero (h : IntAt w b o s n) : n = 0 → s = false := h.2.2.2.2.2.2
theorem Semi.int (h : Semi w b o s n) (z : n = 0 → s = false) : IntAt w b o s n := by
  obtain ⟨h1, h2, v, h3, h4⟩ := h
  exact int_of h1 h2 h3 h4 z
theorem Hdr.ch (h : Hdr w b o) (c : Ch S w w') (hn : ¬ S b) : Hdr w' b o := by
  obtain ⟨h1, h2, h3, h4, ⟨u, h5⟩, ⟨v, h6⟩⟩ := h
  have e := c.2.2.2.2.1 b h1 hn
  exact ⟨Nat.lt_of_lt_of_le h1 c.size, by rw [ty_of_block e]; exact h2, (World.frozen?_of_block (a := ⟨b, o, none⟩) e).trans h3, (World.frozen?_of_block (a := ⟨b, o + 1, none⟩) e).trans h4,
    ⟨u, (World.cell?_of_block (a := ⟨b, o, none⟩) e).trans h5⟩, ⟨v, (World.cell?_of_block (a := ⟨b, o + 1, none⟩) e).trans h6⟩⟩
theorem Semi.ch (h : Semi w b o s n) (c : Ch S w w') (hn : ¬ S b) : Semi w' b o s n := by
  obtain ⟨h1, h2, v, h3, h4⟩ := h
  have e := c.2.2.2.2.1 b h1.1 hn
  exact ⟨h1.ch c hn, (World.cell?_of_block (a := ⟨b, o, none⟩) e).trans h2, v, (World.cell?_of_block (a := ⟨b, o + 1, none⟩) e).trans h3, h4.ch c⟩
theorem IntAt.ch (h : IntAt w b o s n) (c : Ch S w w') (hn : ¬ S b) : IntAt w' b o s n := (h.semi.ch c hn).int h.zero
theorem Semi.sign (h : Semi w b o s n) (t : Bool) : Semi (w.setCell ⟨b, o, none⟩ (.bool t)) b o t n := by
  obtain ⟨h1, h2, v, h3, h4⟩ := h
  refine ⟨h1.set_ _ (.inl rfl) _, World.cell?_setCell_same _ _ _ h2, v, ?_, h4.set_ h1.2.1 _⟩
  rw [World.cell?_setCell_other _ _ _ _ (by intro e; injection e with _ e _; omega)]; exact h3
theorem Hdr.ch_set (h : Hdr w b o) (i : Nat) (hi : i = o ∨ i = o + 1) (u : Value) : Ch (fun g => g = b) w (w.setCell ⟨b, i, none⟩ u) := ((Chg.refl h).set_ i hi u).ch
/-- The slice of a number, its length and its first digits. -/
theorem Semi.len (h : Semi w b o s n) : ∃ A L c, w.cell? ⟨b, o + 1, none⟩ = some (.slice A L c) ∧ n < 4294967296 ^ L ∧ (0 < L → 4294967296 ^ (L - 1) ≤ n) ∧ (0 < L → ∃ g, A = some ⟨g, 0, none⟩ ∧ Row w g L n) := by
  obtain ⟨h1, h2, v, h3, L, c, k1, k2, k3, ⟨rfl, rfl⟩ | ⟨g, rfl, r⟩⟩ := h
  · exact ⟨_, _, _, h3, k1, k2, fun x => by omega⟩
  · exact ⟨_, _, _, h3, k1, k2, fun _ => ⟨g, rfl, r⟩⟩
end
theorem len_zero {n L : Nat} (h : n < 4294967296 ^ L) (h' : 0 < L → 4294967296 ^ (L - 1) ≤ n) : n = 0 ↔ L = 0 := by
  constructor
  · rintro rfl
    rcases Nat.eq_zero_or_pos L with z | z
    · exact z
    · have := h' z; have := pow_pos' (L - 1); omega
  · rintro rfl; simp at h; exact h
theorem len_two {n L : Nat} (h' : 0 < L → 4294967296 ^ (L - 1) ≤ n) (hn : n ≤ 18446744073709551615) : L ≤ 2 := by
  rcases Nat.lt_or_ge 2 L with z | z
  · have h1 := h' (by omega)
    have h2 : 4294967296 ^ 2 ≤ 4294967296 ^ (L - 1) := Nat.pow_le_pow_right (by omega) (by omega)
    omega
  · exact z

set_option maxHeartbeats 1000000 in
theorem trim_int (b o : Nat) (s s' : Bool) (n : Nat) (M : Nat) (hM : M ≤ 1073741824) (hn : n < 4294967296 ^ M) (w : World) (h : Semi w b o s n) (hs : n = 0 ∧ s' = false ∨ n ≠ 0 ∧ s' = s) :
    Calls Try.prog 80 #[.pointer (some ⟨b, o, none⟩)] w (GivesInt b o s' n w) := by
  obtain ⟨h1, h2, v, h3, L, c, k1, k2, k3, ⟨rfl, rfl⟩ | ⟨g, rfl, r⟩⟩ := id h
  · obtain rfl : n = 0 := by simpa using k1
    obtain rfl : s' = false := by simpa using hs
    have H := Lib.hid h1
    obtain ⟨q1, _, q3, q4, _⟩ := h1
    clear h hs hn k1 k2
    go_enter Try.func80, Try.ntmps80
    go_wp2
    go_loop [3] (fun i => i = .int .i64 0) (fun i => 0)
    case atStart => rfl
    case round =>
      obtain rfl := hrel
      go_wp2
      go_ret
      exact ⟨rfl, int_set10 false H.out ⟨0, c, by simp, by simp, k3, .inl ⟨rfl, rfl⟩⟩ (fun _ => rfl), ((Chg.refl H.out).set1 _).set0 _⟩
  · have hL : L ≤ M := by
      rcases Nat.eq_zero_or_pos L with z | z
      · omega
      · have : L - 1 < M := (Nat.pow_lt_pow_iff_right (a := 4294967296) (by omega)).1 (Nat.lt_of_le_of_lt (k2 z) hn)
        omega
    exact trim_any b o s s' L n w ⟨h1.1, h1.2.1, h1.2.2.1, h1.2.2.2.1, h2, k1, g, c, h3, k3, r⟩ (by omega) hs

set_option maxHeartbeats 1000000 in
theorem neg_any (b o n b' o' : Nat) (s : Bool) (M : Nat) (hM : M ≤ 1073741824) (hn : n < 4294967296 ^ M) (w : World) (h : Hdr w b o) (hx : IntAt w b' o' s n) :
    Calls Try.prog 82 #[.pointer (some ⟨b, o, none⟩), .pointer (some ⟨b', o', none⟩)] w (GivesInt b o (!s && !decide (n = 0)) n w) := by
  have H := Lib.hid h
  have HX := Lib.hid hx
  have HN := Lib.hid hn
  clear h hx hn
  go_enter Try.func82, Try.ntmps82
  go_wp2_with fail
  refine (set_any b o n b' o' s M hM HN.out _ H.out HX.out).mono ?_
  rintro e w1 ⟨rfl, hi, hg⟩
  obtain ⟨A, L, c, q1, q2, q3, _⟩ := hi.semi.len
  have hz := len_zero q2 q3
  obtain ⟨k1, _, k3, _, k5, _⟩ := id hi
  have HI := Lib.hid hi
  clear hi q2 q3
  by_cases z : n = 0
  · obtain rfl : L = 0 := hz.1 z
    have e2 : s = false := HI.out.zero z
    subst e2
    have HZ := Lib.hid z
    clear hz z
    go_wp2
    go_ret
    refine ⟨rfl, ?_, hg.set0 _⟩
    have e1 : (!false && !decide (n = 0)) = false := by simp [HZ.out]
    rw [e1]
    exact int_sign HI.out false (fun _ => rfl)
  · have hL : 0 < L := by omega
    have HZ := Lib.hid z
    have hd : decide ((0 : Int) < (L : Int)) = true := by simp; omega
    clear hz z
    cases s
    all_goals
      go_wp2
      go_ret
      refine ⟨rfl, ?_, hg.set0 _⟩
      first
        | (have e1 : (!false && !decide (n = 0)) = true := by simp [HZ.out]
           rw [e1]
           exact int_sign HI.out true (fun x => absurd x HZ.out))
        | (have e1 : (!true && !decide (n = 0)) = false := by simp
           rw [e1]
           exact int_sign HI.out false (fun x => absurd x HZ.out))
set_option maxHeartbeats 1000000 in
theorem abs_any (b o n b' o' : Nat) (s : Bool) (M : Nat) (hM : M ≤ 1073741824) (hn : n < 4294967296 ^ M) (w : World) (h : Hdr w b o) (hx : IntAt w b' o' s n) :
    Calls Try.prog 91 #[.pointer (some ⟨b, o, none⟩), .pointer (some ⟨b', o', none⟩)] w (GivesInt b o false n w) := by
  have H := Lib.hid h
  have HX := Lib.hid hx
  have HN := Lib.hid hn
  clear h hx hn
  go_enter Try.func91, Try.ntmps91
  go_wp2_with fail
  refine (set_any b o n b' o' s M hM HN.out _ H.out HX.out).mono ?_
  rintro e w1 ⟨rfl, hi, hg⟩
  obtain ⟨k1, _, k3, _, k5, _⟩ := id hi
  have HI := Lib.hid hi
  clear hi
  go_wp2
  go_ret
  exact ⟨rfl, int_sign HI.out _ (fun _ => rfl), hg.set0 _⟩
def signOf (s : Bool) (n : Nat) : Int := if n = 0 then 0 else if s = true then -1 else 1
set_option maxHeartbeats 1000000 in
theorem sign_any (b o n : Nat) (s : Bool) (w : World) (h : IntAt w b o s n) :
    Calls Try.prog 77 #[.pointer (some ⟨b, o, none⟩)] w fun e w' => e = .returned (.int .i64 (signOf s n)) ∧ w = w' := by
  obtain ⟨A, L, c, q1, q2, q3, _⟩ := h.semi.len
  have hz := len_zero q2 q3
  obtain ⟨k1, _, k3, _, k5, _⟩ := id h
  clear h q2 q3
  by_cases z : n = 0
  · obtain rfl : L = 0 := hz.1 z
    have e1 : signOf s n = 0 := by simp [signOf, z]
    rw [e1]
    clear hz z e1
    go_enter Try.func77, Try.ntmps77
    go_wp2
    go_ret
    exact ⟨rfl, rfl⟩
  · have hd : ((L : Int) == 0) = false := by simp; omega
    have e1 : signOf s n = if s = true then -1 else 1 := by simp [signOf, z]
    rw [e1]
    clear hz z e1
    cases s
    all_goals
      go_enter Try.func77, Try.ntmps77
      go_wp2
      go_ret
      exact ⟨rfl, rfl⟩
end Go.Proofs.Ytkjollifghmkbaa
