/-
  The contracts of Add and Sub.
-/
import Derived.Test.YtkjollifghmkbaaWideK
namespace Go.Proofs.Ytkjollifghmkbaa
open Go.RowKit
attribute [local go_sem ↓] Go.wp_at_zero Go.wp_at_succ

theorem Sl.below {w w' : World} {A : Option Addr} {L n : Nat} (h : Sl w A L n) (c : Below w.heap.size w w') : Sl w' A L n :=
  ⟨h.1, fun hl => by obtain ⟨g, e, r⟩ := h.2 hl; exact ⟨g, e, r.below c r.lt⟩⟩
theorem Semi.sl {w : World} {b o n : Nat} {s : Bool} (h : Semi w b o s n) : ∃ A L c, w.cell? ⟨b, o + 1, none⟩ = some (.slice A L c) ∧ Sl w A L n ∧ (0 < L → 4294967296 ^ (L - 1) ≤ n) := by
  obtain ⟨A, L, c, h1, h2, h3, h4⟩ := h.len
  exact ⟨A, L, c, h1, ⟨h2, h4⟩, h3⟩
theorem len_le {n L M : Nat} (h : 0 < L → 4294967296 ^ (L - 1) ≤ n) (hn : n < 4294967296 ^ M) : L ≤ M := by
  rcases Nat.eq_zero_or_pos L with z | z
  · omega
  · have : L - 1 < M := (Nat.pow_lt_pow_iff_right (a := 4294967296) (by omega)).1 (Nat.lt_of_le_of_lt (h z) hn)
    omega
theorem raw_set {w : World} {b o g L c n : Nat} (s : Bool) (h : Hdr w b o) (r : Row w g L n) (hc : L ≤ c) (hn : n < 4294967296 ^ L) :
    Raw ((w.setCell ⟨b, o, none⟩ (.bool s)).setCell ⟨b, o + 1, none⟩ (.slice (some ⟨g, 0, none⟩) L c)) b o s L n := by
  have h1 := h.set_ o (.inl rfl) (.bool s)
  have h2 := h1.set_ (o + 1) (.inr rfl) (.slice (some ⟨g, 0, none⟩) L c)
  obtain ⟨u, hu⟩ := h.2.2.2.2.1
  obtain ⟨v, hv⟩ := h1.2.2.2.2.2
  refine ⟨h2.1, h2.2.1, h2.2.2.1, h2.2.2.2.1, ?_, hn, g, c, World.cell?_setCell_same _ _ _ hv, hc, (r.set_ h.2.1 _).set_ h1.2.1 _⟩
  rw [World.cell?_setCell_other _ _ _ _ (by intro e; injection e with _ e _; omega)]
  exact World.cell?_setCell_same _ _ _ hu
theorem sum_lt {X Y L L' M : Nat} (hX : X < 4294967296 ^ L) (hY : Y < 4294967296 ^ L') (h : L ≤ M) (h' : L' ≤ M) : X + Y < 4294967296 ^ (M + 1) := by
  have a := Nat.pow_le_pow_right (n := 4294967296) (by omega) h
  have b := Nat.pow_le_pow_right (n := 4294967296) (by omega) h'
  rw [Nat.pow_succ]
  omega
/-- What Add makes. -/
def addV (s t : Bool) (X Y : Nat) : Int := num s X + num t Y
def GivesV (b o : Nat) (v : Int) (w : World) (e : Ending) (w' : World) : Prop := GivesInt b o (decide (v < 0)) (mag v) w e w'
theorem num_mag (s : Bool) (n : Nat) : mag (num s n) = n ∧ (n = 0 ∧ decide (num s n < 0) = false ∨ n ≠ 0 ∧ decide (num s n < 0) = s) := by
  unfold num mag
  cases s
  · simp; by_cases h : n = 0 <;> simp [h] <;> omega
  · simp; by_cases h : n = 0 <;> simp [h] <;> omega
theorem add_same_v {s : Bool} {X Y : Nat} {v : Int} (h : addV s s X Y = v) : v = num s (X + Y) := by
  subst h; unfold addV num; cases s <;> simp <;> omega
set_option maxHeartbeats 4000000 in
theorem add_same (b o x ox y oy X Y : Nat) (s : Bool) (M : Nat) (hM : M ≤ 1073741823) (hX : X < 4294967296 ^ M) (hY : Y < 4294967296 ^ M) (w : World) (hz : Hdr w b o) (hx : IntAt w x ox s X) (hy : IntAt w y oy s Y) (v : Int) (hv : addV s s X Y = v) :
    Calls Try.prog 61 #[.pointer (some ⟨b, o, none⟩), .pointer (some ⟨x, ox, none⟩), .pointer (some ⟨y, oy, none⟩)] w (GivesV b o v w) := by
  obtain ⟨A, L, c, q1, q2, q3⟩ := hx.semi.sl
  obtain ⟨A', L', c', q1', q2', q3'⟩ := hy.semi.sl
  have hL := len_le q3 hX
  have hL' := len_le q3' hY
  obtain ⟨k1, _, _, _, k5, _⟩ := id hx
  obtain ⟨j1, _, _, _, j5, _⟩ := id hy
  obtain ⟨l1, _, l3, l4, ⟨u0, l5⟩, ⟨u1, l6⟩⟩ := id hz
  have Q := Lib.hid q2
  have Q' := Lib.hid q2'
  have HZ := Lib.hid hz
  have HV := Lib.hid hv
  obtain ⟨N, hN⟩ : ∃ N, L' ≤ L ∧ N = L ∨ L < L' ∧ N = L' := by
    rcases Nat.lt_or_ge L L' with h | h
    · exact ⟨L', .inr ⟨h, rfl⟩⟩
    · exact ⟨L, .inl ⟨h, rfl⟩⟩
  have hN2 : N ≤ M := by omega
  have HN := Lib.hid hN
  clear q2 q2' q3 q3' hx hy hz hX hY hN hv
  go_enter Try.func61, Try.ntmps61
  go_wp2_with fail
  go_quiet (fail)
  go_wp2_with fail
  go_region_law ((go_simp; go_at_call 83; refine (sum_any A A' L L' c c' X Y N (by omega) (by omega) HN.out _ (Q.out.below (below_drewN (Below.refl _ _) _)) (Q'.out.below (below_drewN (Below.refl _ _) _))).mono ?_; rintro e w1 ⟨rfl, hr1, hb0⟩; have hb1 : Below w.heap.size w w1 := Below.trans (below_drewN (Below.refl _ _) _) hb0; have HR1 := Lib.hid hr1; clear hr1 hb0; obtain ⟨hc1, hf1⟩ := brules hb1))
  all_goals
    go_wp2_with fail
    have hv := add_same_v HV.out
    obtain ⟨m1, m2⟩ := num_mag s (X + Y)
    refine (trim_any b o s (decide (num s (X + Y) < 0)) (N + 1) (X + Y) _ (raw_set s (HZ.out.below hb1) HR1.out (Nat.le_refl _) (sum_lt Q.out.1 Q'.out.1 (by have := HN.out; omega) (by have := HN.out; omega))) (by omega) m2).mono ?_
    rintro e w2 ⟨rfl, hi2, hg2⟩
    have HI2 := Lib.hid hi2
    clear hi2 m1 m2
    go_wp2
    go_ret
    refine ⟨rfl, ?_, (((Chg.refl HZ.out).below hb1 (Nat.le_refl _)).set0 _).set1 _ |>.trans hg2⟩
    rw [hv, (num_mag s (X + Y)).1]
    exact HI2.out
theorem less_v1 {s t : Bool} {X Y : Nat} {v : Int} (h : addV s t X Y = v) (hst : (s == t) = false) (hle : Y ≤ X) : v = num s (X - Y) := by
  subst h; unfold addV num; cases s <;> cases t <;> simp at hst ⊢ <;> omega
theorem less_v2 {s t : Bool} {X Y : Nat} {v : Int} (h : addV s t X Y = v) (hst : (s == t) = false) (hle : X < Y) : v = num t (Y - X) := by
  subst h; unfold addV num; cases s <;> cases t <;> simp at hst ⊢ <;> omega
set_option maxHeartbeats 4000000 in
theorem add_high (b o x ox y oy X Y : Nat) (s t : Bool) (hst : (s == t) = false) (hle : Y ≤ X) (M : Nat) (hM : M ≤ 1073741823) (hX : X < 4294967296 ^ M) (hY : Y < 4294967296 ^ M) (w : World) (hz : Hdr w b o) (hx : IntAt w x ox s X) (hy : IntAt w y oy t Y) (v : Int) (hv : addV s t X Y = v) :
    Calls Try.prog 61 #[.pointer (some ⟨b, o, none⟩), .pointer (some ⟨x, ox, none⟩), .pointer (some ⟨y, oy, none⟩)] w (GivesV b o v w) := by
  obtain ⟨A, L, c, q1, q2, q3⟩ := hx.semi.sl
  obtain ⟨A', L', c', q1', q2', q3'⟩ := hy.semi.sl
  have hL := len_le q3 hX
  have hL' := len_le q3' hY
  obtain ⟨k1, _, _, _, k5, _⟩ := id hx
  obtain ⟨j1, _, _, _, j5, _⟩ := id hy
  obtain ⟨l1, _, l3, l4, ⟨u0, l5⟩, ⟨u1, l6⟩⟩ := id hz
  have Q := Lib.hid q2
  have Q' := Lib.hid q2'
  have HZ := Lib.hid hz
  have HV := Lib.hid hv
  have HLE := Lib.hid hle
  have HST := Lib.hid hst
  have HX := Lib.hid hx
  have HY := Lib.hid hy
  have HXM := Lib.hid hX
  have HYM := Lib.hid hY
  have hd : decide (0 ≤ cmpN X Y) = true := by unfold cmpN; simp; split <;> (try split) <;> omega
  clear q2 q2' q3 q3' hx hy hz hX hY hv hle
  go_enter Try.func61, Try.ntmps61
  go_wp2_with fail
  go_quiet (fail)
  go_wp2_with fail
  refine (cmpabs_any x ox X y oy Y s t M (by omega) HXM.out HYM.out _ (HX.out.below (below_drewN (Below.refl _ _) _)) (HY.out.below (below_drewN (Below.refl _ _) _))).mono ?_
  rintro e w0 ⟨rfl, kd, rfl⟩
  go_wp2_with fail
  go_region_law ((go_simp; go_at_call 84; refine (less_any A A' L L' c c' X Y (by omega) (by have := HLE.out; omega) _ (Q.out.below (below_drewN (Below.refl _ _) _)) (Q'.out.below (below_drewN (Below.refl _ _) _))).mono ?_; rintro e w1 ⟨rfl, hr1, hb0⟩; have hb1 : Below w.heap.size w w1 := Below.trans (below_drewN (Below.refl _ _) _) hb0; have HR1 := Lib.hid hr1; clear hr1 hb0; obtain ⟨hc1, hf1⟩ := brules hb1))
  all_goals
    go_wp2_with fail
    have hv := less_v1 HV.out HST.out HLE.out
    obtain ⟨m1, m2⟩ := num_mag s (X - Y)
    refine (trim_any b o s (decide (num s (X - Y) < 0)) L (X - Y) _ (raw_set s (HZ.out.below hb1) HR1.out (Nat.le_refl _) (Nat.lt_of_le_of_lt (Nat.sub_le _ _) Q.out.1)) (by omega) m2).mono ?_
    rintro e w2 ⟨rfl, hi2, hg2⟩
    have HI2 := Lib.hid hi2
    clear hi2 m1 m2
    go_wp2
    go_ret
    refine ⟨rfl, ?_, (((Chg.refl HZ.out).below hb1 (Nat.le_refl _)).set0 _).set1 _ |>.trans hg2⟩
    rw [hv, (num_mag s (X - Y)).1]
    exact HI2.out
set_option maxHeartbeats 4000000 in
theorem add_low (b o x ox y oy X Y : Nat) (s t : Bool) (hst : (s == t) = false) (hle : X < Y) (M : Nat) (hM : M ≤ 1073741823) (hX : X < 4294967296 ^ M) (hY : Y < 4294967296 ^ M) (w : World) (hz : Hdr w b o) (hx : IntAt w x ox s X) (hy : IntAt w y oy t Y) (v : Int) (hv : addV s t X Y = v) :
    Calls Try.prog 61 #[.pointer (some ⟨b, o, none⟩), .pointer (some ⟨x, ox, none⟩), .pointer (some ⟨y, oy, none⟩)] w (GivesV b o v w) := by
  obtain ⟨A, L, c, q1, q2, q3⟩ := hx.semi.sl
  obtain ⟨A', L', c', q1', q2', q3'⟩ := hy.semi.sl
  have hL := len_le q3 hX
  have hL' := len_le q3' hY
  obtain ⟨k1, _, _, _, k5, _⟩ := id hx
  obtain ⟨j1, _, _, _, j5, _⟩ := id hy
  obtain ⟨l1, _, l3, l4, ⟨u0, l5⟩, ⟨u1, l6⟩⟩ := id hz
  have Q := Lib.hid q2
  have Q' := Lib.hid q2'
  have HZ := Lib.hid hz
  have HV := Lib.hid hv
  have HLE := Lib.hid hle
  have HST := Lib.hid hst
  have HX := Lib.hid hx
  have HY := Lib.hid hy
  have HXM := Lib.hid hX
  have HYM := Lib.hid hY
  have hd : decide (0 ≤ cmpN X Y) = false := by unfold cmpN; simp; omega
  clear q2 q2' q3 q3' hx hy hz hX hY hv hle
  go_enter Try.func61, Try.ntmps61
  go_wp2_with fail
  go_quiet (fail)
  go_wp2_with fail
  refine (cmpabs_any x ox X y oy Y s t M (by omega) HXM.out HYM.out _ (HX.out.below (below_drewN (Below.refl _ _) _)) (HY.out.below (below_drewN (Below.refl _ _) _))).mono ?_
  rintro e w0 ⟨rfl, kd, rfl⟩
  go_wp2_with fail
  go_region_law ((go_simp; go_at_call 84; refine (less_any A' A L' L c' c Y X (by omega) (by have := HLE.out; omega) _ (Q'.out.below (below_drewN (Below.refl _ _) _)) (Q.out.below (below_drewN (Below.refl _ _) _))).mono ?_; rintro e w1 ⟨rfl, hr1, hb0⟩; have hb1 : Below w.heap.size w w1 := Below.trans (below_drewN (Below.refl _ _) _) hb0; have HR1 := Lib.hid hr1; clear hr1 hb0; obtain ⟨hc1, hf1⟩ := brules hb1))
  all_goals
    go_wp2_with fail
    have hv := less_v2 HV.out HST.out HLE.out
    obtain ⟨m1, m2⟩ := num_mag t (Y - X)
    refine (trim_any b o t (decide (num t (Y - X) < 0)) L' (Y - X) _ (raw_set t (HZ.out.below hb1) HR1.out (Nat.le_refl _) (Nat.lt_of_le_of_lt (Nat.sub_le _ _) Q'.out.1)) (by omega) m2).mono ?_
    rintro e w2 ⟨rfl, hi2, hg2⟩
    have HI2 := Lib.hid hi2
    clear hi2 m1 m2
    go_wp2
    go_ret
    refine ⟨rfl, ?_, (((Chg.refl HZ.out).below hb1 (Nat.le_refl _)).set0 _).set1 _ |>.trans hg2⟩
    rw [hv, (num_mag t (Y - X)).1]
    exact HI2.out
theorem add_any (b o x ox y oy X Y : Nat) (s t : Bool) (M : Nat) (hM : M ≤ 1073741823) (hX : X < 4294967296 ^ M) (hY : Y < 4294967296 ^ M) (w : World) (hz : Hdr w b o) (hx : IntAt w x ox s X) (hy : IntAt w y oy t Y) :
    Calls Try.prog 61 #[.pointer (some ⟨b, o, none⟩), .pointer (some ⟨x, ox, none⟩), .pointer (some ⟨y, oy, none⟩)] w (GivesV b o (addV s t X Y) w) := by
  by_cases hst : (s == t) = true
  · have e : s = t := by simpa using hst
    subst e
    exact add_same b o x ox y oy X Y s M hM hX hY w hz hx hy _ rfl
  · have hst' : (s == t) = false := by simpa using hst
    rcases Nat.lt_or_ge X Y with h | h
    · exact add_low b o x ox y oy X Y s t hst' h M hM hX hY w hz hx hy _ rfl
    · exact add_high b o x ox y oy X Y s t hst' h M hM hX hY w hz hx hy _ rfl
end Go.Proofs.Ytkjollifghmkbaa
