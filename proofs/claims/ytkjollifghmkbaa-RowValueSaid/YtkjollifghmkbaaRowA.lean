/-
  The contracts of row's small functions on long numbers: at, cut, compare.
-/
import Derived.Test.YtkjollifghmkbaaWideK
import Derived.OwnWalk
namespace Go.Proofs.Ytkjollifghmkbaa
open Go.RowKit

/-- A slice of digits, the last one no nought. -/
def Lg (w : World) (A : Option Addr) (L n : Nat) : Prop := Sl w A L n ∧ (0 < L → 4294967296 ^ (L - 1) ≤ n)
/-- The way in which a call that makes a long number ends. -/
def GivesLg (n K : Nat) (w : World) (e : Ending) (w' : World) : Prop := ∃ A L c, e = .returned (.slice A L c) ∧ L ≤ K ∧ L ≤ c ∧ Lg w' A L n ∧ Below w.heap.size w w'
theorem Sl.below {w w' : World} {A : Option Addr} {L n : Nat} (h : Sl w A L n) (hb : Below w.heap.size w w') : Sl w' A L n :=
  ⟨h.1, fun z => by obtain ⟨g, e, r⟩ := h.2 z; exact ⟨g, e, r.below hb r.lt⟩⟩
theorem Lg.below {w w' : World} {A : Option Addr} {L n : Nat} (h : Lg w A L n) (hb : Below w.heap.size w w') : Lg w' A L n :=
  ⟨⟨h.1.1, fun z => by obtain ⟨g, e, r⟩ := h.1.2 z; exact ⟨g, e, r.below hb r.lt⟩⟩, h.2⟩
theorem Row.less {w : World} {g L k n : Nat} (r : Row w g L n) (h : k ≤ L) : Row w g k n := by
  obtain ⟨cs, e, f⟩ := r
  exact ⟨cs, e, fun j hj => f j (by omega)⟩
theorem at_any (A : Option Addr) (L c X i : Nat) (w : World) (h : Sl w A L X) :
    Calls Try.prog 87 #[.slice A L c, .int .i64 i] w fun e w' => e = .returned (.int .u64 (dig X i)) ∧ w = w' := by
  by_cases hlt : i < L
  · obtain ⟨g, rfl, r⟩ := h.2 (by omega)
    have gl := r.lt
    have cx := r.cell hlt
    have lx := dig_lt X i
    have t1 : (0 : Int) ≤ i := by omega
    have t2 : (i : Int) < L := by omega
    have t3 : decide (L ≤ i) = false := by simpa using hlt
    clear r h
    go_enter Try.func87, Try.ntmps87
    go_wp2
    go_ret
    exact ⟨rfl, rfl⟩
  · have e0 := dig_over h.1 (Nat.le_of_not_lt hlt)
    have t3 : decide (L ≤ i) = true := by simpa using hlt
    rw [e0]
    clear h e0
    go_enter Try.func87, Try.ntmps87
    go_wp2
    go_ret
    exact ⟨rfl, rfl⟩
set_option maxHeartbeats 1000000 in
theorem cut_any (A : Option Addr) (L c X : Nat) (hL : L ≤ 1073741824) (hc : L ≤ c) (w : World) (h : Sl w A L X) :
    Calls Try.prog 88 #[.slice A L c] w (GivesLg X L w) := by
  have HX := Lib.hid h
  clear h
  go_enter Try.func88, Try.ntmps88
  go_wp2
  go_loopw [0] (fun v wr => ∃ k n : Nat, k ≤ L ∧ v = .slice A k c ∧ Hid (X < 4294967296 ^ k) ∧ wr = w.drewN n) (fun v _ => match v with | .slice _ k _ => k | _ => 0)
  case atStart => exact ⟨L, 0, Nat.le_refl _, rfl, HX.out.1, rfl⟩
  case round =>
    obtain ⟨k, n, hk, rfl, hn, rfl⟩ := hrel
    rcases Nat.eq_zero_or_pos k with rfl | hp
    · go_wp2
      go_ret
      exact ⟨A, 0, c, rfl, Nat.zero_le _, Nat.zero_le _, ⟨⟨hn.out, fun z => absurd z (by omega)⟩, fun z => absurd z (by omega)⟩, below_drewN (Below.refl _ _) n⟩
    · obtain ⟨j, rfl⟩ : ∃ j, k = j + 1 := ⟨k - 1, by omega⟩
      obtain ⟨g, rfl, r⟩ := HX.out.2 (by omega)
      have gl := r.lt
      have cx := r.cell (k := j) (by omega)
      have t1 : (0 : Int) ≤ j := by omega
      have t2 : (j : Int) < (j : Int) + 1 := by omega
      have t3 : (j : Int) ≤ c := by omega
      have t4 : j ≤ c := by omega
      have t5 : (j : Int) ≤ 1073741824 := by omega
      have R := Lib.hid r
      clear r
      by_cases hz : dig X j = 0
      · rw [hz] at cx
        have hn' := Lib.hid (dig_none hn.out hz)
        clear hz
        go_wp2
        go_roundw
        case rel => exact ⟨j, n, by omega, rfl, hn', rfl⟩
        case measure => simp
      · have hz1 : ((dig X j : Int) == 0) = false := by simpa using hz
        have hn' := Lib.hid (dig_some hn.out hz)
        have hz2 := dig_lt X j
        clear hz
        go_wp2
        go_ret
        exact ⟨_, j + 1, c, rfl, hk, by omega, ⟨⟨hn.out, fun _ => ⟨g, rfl, (R.out.less hk).below (below_drewN (Below.refl _ _) n) gl⟩⟩, fun _ => hn'.out⟩, below_drewN (Below.refl _ _) n⟩
theorem lg_len {w : World} {A : Option Addr} {L n M : Nat} (h : Lg w A L n) (hn : n < 4294967296 ^ M) : L ≤ M := by
  rcases Nat.eq_zero_or_pos L with z | z
  · omega
  · have : L - 1 < M := (Nat.pow_lt_pow_iff_right (a := 4294967296) (by omega)).1 (Nat.lt_of_le_of_lt (h.2 z) hn)
    omega
set_option maxHeartbeats 2000000 in
theorem compare_any (A A' : Option Addr) (L L' c c' X Y : Nat) (hL : L ≤ 1073741824) (hL' : L' ≤ 1073741824) (w : World) (hx : Sl w A L X) (hy : Sl w A' L' Y) :
    Calls Try.prog 71 #[.slice A L c, .slice A' L' c'] w fun e w' => e = .returned (.int .i64 (cmpN X Y)) ∧ w = w' := by
  obtain ⟨M, hM1, hM2, hM⟩ : ∃ M, L ≤ M ∧ L' ≤ M ∧ (L < L' ∧ L' = M ∨ ¬ L < L' ∧ L = M) := by
    by_cases h : L < L'
    · exact ⟨L', by omega, by omega, .inl ⟨h, rfl⟩⟩
    · exact ⟨L, by omega, by omega, .inr ⟨h, rfl⟩⟩
  have h1 : X < 4294967296 ^ M := Nat.lt_of_lt_of_le hx.1 (Nat.pow_le_pow_right (by omega) (by omega))
  have h2 : Y < 4294967296 ^ M := Nat.lt_of_lt_of_le hy.1 (Nat.pow_le_pow_right (by omega) (by omega))
  have hd : X / 4294967296 ^ M = Y / 4294967296 ^ M := by rw [Nat.div_eq_of_lt h1, Nat.div_eq_of_lt h2]
  have HX := Lib.hid hx
  have HY := Lib.hid hy
  have HD := Lib.hid hd
  clear hx hy hd h1 h2 hM1 hM2
  rcases hM with ⟨hlt, rfl⟩ | ⟨hlt, rfl⟩
  all_goals
    go_enter Try.func71, Try.ntmps71
    go_wp2
    go_loop [5] (fun i => ∃ j : Nat, j ≤ 1073741824 ∧ i = .int .i64 ((j : Int) - 1) ∧ Hid (X / 4294967296 ^ j = Y / 4294967296 ^ j)) (fun i => (intOf i + 1).toNat)
    case atStart => first | exact ⟨L', hL', rfl, HD⟩ | exact ⟨L, hL, rfl, HD⟩
    case round =>
      obtain ⟨j, hj, rfl, hd⟩ := hrel
      rcases Nat.eq_zero_or_pos j with rfl | hp
      · have e : X = Y := by have := hd.out; simpa using this
        subst e
        clear hlt
        go_wp2
        go_ret
        refine ⟨?_, rfl⟩
        simp [cmpN]
      · obtain ⟨k, rfl⟩ : ∃ k, j = k + 1 := ⟨j - 1, by omega⟩
        have u := up_digit X k
        have u' := up_digit Y k
        rw [hd.out] at u
        have hk : (0 : Int) ≤ k := by omega
        have hk2 : (k : Int) ≤ 1073741824 := by omega
        by_cases hq : dig X k = dig Y k
        · rw [hq] at u
          have HU := Lib.hid (u.trans u'.symm)
          have HQ := Lib.hid hq
          have d1 : ((dig Y k : Int) != (dig Y k : Int)) = false := by simp
          clear u u' hq hlt
          go_wp2_with fail
          refine (at_any A L c X k _ HX.out).mono ?_
          rintro e w1 ⟨rfl, rfl⟩
          rw [HQ.out]
          go_wp2_with fail
          refine (at_any A' L' c' Y k _ HY.out).mono ?_
          rintro e w1 ⟨rfl, rfl⟩
          go_wp2
          go_round
          case rel => exact ⟨k, by omega, by go_num, HU⟩
          case measure => simp [intOf]
        · have d1 : ((dig X k : Int) != (dig Y k : Int)) = true := by simp; omega
          have HE : Hid (cmpN X Y = cmpN (dig X k) (dig Y k)) := cmp_digits u u' hq
          clear u u'
          by_cases x : dig X k < dig Y k
          · have d2 : decide (dig X k < dig Y k) = true := by simpa using x
            have HX2 : Hid (cmpN (dig X k) (dig Y k) = -1) := by show _ = _; unfold cmpN; rw [if_pos x]
            clear x hq hlt
            go_wp2_with fail
            refine (at_any A L c X k _ HX.out).mono ?_
            rintro e w1 ⟨rfl, rfl⟩
            go_wp2_with fail
            refine (at_any A' L' c' Y k _ HY.out).mono ?_
            rintro e w1 ⟨rfl, rfl⟩
            go_wp2_with fail
            refine (at_any A L c X k _ HX.out).mono ?_
            rintro e w1 ⟨rfl, rfl⟩
            go_wp2_with fail
            refine (at_any A' L' c' Y k _ HY.out).mono ?_
            rintro e w1 ⟨rfl, rfl⟩
            go_wp2
            go_ret
            refine ⟨?_, rfl⟩
            rw [HE.out, HX2.out]; rfl
          · have d2 : decide (dig X k < dig Y k) = false := by simpa using x
            have HX2 : Hid (cmpN (dig X k) (dig Y k) = 1) := by show _ = _; unfold cmpN; rw [if_neg x, if_pos (by omega)]
            clear x hq hlt
            go_wp2_with fail
            refine (at_any A L c X k _ HX.out).mono ?_
            rintro e w1 ⟨rfl, rfl⟩
            go_wp2_with fail
            refine (at_any A' L' c' Y k _ HY.out).mono ?_
            rintro e w1 ⟨rfl, rfl⟩
            go_wp2_with fail
            refine (at_any A L c X k _ HX.out).mono ?_
            rintro e w1 ⟨rfl, rfl⟩
            go_wp2_with fail
            refine (at_any A' L' c' Y k _ HY.out).mono ?_
            rintro e w1 ⟨rfl, rfl⟩
            go_wp2
            go_ret
            refine ⟨?_, rfl⟩
            rw [HE.out, HX2.out]; rfl
end Go.Proofs.Ytkjollifghmkbaa
