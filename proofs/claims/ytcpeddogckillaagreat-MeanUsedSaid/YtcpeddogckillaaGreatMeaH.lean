/-
  Worlds, by the reference: values, rows that are the same.
-/
import Derived.Test.YtcpeddogckillaaGreatG02
import Derived.Test.YtcpeddogckillaaGreatG07
namespace Go.Proofs.YtcpeddogckillaaGreat
open Go.RowKit

theorem isthingR_any (z : Int) (w : World) : Calls Tryz.prog 42 #[.int .i64 z] w fun e w' => e = .returned (.bool (!nTh z)) ∧ w' = w := by
  by_cases h1 : 0 ≤ z
  · have d1 : decide (0 ≤ z) = true := by simpa using h1
    have HE : Hid ((!nTh z) = decide (z ≤ 1000)) := Lib.hid (by unfold nTh; rw [Bool.eq_iff_iff]; simp; omega)
    clear h1
    go_enter Tryz.func42, Tryz.ntmps42
    go_wp2_with fail
    go_ret
    exact ⟨by rw [HE.out]; rfl, rfl⟩
  · have d1 : decide (0 ≤ z) = false := by simpa using h1
    have HE : Hid ((!nTh z) = false) := Lib.hid (by unfold nTh; simp; omega)
    clear h1
    go_enter Tryz.func42, Tryz.ntmps42
    go_wp2_with fail
    go_ret
    exact ⟨by rw [HE.out]; rfl, rfl⟩
set_option maxHeartbeats 1000000 in
theorem gcdR_big (n d : Int) (h1 : -1073741824 ≤ n) (h2 : n ≤ 1073741824) (h3 : 1 ≤ d) (h4 : d ≤ 1073741824) (w : World) :
    Calls Tryz.prog 66 #[.int .i64 n, .int .i64 d] w fun e w' => e = .returned (.int .i64 (Nat.gcd (mag n) (mag d) : Nat)) ∧ ∃ m, w' = w.drewN m := by
  go_enter Tryz.func66, Tryz.ntmps66
  go_wp2_with fail
  go_loopw [0, 1] (fun a b wr => ∃ x y : Int, a = .int .i64 x ∧ b = .int .i64 y ∧ -1073741824 ≤ x ∧ x ≤ 1073741824 ∧ -1073741824 ≤ y ∧ y ≤ 1073741824 ∧ Hid (Nat.gcd (mag x) (mag y) = Nat.gcd (mag n) (mag d)) ∧ Hid (∃ m, wr = w.drewN m)) (fun _ b _ => (intOf b).natAbs)
  case atStart => exact ⟨n, d, rfl, rfl, h1, h2, by omega, h4, rfl, 0, rfl⟩
  case round =>
    obtain ⟨x, y, rfl, rfl, b1, b2, b3, b4, HG, HW⟩ := hrel
    by_cases hy : y = 0
    · subst hy
      have HG2 : Hid (mag x = Nat.gcd (mag n) (mag d)) := Lib.hid (by rw [← HG.out]; simp [mag])
      by_cases hx : x < 0
      · have d1 : decide (x < 0) = true := by simpa using hx
        go_wp2_with fail
        go_ret
        exact ⟨ret_int (by rw [← HG2.out]; unfold mag; omega), HW.out⟩
      · have d1 : decide (x < 0) = false := by simpa using hx
        go_wp2_with fail
        go_ret
        exact ⟨ret_int (by rw [← HG2.out]; unfold mag; omega), HW.out⟩
    · have d1 : (y != 0) = true := by simpa using hy
      go_wp2_with fail
      go_quiet (fail)
      go_wp2_with fail
      have hm : mag (x.tmod y) < mag y := by rw [mag_tmod]; exact Nat.mod_lt _ (by unfold mag; omega)
      have hb : mag y ≤ 1073741824 := by unfold mag; omega
      have HS : Hid (Nat.gcd (mag y) (mag (x.tmod y)) = Nat.gcd (mag n) (mag d)) := Lib.hid (by rw [mag_tmod, gcd_step]; exact HG.out)
      unfold mag at hm hb
      generalize x.tmod y = z at *
      go_round
      case rel =>
        obtain ⟨m, hm2⟩ := HW.out
        exact ⟨y, z, rfl, rfl, b3, b4, by omega, by omega, HS, Lib.hid ⟨m + nq, by rw [hm2]; simp [World.drewN, Nat.add_assoc]⟩⟩
      case measure => simp [intOf]; omega
theorem fv_1 {n d : Int} (h : ¬ (1 ≤ d ∧ d ≤ 1073741824 ∧ -1073741824 ≤ n ∧ n ≤ 1073741824)) : fvalid n d = false := (fvalid_no h).symm
set_option maxHeartbeats 4000000 in
theorem goodR_any (n d : Int) (w : World) : Calls Tryz.prog 41 #[.agg #[.int .i64 n, .int .i64 d]] w fun e w' => e = .returned (.bool (fvalid n d)) ∧ Below w.heap.size w w' := by
  have NEW := Lib.hid (new_below w (.cells #[.int .i64 n, .int .i64 d] 44))
  by_cases h1 : 1 ≤ d
  · have d1 : decide (1 ≤ d) = true := by simpa using h1
    by_cases h2 : d ≤ 1073741824
    · have d2 : decide (d ≤ 1073741824) = true := by simpa using h2
      by_cases h3 : -1073741824 ≤ n
      · have d3 : decide (-1073741824 ≤ n) = true := by simpa using h3
        by_cases h4 : n ≤ 1073741824
        · have d4 : decide (n ≤ 1073741824) = true := by simpa using h4
          have HG := Lib.hid (fun W => gcdR_big n d h3 h4 h1 h2 W)
          have HE := Lib.hid (fvalid_yes h1 h2 h3 h4)
          clear h1 h2 h3 h4
          generalize ((mag n).gcd (mag d)) = g at *
          generalize fvalid n d = r at *
          go_enter Tryz.func41, Tryz.ntmps41
          go_wp2_with fail
          refine (HG.out _).mono ?_
          rintro e w1 ⟨rfl, m, rfl⟩
          go_wp2_with fail
          go_ret
          exact ⟨by rw [← HE.out]; rfl, below_dn NEW.out _⟩
        · have d4 : decide (n ≤ 1073741824) = false := by simpa using h4
          have HE := Lib.hid (fv_1 (n := n) (d := d) (by omega))
          clear h1 h2 h3 h4
          go_enter Tryz.func41, Tryz.ntmps41
          go_wp2_with fail
          go_ret
          exact ⟨by rw [HE.out]; rfl, NEW.out⟩
      · have d3 : decide (-1073741824 ≤ n) = false := by simpa using h3
        have HE := Lib.hid (fv_1 (n := n) (d := d) (by omega))
        clear h1 h2 h3
        go_enter Tryz.func41, Tryz.ntmps41
        go_wp2_with fail
        go_ret
        exact ⟨by rw [HE.out]; rfl, NEW.out⟩
    · have d2 : decide (d ≤ 1073741824) = false := by simpa using h2
      have HE := Lib.hid (fv_1 (n := n) (d := d) (by omega))
      clear h1 h2
      go_enter Tryz.func41, Tryz.ntmps41
      go_wp2_with fail
      go_ret
      exact ⟨by rw [HE.out]; rfl, NEW.out⟩
  · have d1 : decide (1 ≤ d) = false := by simpa using h1
    have HE := Lib.hid (fv_1 (n := n) (d := d) (by omega))
    clear h1
    go_enter Tryz.func41, Tryz.ntmps41
    go_wp2_with fail
    go_ret
    exact ⟨by rw [HE.out]; rfl, NEW.out⟩
set_option maxHeartbeats 1000000 in
theorem sameints_any (xs ys : List Int) (A B : Option Addr) (c d : Nat) (hl : xs.length ≤ maxLen) (hl2 : ys.length ≤ maxLen) (w : World) (ha : Is w A xs) (hb : Is w B ys) :
    Calls Tryz.prog 123 #[.slice A xs.length c, .slice B ys.length d] w fun e w' => e = .returned (.bool (decide (xs = ys))) ∧ ∃ n, w' = w.drewN n := by
  by_cases hL : xs.length = ys.length
  · have HA := Lib.hid ha
    have HB' := Lib.hid hb
    have HL2 := Lib.hid hL
    rw [← hL]
    unfold maxLen at hl
    generalize hLL : xs.length = L at *
    have HL := Lib.hid hLL
    clear ha hb hl2 hL hLL
    go_enter Tryz.func123, Tryz.ntmps123
    go_wp2_with fail
    go_loopw [5] (fun k wr => ∃ i : Nat, i ≤ L ∧ k = .int .i64 i ∧ Hid (∀ j, j < i → nth xs j = nth ys j) ∧ Hid (∃ n, wr = w.drewN n)) (fun k _ => L - (intOf k).toNat)
    case atStart => exact ⟨0, by omega, rfl, Lib.hid (fun j hj => absurd hj (by omega)), Lib.hid ⟨0, rfl⟩⟩
    case round =>
      obtain ⟨i, hi, rfl, HP, HW⟩ := hrel
      obtain ⟨n, hn⟩ := HW.out
      subst hn
      by_cases hlt : i < L
      · have t3 : decide ((i : Int) < L) = true := by simpa using hlt
        obtain ⟨b1, o1, rfl, _, c0⟩ := is_at (i := i) HA.out (by rw [HL.out]; exact hlt)
        obtain ⟨b2, o2, rfl, _, d0⟩ := is_at (i := i) HB'.out (by rw [← HL2.out]; exact hlt)
        by_cases hx : nth xs i = nth ys i
        · have HX : Hid (∀ j, j = i → nth xs j = nth ys j) := Lib.hid (fun j hj => by subst hj; exact hx)
          rw [← hx] at d0
          clear hx
          generalize nth xs i = x at *
          go_wp2_with fail
          go_quiet (fail)
          go_wp2_with fail
          go_round
          case rel => exact ⟨i + 1, by omega, by go_num, Lib.hid (fun j hj => by
            rcases Nat.lt_or_ge j i with z | z
            · exact HP.out j z
            · exact HX.out j (by omega)), Lib.hid ⟨n + nq, by simp [World.drewN]⟩⟩
          case measure => simp [intOf]; omega
        · have tx : (nth xs i != nth ys i) = true := by simpa using hx
          have HE : Hid (decide (xs = ys) = false) := Lib.hid (by simp; rintro rfl; exact hx rfl)
          clear hx
          generalize nth xs i = x at *
          generalize nth ys i = y at *
          go_wp2_with fail
          go_quiet (fail)
          go_wp2_with fail
          go_ret
          exact ⟨by rw [HE.out]; rfl, n + nq, by simp [World.drewN, Nat.add_assoc]⟩
      · obtain rfl : i = L := by omega
        have t3 : decide ((i : Int) < i) = false := by simp
        have HE : Hid (decide (xs = ys) = true) := Lib.hid (by
          simp
          exact list_same (by rw [HL.out]; exact HL2.out) (fun j hj => HP.out j (by rw [← HL.out]; exact hj)))
        go_wp2_with fail
        go_ret
        exact ⟨by rw [HE.out]; rfl, HW.out⟩
  · have HE : Hid (decide (xs = ys) = false) := Lib.hid (by simp; rintro rfl; exact hL rfl)
    unfold maxLen at hl hl2
    generalize decide (xs = ys) = r at *
    generalize xs.length = L at *
    generalize ys.length = M at *
    have t1 : ((L : Int) != M) = true := by simp; omega
    clear ha hb hL
    go_enter Tryz.func123, Tryz.ntmps123
    go_wp2_with fail
    go_ret
    exact ⟨by rw [HE.out]; rfl, 0, rfl⟩
end Go.Proofs.YtcpeddogckillaaGreat
