/-
  The contract of Mul, walked.
-/
import Derived.Test.YtkjollifghmkbaaWideO
namespace Go.Proofs.Ytkjollifghmkbaa
open Go.RowKit
attribute [local go_sem ↓] Go.wp_at_zero Go.wp_at_succ

theorem prod_bd {a b : Nat} (ha : a ≤ 4294967295) (hb : b ≤ 4294967295) : a * b ≤ 18446744065119617025 := Nat.mul_le_mul ha hb
theorem num_mul (s t : Bool) (X Y : Nat) : num (qsign s t (X * Y)) (X * Y) = num s X * num t Y := by
  unfold num qsign
  by_cases h : X * Y = 0
  · have h' : (X : Int) * (Y : Int) = 0 := by rw [← Int.natCast_mul, h]; rfl
    cases s <;> cases t <;> simp [h, Int.neg_mul, Int.mul_neg, h']
  · cases s <;> cases t <;> simp [h, Int.neg_mul, Int.mul_neg]
theorem Raw.drew {w : World} {b o L n : Nat} {s : Bool} (h : Raw w b o s L n) : Raw w.drew b o s L n := h
theorem Chg.drew {w w' : World} {b o : Nat} (h : Chg b o w w') : Chg b o w w'.drew := h.below (B := w.heap.size) (Below.refl _ _).drew (Nat.le_refl _)
theorem mul_end {X Y V cc i L' : Nat} (hY : Y < 4294967296 ^ L') (hV : V < 4294967296 ^ (i + L')) (h : V + cc * 4294967296 ^ (i + L') = X % 4294967296 ^ i * Y + dig X i * (Y % 4294967296 ^ L') * 4294967296 ^ i) : setd V (i + L') cc = X % 4294967296 ^ (i + 1) * Y := by
  have e := setd_add V (i + L') cc
  rw [dig_over hV (Nat.le_refl _), Nat.zero_mul, Nat.add_zero, h, Nat.mod_eq_of_lt hY] at e
  rw [e, mod_step X i, Nat.add_mul]
  congr 1
  rw [Nat.mul_assoc, Nat.mul_assoc, Nat.mul_comm Y]
theorem mul_all {X L : Nat} (hX : X < 4294967296 ^ L) (Y : Nat) : X % 4294967296 ^ L * Y = X * Y := by rw [Nat.mod_eq_of_lt hX]
theorem mul_bound {X Y L L' : Nat} (hX : X < 4294967296 ^ L) (hY : Y < 4294967296 ^ L') : X * Y < 4294967296 ^ (L + L') := by
  rw [Nat.pow_add]
  exact Nat.mul_lt_mul_of_lt_of_le hX (Nat.le_of_lt hY) (pow_pos' L')
set_option maxRecDepth 100000 in
set_option maxHeartbeats 4000000 in
theorem mul_any (b o x ox y oy X Y : Nat) (s t : Bool) (M : Nat) (hM : M ≤ 536870911) (hX : X < 4294967296 ^ M) (hY : Y < 4294967296 ^ M) (w : World) (hz : Hdr w b o) (hx : IntAt w x ox s X) (hy : IntAt w y oy t Y) :
    Calls Try.prog 59 #[.pointer (some ⟨b, o, none⟩), .pointer (some ⟨x, ox, none⟩), .pointer (some ⟨y, oy, none⟩)] w (GivesInt b o (qsign s t (X * Y)) (X * Y) w) := by
  obtain ⟨A, L, c, q1, q2, q3⟩ := hx.semi.sl
  obtain ⟨A', L', c', q1', q2', q3'⟩ := hy.semi.sl
  have hL := len_le q3 hX
  have hL' := len_le q3' hY
  obtain ⟨k1, _, _, _, k5, _⟩ := id hx
  obtain ⟨j1, _, _, _, j5, _⟩ := id hy
  obtain ⟨l1, _, l3, l4, ⟨u0, l5⟩, ⟨u1, l6⟩⟩ := id hz
  have Q := Lib.hid q2
  have Q' := Lib.hid q2'
  have HZ := Lib.hid hz
  clear q2 q2' q3 q3' hx hy hz hX hY
  have hmk : ∀ w : World, (Instr.makeSlice 53 (.int .i64 ((L : Int) + (L' : Int))) (.int .i64 ((L : Int) + (L' : Int)))).run Try.prog w = .ok (.slice (some ⟨w.heap.size, 0, none⟩) (L + L') (L + L')) (w.alloc (.cells (zeros (L + L')) 87)) := fun w => make_digits (L + L') (by omega) w
  have hw : IntKind.i64.wrap ((L : Int) + (L' : Int)) = (L : Int) + (L' : Int) := by rw [IntKind.wrap_i64]; omega
  go_enter Try.func59, Try.ntmps59
  go_wp2_with fail
  go_region_law (fail)
  all_goals
    go_wp2
    go_loopw [30] (fun k wr => ∃ i : Nat, i ≤ L ∧ k = .int .i64 i ∧ Hid (Fix wr w.heap.size (L + L') (X % 4294967296 ^ i * Y)) ∧ Below w.heap.size w wr) (fun k _ => L - (intOf k).toNat)
    case atStart =>
      refine ⟨0, by omega, rfl, ?_, ?_⟩
      · have e : X % 4294967296 ^ 0 * Y = 0 := by simp [Nat.mod_one]
        rw [e]; exact Fix.new w (L + L')
      · exact (new_below w _).drew
    case round =>
      obtain ⟨i, hi, rfl, HF, hb⟩ := hrel
      have hs := HF.out.lt
      obtain ⟨hc, hf⟩ := bcell hb
      by_cases hlt : i < L
      · obtain ⟨gx, rfl, rx⟩ := Q.out.2 (by omega)
        have gl := rx.lt
        have cx := rx.cell hlt
        have lx := dig_lt X i
        have t1 : (0 : Int) ≤ i := by omega
        have t2 : (i : Int) < L := by omega
        have t3 : decide (i < L) = true := by simpa using hlt
        clear rx
        have hst := mul_start X Y i L' Q'.out.1
        have HST := Lib.hid hst
        have HC0 : Hid (X % 4294967296 ^ i * Y + 0 * 4294967296 ^ (i + 0) = X % 4294967296 ^ i * Y + dig X i * (Y % 4294967296 ^ 0) * 4294967296 ^ i) := by show _ = _; simp [Nat.mod_one]
        clear hst
        go_wp2
        go_loopw [10, 40] (fun cv k w2 => ∃ j cc V : Nat, j ≤ L' ∧ k = .int .i64 j ∧ cv = .int .u64 cc ∧ cc ≤ 4294967295 ∧ Hid (Fix w2 w.heap.size (L + L') V) ∧ Hid (V + cc * 4294967296 ^ (i + j) = X % 4294967296 ^ i * Y + dig X i * (Y % 4294967296 ^ j) * 4294967296 ^ i) ∧ Hid (V < 4294967296 ^ (i + L')) ∧ Below w.heap.size w w2) (fun _ k _ => L' - (intOf k).toNat)
        case atStart => exact ⟨0, 0, _, by omega, rfl, rfl, by omega, HF, HC0, HST, hb⟩
        case round =>
          obtain ⟨j, cc, V, hj, rfl, rfl, hcc, HF2, HE, HV, hb2⟩ := hrel
          clear hc hf hs hb
          have hs := HF2.out.lt
          obtain ⟨hc, hf⟩ := bcell hb2
          have t5 : (0 : Int) ≤ (i : Int) + (j : Int) := by omega
          by_cases hlj : j < L'
          · obtain ⟨gy, rfl, ry⟩ := Q'.out.2 (by omega)
            have gl' := ry.lt
            have cy := ry.cell hlj
            have ly := dig_lt Y j
            have co := HF2.out.digit (k := i + j) (by omega)
            have hfz := HF2.out.frozen (i + j)
            have lo := dig_lt V (i + j)
            have t6 : (0 : Int) ≤ j := by omega
            have t7 : (j : Int) < L' := by omega
            have t8 : decide (j < L') = true := by simpa using hlj
            have t9 : (i : Int) + (j : Int) < (L : Int) + (L' : Int) := by omega
            have p1 := prod_bd lx ly
            have p2 : (dig X i : Int) * (dig Y j : Int) ≤ 18446744065119617025 := by rw [← Int.natCast_mul]; omega
            have p3 : (0 : Int) ≤ (dig X i : Int) * (dig Y j : Int) := by rw [← Int.natCast_mul]; omega
            have ms := mul_step (W := X % 4294967296 ^ i * Y) rfl rfl rfl (dig X i) HE.out
            have MS := Lib.hid ms
            have VL := Lib.hid (setd_lt (d := (cc + (dig X i * dig Y j + dig V (i + j))) % 4294967296) HV.out (p := i + j) (by omega) (by omega))
            clear ry ms
            go_wp2
            go_roundw
            case rel => exact ⟨j + 1, (cc + (dig X i * dig Y j + dig V (i + j))) / 4294967296, setd V (i + j) ((cc + (dig X i * dig Y j + dig V (i + j))) % 4294967296), by omega, by go_num, int_u64 (by simp), by omega, HF2.out.put (by omega) (by omega) (by simp), MS, VL, hb2.setCell (Nat.le_refl _) _⟩
            case measure => simp [intOf]; omega
          · obtain rfl : j = L' := by omega
            obtain ⟨u, hu⟩ := Part.cell HF2.out (k := i + j) (by omega)
            have hfz := Part.frozen HF2.out (i + j)
            have t8 : decide (j < j) = false := by simp
            have t9 : (i : Int) + (j : Int) < (L : Int) + (j : Int) := by omega
            have me := mul_end Q'.out.1 HV.out HE.out
            have hp := HF2.out.put (p := i + j) (d := cc) (e := (cc : Int)) (by omega) (by omega) rfl
            rw [me] at hp
            have HPP := Lib.hid hp
            clear me hp hlj
            go_wp2
            go_roundw
            case rel => exact ⟨i + 1, by omega, by go_num, HPP, hb2.setCell (Nat.le_refl _) _⟩
            case measure => simp [intOf]; omega
      · obtain rfl : i = L := by omega
        have t3 : decide (i < i) = false := by simp
        clear hlt
        have hv := mul_all Q.out.1 Y
        have hl := mul_bound Q.out.1 Q'.out.1
        have hrow := Part.row HF.out (Nat.le_refl _)
        rw [hv] at hrow
        have HROW := Lib.hid hrow
        have HL := Lib.hid hl
        have HDW := Lib.hid (HZ.out.below hb)
        clear hv hl hrow
        go_wp2_with fail
        go_region_law (fail)
        all_goals
          go_wp2_with fail
          refine (trim_any b o (!(s == t)) (qsign s t (X * Y)) (i + L') (X * Y) _ (Raw.drew (raw_set (!(s == t)) HDW.out HROW.out (Nat.le_refl _) HL.out)) (by omega) (qsign_or s t _)).mono ?_
          rintro e w9 ⟨rfl, hi9, hg9⟩
          have HI9 := Lib.hid hi9
          clear hi9
          go_wp2
          go_ret
          exact ⟨rfl, HI9.out, ((((Chg.refl HZ.out).below hb (Nat.le_refl _)).set0 _).set1 _).drew.trans hg9⟩
end Go.Proofs.Ytkjollifghmkbaa
