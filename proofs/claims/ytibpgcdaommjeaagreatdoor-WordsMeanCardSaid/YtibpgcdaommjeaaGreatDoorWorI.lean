/-
  Words: words.Of.
-/
import Derived.Test.YtibpgcdaommjeaaGreatDoorWorH
namespace Go.Proofs.YtibpgcdaommjeaaGreatDoor.Wds
open Go.RowKit

theorem or_bit (x i : Nat) (hi : i < 8) (hx : x < 2 ^ i) : bits .or .i64 (x : Int) ((2 : Int) ^ i) = ((x + 2 ^ i : Nat) : Int) := by
  have h8 : 2 ^ i ≤ 2 ^ 7 := Nat.pow_le_pow_right (by decide) (by omega)
  obtain ⟨_, e2⟩ := bits_nat .i64 8 (by decide) (fun n h0 h1 => by rw [IntKind.wrap_i64]; omega) x (2 ^ i) (by omega) (by omega)
  have e3 := Nat.two_pow_add_eq_or_of_lt hx 1
  rw [Nat.mul_one] at e3
  rw [show ((2 : Int) ^ i) = ((2 ^ i : Nat) : Int) by push_cast; rfl, e2, Nat.or_comm, ← e3, Nat.add_comm]
set_option maxRecDepth 100000 in
theorem of_bad (A : Option Addr) (n c : Nat) (h : nwB n = true) (w : World) : Calls Tryz.prog 8 #[.slice A n c] w fun e w' => e = .returned (.tuple #[.int .i64 0, .agg #[.int .i64 9, .int .i64 0]]) ∧ Below w.heap.size w w' := by
  have H := Lib.hid h
  clear h
  go_enter Tryz.func8, Tryz.ntmps8
  go_wp2_with fail
  refine (nowidth_any _ _).mono ?_
  rintro e w1 ⟨rfl, rfl⟩
  rw [H.out]
  go_wp2_with fail
  exact bodyPost_ret (v := .tuple #[.int .i64 0, .agg #[.int .i64 9, .int .i64 0]]) (by simp [results, Tryz.results8, go_sem]) rfl ⟨rfl, by go_grown⟩
set_option maxRecDepth 100000 in
set_option maxHeartbeats 4000000 in
theorem of_ok (A : Option Addr) (n c : Nat) (b : Nat → Bool) (h1 : 1 ≤ n) (h2 : n ≤ 8) (w : World) (h : Bs w A b n) : Calls Tryz.prog 8 #[.slice A n c] w fun e w' => e = .returned (.tuple #[.int .i64 (vl b n), .agg #[.int .i64 0, .int .i64 0]]) ∧ Below w.heap.size w w' := by
  have H := Lib.hid (nw_no h1 h2)
  have R0 := Lib.hid (HB.new w 28 #[.int .i64 0, .int .i64 0])
  have G0 := Lib.hid (new_below w (.cells #[.int .i64 0, .int .i64 0] 28))
  have HO := Lib.hid (fun i (hi : i < n) => or_bit (vl b i) i (by omega) (vl_lt b i))
  have HS : Hid (∀ i, vl b (i + 1) = vl b i + if b i then 2 ^ i else 0) := Lib.hid (fun i => rfl)
  obtain ⟨g, o, rfl, hg, hc⟩ := h (by omega)
  have HC := Lib.hid hc
  have Q0 : Hid (∀ i, i < n → IntKind.i64.wrap ((2 : Int) ^ i) = (2 : Int) ^ i) := Lib.hid (fun i hi => by
    have h8 : (2 : Nat) ^ i ≤ 2 ^ 7 := Nat.pow_le_pow_right (by decide) (by omega)
    have h9 : (2 : Int) ^ i ≤ 128 := by exact_mod_cast h8
    have h0 : 0 ≤ (2 : Int) ^ i := Int.pow_nonneg (by decide)
    exact IntWalk.i64_in _ (by omega))
  have HZ : Hid (vl b 0 = 0) := Lib.hid rfl
  clear hc h
  generalize vl b = F at *
  go_enter Tryz.func8, Tryz.ntmps8
  go_wp2_with fail
  refine (nowidth_any _ _).mono ?_
  rintro e w1 ⟨rfl, rfl⟩
  rw [H.out]
  go_wp2_with fail
  go_loopw [4, 5, 6, 13] (fun x _ _ t wr => ∃ i : Nat, i ≤ n ∧ t = .int .i64 i ∧ x = .int .i64 (F i) ∧ wr = w.alloc (.cells #[.int .i64 0, .int .i64 0] 28)) (fun _ _ _ t _ => n - (intOf t).toNat)
  case atStart => exact ⟨0, by omega, rfl, by rw [HZ.out]; rfl, rfl⟩
  case round =>
    obtain ⟨i, hi, rfl, rfl, rfl⟩ := hrel
    by_cases hlt : i < n
    · have t3 : decide ((i : Int) < (n : Int)) = true := by simpa using hlt
      have cc := HC.out i hlt
      have hs := HS.out i
      have hq := Q0.out i hlt
      have ho := HO.out i hlt
      have q2 : min i 64 = i := by omega
      cases hb : b i with
      | true =>
        rw [hb] at cc hs
        rw [if_pos rfl] at hs
        have HS' : Hid (F (i + 1) = F i + 2 ^ i) := Lib.hid hs
        clear hs hb
        go_wp2_with fail
        go_round
        case rel => exact ⟨i + 1, by omega, by go_num, by rw [HS'.out]; push_cast; rfl, trivial⟩
        case measure => simp [intOf]; omega
      | false =>
        rw [hb] at cc hs
        rw [if_neg (by decide)] at hs
        have HS' : Hid (F (i + 1) = F i) := Lib.hid hs
        clear hs hb hq ho
        go_wp2_with fail
        go_round
        case rel => exact ⟨i + 1, by omega, by go_num, by rw [HS'.out], trivial⟩
        case measure => simp [intOf]; omega
    · obtain rfl : i = n := by omega
      have t3 : decide ((i : Int) < (i : Int)) = false := by simp
      go_wp2_with fail
      exact bodyPost_ret (v := .tuple #[.int .i64 (F i), .agg #[.int .i64 0, .int .i64 0]]) (by simp [results, Tryz.results8, go_sem]) rfl ⟨rfl, by go_grown⟩
end Go.Proofs.YtibpgcdaommjeaaGreatDoor.Wds
