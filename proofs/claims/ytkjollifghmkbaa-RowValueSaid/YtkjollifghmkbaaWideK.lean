/-
  The contract of lessOf: the digits of a difference.
-/
import Derived.Test.YtkjollifghmkbaaWideJ
namespace Go.Proofs.Ytkjollifghmkbaa
open Go.RowKit

theorem less_num {a b d c : Nat} (h : a = b + d + c) (hc : c ≤ 1) : ∃ c' : Nat, c' ≤ 1 ∧ a / 4294967296 = b / 4294967296 + d / 4294967296 + c' ∧
    IntKind.u64.wrap (IntKind.u64.wrap (((a % 4294967296 : Nat) : Int) - (c : Int)) - ((b % 4294967296 : Nat) : Int)) % 4294967296 = ((d % 4294967296 : Nat) : Int) ∧
    IntKind.u64.wrap (IntKind.u64.wrap (((a % 4294967296 : Nat) : Int) - (c : Int)) - ((b % 4294967296 : Nat) : Int)) / 9223372036854775808 = (c' : Int) := by
  by_cases z : a % 4294967296 < c + b % 4294967296
  · refine ⟨1, by omega, by omega, ?_, ?_⟩
    · rw [IntKind.wrap_u64, IntKind.wrap_u64]; omega
    · rw [IntKind.wrap_u64, IntKind.wrap_u64]; omega
  · refine ⟨0, by omega, by omega, ?_, ?_⟩
    · rw [IntKind.wrap_u64, IntKind.wrap_u64]; omega
    · rw [IntKind.wrap_u64, IntKind.wrap_u64]; omega
theorem less_step {X Y D c i : Nat} (h : X / 4294967296 ^ i = Y / 4294967296 ^ i + D / 4294967296 ^ i + c) (hc : c ≤ 1) : ∃ c' : Nat, c' ≤ 1 ∧ X / 4294967296 ^ (i + 1) = Y / 4294967296 ^ (i + 1) + D / 4294967296 ^ (i + 1) + c' ∧
    IntKind.u64.wrap (IntKind.u64.wrap ((dig X i : Int) - (c : Int)) - (dig Y i : Int)) % 4294967296 = (dig D i : Int) ∧
    IntKind.u64.wrap (IntKind.u64.wrap ((dig X i : Int) - (c : Int)) - (dig Y i : Int)) / 9223372036854775808 = (c' : Int) := by
  unfold dig
  rw [Nat.pow_succ, ← Nat.div_div_eq_div_mul, ← Nat.div_div_eq_div_mul, ← Nat.div_div_eq_div_mul]
  exact less_num h hc
theorem less_step0 {X Y D c i : Nat} (h : X / 4294967296 ^ i = Y / 4294967296 ^ i + D / 4294967296 ^ i + c) (hc : c ≤ 1) (h0 : dig Y i = 0) : ∃ c' : Nat, c' ≤ 1 ∧ X / 4294967296 ^ (i + 1) = Y / 4294967296 ^ (i + 1) + D / 4294967296 ^ (i + 1) + c' ∧
    IntKind.u64.wrap ((dig X i : Int) - (c : Int)) % 4294967296 = (dig D i : Int) ∧ IntKind.u64.wrap ((dig X i : Int) - (c : Int)) / 9223372036854775808 = (c' : Int) := by
  obtain ⟨c', h1, h2, h3, h4⟩ := less_step h hc
  rw [h0] at h3 h4
  have e : ∀ z : Int, IntKind.u64.wrap (IntKind.u64.wrap z - ((0 : Nat) : Int)) = IntKind.u64.wrap z := fun z => by rw [IntKind.wrap_u64, IntKind.wrap_u64]; omega
  rw [e] at h3 h4
  exact ⟨c', h1, h2, h3, h4⟩
theorem int_u64 {a b : Int} (h : a = b) : Value.int .u64 a = .int .u64 b := by rw [h]
set_option maxHeartbeats 2000000 in
theorem less_any (A A' : Option Addr) (L L' a a' X Y : Nat) (hL : L ≤ 1073741824) (hYX : Y ≤ X) (w : World) (hx : Sl w A L X) (hy : Sl w A' L' Y) :
    Calls Try.prog 84 #[.slice A L a, .slice A' L' a'] w (GivesRow L (X - Y) w) := by
  have hmk : ∀ w : World, (Instr.makeSlice 53 (.int .i64 (L : Int)) (.int .i64 (L : Int))).run Try.prog w = .ok (.slice (some ⟨w.heap.size, 0, none⟩) L L) (w.alloc (.cells (zeros L) 87)) := fun w => make_digits L (by omega) w
  have HX := Lib.hid hx
  have HY := Lib.hid hy
  have HYX := Lib.hid hYX
  have HI : Hid (X / 4294967296 ^ 0 = Y / 4294967296 ^ 0 + (X - Y) / 4294967296 ^ 0 + 0) := by show _ = _; simp; omega
  clear hx hy hYX
  go_enter Try.func84, Try.ntmps84
  go_wp2
  go_loopw [6, 15] (fun c k wr => ∃ i cc : Nat, i ≤ L ∧ k = .int .i64 i ∧ c = .int .u64 cc ∧ cc ≤ 1 ∧ Hid (X / 4294967296 ^ i = Y / 4294967296 ^ i + (X - Y) / 4294967296 ^ i + cc) ∧ Hid (Part wr w.heap.size L i (X - Y)) ∧ Below w.heap.size w wr) (fun _ k _ => L - (intOf k).toNat)
  case atStart => exact ⟨0, 0, by omega, rfl, rfl, by omega, HI, Part.new w L (X - Y), new_below w _⟩
  case round =>
    obtain ⟨i, cc, hi, rfl, rfl, hcc, HE, HP, hb⟩ := hrel
    obtain ⟨hc, hf⟩ := bcell hb
    have hs := HP.out.lt
    have lx := dig_lt X i
    have ly := dig_lt Y i
    by_cases hlt : i < L
    · obtain ⟨u, hu⟩ := HP.out.cell (k := i) hlt
      have hfz := HP.out.frozen i
      obtain ⟨gx, rfl, rx⟩ := HX.out.2 (by omega)
      have gl := rx.lt
      have cx := rx.cell hlt
      have t1 : (0 : Int) ≤ i := by omega
      have t2 : (i : Int) < L := by omega
      have t3 : decide (i < L) = true := by simpa using hlt
      by_cases hly : i < L'
      · obtain ⟨gy, rfl, ry⟩ := HY.out.2 (by omega)
        have gl' := ry.lt
        have cy := ry.cell hly
        have t4 : decide (i < L') = true := by simpa using hly
        obtain ⟨c', n1, n2, n3, n4⟩ := less_step HE.out hcc
        have N2 := Lib.hid n2
        have N3 := Lib.hid n3
        have N4 := Lib.hid n4
        clear rx ry n2 n3 n4
        go_wp2
        go_roundw
        case rel => exact ⟨i + 1, c', by omega, by go_num, int_u64 N4.out, n1, N2, HP.out.put hlt N3.out, hb.setCell (Nat.le_refl _) _⟩
        case measure => simp [intOf]; omega
      · have e0 := dig_over HY.out.1 (Nat.le_of_not_lt hly)
        have t4 : decide (i < L') = false := by simpa using hly
        rw [e0] at ly
        obtain ⟨c', n1, n2, n3, n4⟩ := less_step0 HE.out hcc e0
        have N2 := Lib.hid n2
        have N3 := Lib.hid n3
        have N4 := Lib.hid n4
        clear rx e0 n2 n3 n4
        go_wp2
        go_roundw
        case rel => exact ⟨i + 1, c', by omega, by go_num, int_u64 N4.out, n1, N2, HP.out.put hlt N3.out, hb.setCell (Nat.le_refl _) _⟩
        case measure => simp [intOf]; omega
    · obtain rfl : i = L := by omega
      have t3 : decide (i < i) = false := by simp
      clear lx ly hlt
      go_wp2
      go_ret
      exact ⟨rfl, HP.out.row (Nat.le_refl _), hb⟩
end Go.Proofs.Ytkjollifghmkbaa
