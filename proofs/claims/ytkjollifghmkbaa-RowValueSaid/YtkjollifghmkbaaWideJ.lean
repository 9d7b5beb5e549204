/-
  Rows of digits that are made digit by digit: the contracts of sumOf and lessOf.
-/
import Derived.Test.YtkjollifghmkbaaWideI
import Derived.Laws.MakeOwn
namespace Go.Proofs.Ytkjollifghmkbaa
open Go.RowKit

/-- A row of n cells, the first i of which are a number's digits. -/
def Part (w : World) (g n i V : Nat) : Prop := ∃ cs, w.heap[g]? = some (.cells cs 87 (0, 0)) ∧ cs.size = n ∧ ∀ k, k < i → cs[k]? = some (.int .u32 (dig V k))
/-- A slice of digits, nil let in. -/
def Sl (w : World) (A : Option Addr) (L n : Nat) : Prop := n < 4294967296 ^ L ∧ (0 < L → ∃ g, A = some ⟨g, 0, none⟩ ∧ Row w g L n)
def GivesRow (L n : Nat) (w : World) (e : Ending) (w' : World) : Prop := e = .returned (.slice (some ⟨w.heap.size, 0, none⟩) L L) ∧ Row w' w.heap.size L n ∧ Below w.heap.size w w'
def zeros (n : Nat) : Array Value := madeCells #[.int .u32 0] (n * 1)
theorem zeros_size (n : Nat) : (zeros n).size = n := by simp [zeros, size_madeCells]
theorem Part.new (w : World) (n V : Nat) : Part (w.alloc (.cells (zeros n) 87)) w.heap.size n 0 V := ⟨_, heap_alloc_new _ _, zeros_size n, fun k hk => by omega⟩
theorem Part.cell {w : World} {g n i V k : Nat} (h : Part w g n i V) (hk : k < n) : ∃ u, w.cell? ⟨g, k, none⟩ = some u := by
  obtain ⟨cs, e, hs, _⟩ := h
  exact ⟨cs[k]'(by omega), (cell_of_row w g k cs 87 (0, 0) e).trans (Array.getElem?_eq_getElem (by omega))⟩
theorem Part.frozen {w : World} {g n i V : Nat} (h : Part w g n i V) (k : Nat) : w.frozen? ⟨g, k, none⟩ = false := by
  obtain ⟨cs, e, _⟩ := h
  simp [World.frozen?, e]
theorem Part.lt {w : World} {g n i V : Nat} (h : Part w g n i V) : g < w.heap.size := by
  obtain ⟨cs, e, _⟩ := h
  rcases Nat.lt_or_ge g w.heap.size with h | h
  · exact h
  · rw [Array.getElem?_eq_none h] at e; cases e
theorem Part.put {w : World} {g n i V : Nat} (h : Part w g n i V) (hi : i < n) {d : Int} (hd : d = (dig V i : Int)) : Part (w.setCell ⟨g, i, none⟩ (.int .u32 d)) g n (i + 1) V := by
  obtain ⟨cs, e, hs, hk⟩ := h
  refine ⟨cs.setIfInBounds i (.int .u32 d), by simp [World.setCell, Array.getElem?_modify, e], by simp [hs], fun k hk' => ?_⟩
  rw [Array.getElem?_setIfInBounds]
  by_cases z : i = k
  · subst z; rw [if_pos rfl, if_pos (by omega), hd]
  · rw [if_neg z]; exact hk k (by omega)
theorem Part.row {w : World} {g n i V : Nat} (h : Part w g n i V) (hi : n ≤ i) : Row w g n V := by
  obtain ⟨cs, e, hs, hk⟩ := h
  exact ⟨cs, e, fun k hk' => hk k (by omega)⟩
theorem make_digits (n : Nat) (hn : n ≤ 1073741825) (w : World) : (Instr.makeSlice 53 (.int .i64 n) (.int .i64 n)).run Try.prog w = .ok (.slice (some ⟨w.heap.size, 0, none⟩) n n) (w.alloc (.cells (zeros n) 87)) := by
  obtain ⟨i0, hi0, hz0, hz1, hz2⟩ := info_parts u32_info
  have h := run_make (P := Try.prog) w 53 87 i0 (.int .u32 0) Try.underlying53 hi0 hz0 .i64 .i64 (n : Int) (n : Int) (by omega) (by omega) (by rw [hz2]; omega) (by omega)
  rw [hz1] at h
  exact h
theorem sum_step {X Y c i : Nat} (h : (X + Y) / 4294967296 ^ i = X / 4294967296 ^ i + Y / 4294967296 ^ i + c) :
    dig (X + Y) i = (c + dig X i + dig Y i) % 4294967296 ∧ (X + Y) / 4294967296 ^ (i + 1) = X / 4294967296 ^ (i + 1) + Y / 4294967296 ^ (i + 1) + (c + dig X i + dig Y i) / 4294967296 := by
  unfold dig
  rw [Nat.pow_succ, ← Nat.div_div_eq_div_mul, ← Nat.div_div_eq_div_mul, ← Nat.div_div_eq_div_mul, h]
  omega
theorem dig_over {n L i : Nat} (h : n < 4294967296 ^ L) (hi : L ≤ i) : dig n i = 0 := by
  unfold dig
  rw [Nat.div_eq_of_lt (Nat.lt_of_lt_of_le h (Nat.pow_le_pow_right (by omega) hi))]
set_option maxHeartbeats 2000000 in
theorem sum_in (A A' : Option Addr) (L L' a a' X Y : Nat) (hL : L ≤ 1073741824) (hle : L' ≤ L) (w : World) (hx : Sl w A L X) (hy : Sl w A' L' Y) :
    Calls Try.prog 83 #[.slice A L a, .slice A' L' a'] w (GivesRow (L + 1) (X + Y) w) := by
  have hmk : ∀ w : World, (Instr.makeSlice 53 (.int .i64 ((L : Int) + 1)) (.int .i64 ((L : Int) + 1))).run Try.prog w = .ok (.slice (some ⟨w.heap.size, 0, none⟩) (L + 1) (L + 1)) (w.alloc (.cells (zeros (L + 1)) 87)) := fun w => make_digits (L + 1) (by omega) w
  have d1 : decide (L < L') = false := by simp; omega
  have HX := Lib.hid hx
  have HY := Lib.hid hy
  clear hx hy
  go_enter Try.func83, Try.ntmps83
  go_wp2
  go_loopw [6, 22] (fun c k wr => ∃ i cc : Nat, i ≤ L ∧ k = .int .i64 i ∧ c = .int .u64 cc ∧ cc ≤ 1 ∧ Hid ((X + Y) / 4294967296 ^ i = X / 4294967296 ^ i + Y / 4294967296 ^ i + cc) ∧ Hid (Part wr w.heap.size (L + 1) i (X + Y)) ∧ Below w.heap.size w wr) (fun _ k _ => L - (intOf k).toNat)
  case atStart => exact ⟨0, 0, by omega, rfl, rfl, by omega, (by show _ = _; simp), Part.new w (L + 1) (X + Y), new_below w _⟩
  case round =>
    obtain ⟨i, cc, hi, rfl, rfl, hcc, HE, HP, hb⟩ := hrel
    obtain ⟨hc, hf⟩ := bcell hb
    have hs := HP.out.lt
    obtain ⟨u, hu⟩ := HP.out.cell (k := i) (by omega)
    have hfz := HP.out.frozen i
    obtain ⟨m1, m2⟩ := sum_step HE.out
    have lx := dig_lt X i
    have ly := dig_lt Y i
    have M1 := Lib.hid m1
    have M2 := Lib.hid m2
    clear m1 m2
    by_cases hlt : i < L
    · obtain ⟨gx, rfl, rx⟩ := HX.out.2 (by omega)
      have gl := rx.lt
      have cx := rx.cell hlt
      have t1 : (0 : Int) ≤ i := by omega
      have t2 : (i : Int) < L := by omega
      have t3 : decide (i < L) = true := by simpa using hlt
      by_cases hly : i < L'
      · obtain ⟨gy, rfl, ry⟩ := HY.out.2 (by omega)
        have gl' := ry.lt
        have cy := ry.cell hly
        have t4 : decide (i < L') = true := by simpa using hly
        clear rx ry
        go_wp2
        go_roundw
        case rel => exact ⟨i + 1, (cc + dig X i + dig Y i) / 4294967296, by omega, by go_num, by go_num, by omega, M2, HP.out.put (by omega) (by rw [M1.out]; simp), hb.setCell (Nat.le_refl _) _⟩
        case measure => simp [intOf]; omega
      · have e0 := dig_over HY.out.1 (Nat.le_of_not_lt hly)
        have t4 : decide (i < L') = false := by simpa using hly
        rw [e0] at ly
        have e1 : cc + dig X i + dig Y i = cc + dig X i := by rw [e0, Nat.add_zero]
        have M1' : Hid (dig (X + Y) i = (cc + dig X i) % 4294967296) := by rw [← e1]; exact M1
        have M2' : Hid ((X + Y) / 4294967296 ^ (i + 1) = X / 4294967296 ^ (i + 1) + Y / 4294967296 ^ (i + 1) + (cc + dig X i) / 4294967296) := by rw [← e1]; exact M2
        clear rx e0 e1 M1 M2
        go_wp2
        go_roundw
        case rel => exact ⟨i + 1, (cc + dig X i) / 4294967296, by omega, by go_num, by go_num, by omega, M2', HP.out.put (by omega) (by rw [M1'.out]; simp), hb.setCell (Nat.le_refl _) _⟩
        case measure => simp [intOf]; omega
    · obtain rfl : i = L := by omega
      have e1 := dig_over HX.out.1 (Nat.le_refl _)
      have e2 := dig_over HY.out.1 hle
      have e3 : dig (X + Y) i = cc := by have := M1.out; rw [e1, e2] at this; omega
      have E3 := Lib.hid e3
      have t2 : (0 : Int) ≤ i := by omega
      have t3 : (i : Int) < i + 1 := by omega
      clear e1 e2 e3 lx ly hlt
      go_wp2
      go_ret
      refine ⟨rfl, (HP.out.put (by omega) ?_).row (Nat.le_refl _), hb.setCell (Nat.le_refl _) _⟩
      rw [E3.out]

set_option maxHeartbeats 2000000 in
theorem sum_out (A A' : Option Addr) (L L' a a' X Y : Nat) (hL : L ≤ 1073741824) (hle : L' < L) (w : World) (hx : Sl w A L X) (hy : Sl w A' L' Y) :
    Calls Try.prog 83 #[.slice A' L' a', .slice A L a] w (GivesRow (L + 1) (X + Y) w) := by
  have hmk : ∀ w : World, (Instr.makeSlice 53 (.int .i64 ((L : Int) + 1)) (.int .i64 ((L : Int) + 1))).run Try.prog w = .ok (.slice (some ⟨w.heap.size, 0, none⟩) (L + 1) (L + 1)) (w.alloc (.cells (zeros (L + 1)) 87)) := fun w => make_digits (L + 1) (by omega) w
  have d1 : decide (L' < L) = true := by simpa using hle
  have HX := Lib.hid hx
  have HY := Lib.hid hy
  clear hx hy
  go_enter Try.func83, Try.ntmps83
  go_wp2
  go_loopw [6, 22] (fun c k wr => ∃ i cc : Nat, i ≤ L ∧ k = .int .i64 i ∧ c = .int .u64 cc ∧ cc ≤ 1 ∧ Hid ((X + Y) / 4294967296 ^ i = X / 4294967296 ^ i + Y / 4294967296 ^ i + cc) ∧ Hid (Part wr w.heap.size (L + 1) i (X + Y)) ∧ Below w.heap.size w wr) (fun _ k _ => L - (intOf k).toNat)
  case atStart => exact ⟨0, 0, by omega, rfl, rfl, by omega, (by show _ = _; simp), Part.new w (L + 1) (X + Y), new_below w _⟩
  case round =>
    obtain ⟨i, cc, hi, rfl, rfl, hcc, HE, HP, hb⟩ := hrel
    obtain ⟨hc, hf⟩ := bcell hb
    have hs := HP.out.lt
    obtain ⟨u, hu⟩ := HP.out.cell (k := i) (by omega)
    have hfz := HP.out.frozen i
    obtain ⟨m1, m2⟩ := sum_step HE.out
    have lx := dig_lt X i
    have ly := dig_lt Y i
    have M1 := Lib.hid m1
    have M2 := Lib.hid m2
    clear m1 m2
    by_cases hlt : i < L
    · obtain ⟨gx, rfl, rx⟩ := HX.out.2 (by omega)
      have gl := rx.lt
      have cx := rx.cell hlt
      have t1 : (0 : Int) ≤ i := by omega
      have t2 : (i : Int) < L := by omega
      have t3 : decide (i < L) = true := by simpa using hlt
      by_cases hly : i < L'
      · obtain ⟨gy, rfl, ry⟩ := HY.out.2 (by omega)
        have gl' := ry.lt
        have cy := ry.cell hly
        have t4 : decide (i < L') = true := by simpa using hly
        clear rx ry
        go_wp2
        go_roundw
        case rel => exact ⟨i + 1, (cc + dig X i + dig Y i) / 4294967296, by omega, by go_num, by go_num, by omega, M2, HP.out.put (by omega) (by rw [M1.out]; simp), hb.setCell (Nat.le_refl _) _⟩
        case measure => simp [intOf]; omega
      · have e0 := dig_over HY.out.1 (Nat.le_of_not_lt hly)
        have t4 : decide (i < L') = false := by simpa using hly
        rw [e0] at ly
        have e1 : cc + dig X i + dig Y i = cc + dig X i := by rw [e0, Nat.add_zero]
        have M1' : Hid (dig (X + Y) i = (cc + dig X i) % 4294967296) := by rw [← e1]; exact M1
        have M2' : Hid ((X + Y) / 4294967296 ^ (i + 1) = X / 4294967296 ^ (i + 1) + Y / 4294967296 ^ (i + 1) + (cc + dig X i) / 4294967296) := by rw [← e1]; exact M2
        clear rx e0 e1 M1 M2
        go_wp2
        go_roundw
        case rel => exact ⟨i + 1, (cc + dig X i) / 4294967296, by omega, by go_num, by go_num, by omega, M2', HP.out.put (by omega) (by rw [M1'.out]; simp), hb.setCell (Nat.le_refl _) _⟩
        case measure => simp [intOf]; omega
    · obtain rfl : i = L := by omega
      have e1 := dig_over HX.out.1 (Nat.le_refl _)
      have e2 := dig_over HY.out.1 (Nat.le_of_lt hle)
      have e3 : dig (X + Y) i = cc := by have := M1.out; rw [e1, e2] at this; omega
      have E3 := Lib.hid e3
      have t2 : (0 : Int) ≤ i := by omega
      have t3 : (i : Int) < i + 1 := by omega
      clear e1 e2 e3 lx ly hlt
      go_wp2
      go_ret
      refine ⟨rfl, (HP.out.put (by omega) ?_).row (Nat.le_refl _), hb.setCell (Nat.le_refl _) _⟩
      rw [E3.out]

theorem sum_any (A A' : Option Addr) (L L' a a' X Y M : Nat) (hL : L ≤ 1073741824) (hL' : L' ≤ 1073741824) (hM : L' ≤ L ∧ M = L ∨ L < L' ∧ M = L') (w : World) (hx : Sl w A L X) (hy : Sl w A' L' Y) :
    Calls Try.prog 83 #[.slice A L a, .slice A' L' a'] w (GivesRow (M + 1) (X + Y) w) := by
  rcases hM with ⟨h, rfl⟩ | ⟨h, rfl⟩
  · exact sum_in A A' M L' a a' X Y hL h w hx hy
  · rw [Nat.add_comm X Y]; exact sum_out A' A M L a' a Y X hL' h w hy hx
end Go.Proofs.Ytkjollifghmkbaa
