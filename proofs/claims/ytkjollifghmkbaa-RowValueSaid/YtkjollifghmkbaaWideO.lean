/-
  The contract of Mul: the digits of a product, one by one.
-/
import Derived.Test.YtkjollifghmkbaaWideN
namespace Go.Proofs.Ytkjollifghmkbaa
open Go.RowKit
attribute [local go_sem ↓] Go.wp_at_zero Go.wp_at_succ

/-- A number with one digit set. -/
def setd (V p d : Nat) : Nat := V / 4294967296 ^ (p + 1) * 4294967296 ^ (p + 1) + d * 4294967296 ^ p + V % 4294967296 ^ p
theorem split_at (V p : Nat) : V = V / 4294967296 ^ (p + 1) * 4294967296 ^ (p + 1) + dig V p * 4294967296 ^ p + V % 4294967296 ^ p := by
  have h1 := Nat.div_add_mod V (4294967296 ^ p)
  have h2 := up_digit V p
  rw [h2, Nat.mul_add, ← Nat.mul_assoc, Nat.mul_comm (4294967296 ^ p) (V / _), Nat.mul_assoc, ← Nat.pow_succ, Nat.mul_comm (4294967296 ^ p) (dig V p)] at h1
  exact h1.symm
theorem setd_add (V p d : Nat) : setd V p d + dig V p * 4294967296 ^ p = V + d * 4294967296 ^ p := by
  have h := split_at V p
  unfold setd
  omega
theorem setd_lt {V p d n : Nat} (hV : V < 4294967296 ^ n) (hp : p < n) (hd : d < 4294967296) : setd V p d < 4294967296 ^ n := by
  have e : 4294967296 ^ n = 4294967296 ^ (n - (p + 1)) * 4294967296 ^ (p + 1) := by rw [← Nat.pow_add]; congr 1; omega
  have h1 : V / 4294967296 ^ (p + 1) + 1 ≤ 4294967296 ^ (n - (p + 1)) := by
    apply Nat.div_lt_of_lt_mul
    rw [Nat.mul_comm, ← e]; exact hV
  have h2 := Nat.mul_le_mul_right (4294967296 ^ (p + 1)) h1
  rw [← e, Nat.add_mul, Nat.one_mul] at h2
  have h3 := Nat.mod_lt V (pow_pos' p)
  have h4 : (d + 1) * 4294967296 ^ p ≤ 4294967296 ^ (p + 1) := by
    rw [Nat.pow_succ, Nat.mul_comm (4294967296 ^ p)]
    exact Nat.mul_le_mul_right _ (by omega)
  rw [Nat.add_mul, Nat.one_mul] at h4
  unfold setd
  omega
theorem dig_mod (N k : Nat) : dig N k = N % 4294967296 ^ (k + 1) / 4294967296 ^ k := by
  unfold dig
  rw [Nat.pow_succ, Nat.mod_mul_right_div_self]
theorem dig_setd {V p d : Nat} (hd : d < 4294967296) (k : Nat) : dig (setd V p d) k = if k = p then d else dig V k := by
  have m := Nat.mod_lt V (pow_pos' p)
  by_cases h : k = p
  · subst h
    rw [if_pos rfl]
    unfold dig setd
    have e : V / 4294967296 ^ (k + 1) * 4294967296 ^ (k + 1) + d * 4294967296 ^ k + V % 4294967296 ^ k = V % 4294967296 ^ k + 4294967296 ^ k * (V / 4294967296 ^ (k + 1) * 4294967296 + d) := by
      rw [Nat.pow_succ, Nat.mul_add]
      have : V / (4294967296 ^ k * 4294967296) * (4294967296 ^ k * 4294967296) = 4294967296 ^ k * (V / (4294967296 ^ k * 4294967296) * 4294967296) := by
        rw [Nat.mul_left_comm]
      rw [this, Nat.mul_comm (4294967296 ^ k) d]; omega
    rw [e, Nat.add_mul_div_left _ _ (pow_pos' k), Nat.div_eq_of_lt m]
    omega
  · rw [if_neg h]
    rcases Nat.lt_or_gt_of_ne h with h | h
    · have key : ∀ q : Nat, (q * 4294967296 ^ p + V % 4294967296 ^ p) % 4294967296 ^ (k + 1) = V % 4294967296 ^ p % 4294967296 ^ (k + 1) := by
        intro q
        have e : 4294967296 ^ p = 4294967296 ^ (k + 1) * 4294967296 ^ (p - (k + 1)) := by rw [← Nat.pow_add]; congr 1; omega
        rw [Nat.add_comm]
        conv => lhs; rw [show q * 4294967296 ^ p = 4294967296 ^ (k + 1) * (4294967296 ^ (p - (k + 1)) * q) by rw [e, Nat.mul_left_comm, Nat.mul_comm q (4294967296 ^ (p - (k + 1)))]]
        rw [Nat.add_mul_mod_self_left]
      have e1 : setd V p d = (V / 4294967296 ^ (p + 1) * 4294967296 + d) * 4294967296 ^ p + V % 4294967296 ^ p := by
        unfold setd; rw [Nat.pow_succ, Nat.add_mul, Nat.mul_assoc, Nat.mul_comm 4294967296 (4294967296 ^ p)]
      have e2 : V = V / 4294967296 ^ p * 4294967296 ^ p + V % 4294967296 ^ p := by
        have := Nat.div_add_mod V (4294967296 ^ p); rw [Nat.mul_comm] at this; omega
      rw [dig_mod, dig_mod V, e1, key]
      conv => rhs; rw [e2, key]
    · obtain ⟨j, rfl⟩ : ∃ j, k = p + 1 + j := ⟨k - (p + 1), by omega⟩
      unfold dig
      have e : setd V p d / 4294967296 ^ (p + 1) = V / 4294967296 ^ (p + 1) := by
        have l : d * 4294967296 ^ p + V % 4294967296 ^ p < 4294967296 ^ (p + 1) := by
          have h4 : (d + 1) * 4294967296 ^ p ≤ 4294967296 ^ (p + 1) := by
            rw [Nat.pow_succ, Nat.mul_comm (4294967296 ^ p)]
            exact Nat.mul_le_mul_right _ (by omega)
          rw [Nat.add_mul, Nat.one_mul] at h4
          omega
        unfold setd
        rw [Nat.add_assoc, Nat.add_comm, Nat.add_mul_div_right _ _ (pow_pos' _), Nat.div_eq_of_lt l, Nat.zero_add]
      rw [Nat.pow_add, ← Nat.div_div_eq_div_mul, e, Nat.div_div_eq_div_mul]
/-- A row that is a whole number's digits. -/
def Fix (w : World) (g n V : Nat) : Prop := Part w g n n V
theorem Fix.put {w : World} {g n V p d : Nat} (h : Fix w g n V) (hp : p < n) (hd : d < 4294967296) {e : Int} (he : e = (d : Int)) : Fix (w.setCell ⟨g, p, none⟩ (.int .u32 e)) g n (setd V p d) := by
  obtain ⟨cs, e1, hs, hk⟩ := h
  refine ⟨cs.setIfInBounds p (.int .u32 e), by simp [World.setCell, Array.getElem?_modify, e1], by simp [hs], fun k hk' => ?_⟩
  rw [Array.getElem?_setIfInBounds, dig_setd hd]
  by_cases z : p = k
  · subst z; rw [if_pos rfl, if_pos (by omega), if_pos rfl, he]
  · rw [if_neg z, if_neg (by omega)]; exact hk k hk'
theorem Fix.new (w : World) (n : Nat) : Fix (w.alloc (.cells (zeros n) 87)) w.heap.size n 0 := by
  refine ⟨_, heap_alloc_new _ _, zeros_size n, fun k hk => ?_⟩
  have : dig 0 k = 0 := by simp [dig]
  rw [this]
  simp [zeros, madeCells, hk, Nat.mod_one]
theorem Fix.digit {w : World} {g n V k : Nat} (h : Fix w g n V) (hk : k < n) : w.cell? ⟨g, k, none⟩ = some (.int .u32 (dig V k)) := by
  obtain ⟨cs, e, hs, f⟩ := h
  exact (cell_of_row w g k cs 87 (0, 0) e).trans (f k hk)

theorem mul_start (X Y i L' : Nat) (hY : Y < 4294967296 ^ L') : X % 4294967296 ^ i * Y < 4294967296 ^ (i + L') := by
  rw [Nat.pow_add]
  exact Nat.mul_lt_mul_of_lt_of_le (Nat.mod_lt _ (pow_pos' i)) (Nat.le_of_lt hY) (pow_pos' L')
theorem mod_step (Y j : Nat) : Y % 4294967296 ^ (j + 1) = Y % 4294967296 ^ j + dig Y j * 4294967296 ^ j := by
  have h1 := split_at Y j
  have h2 := Nat.div_add_mod Y (4294967296 ^ (j + 1))
  rw [Nat.mul_comm] at h2
  omega
theorem mul_step {W Y V c i j P Q R : Nat} (hP : P = 4294967296 ^ i) (hQ : Q = 4294967296 ^ j) (hR : R = 4294967296 ^ (i + j)) (a : Nat) (h : V + c * R = W + a * (Y % Q) * P) :
    setd V (i + j) ((c + (a * dig Y j + dig V (i + j))) % 4294967296) + (c + (a * dig Y j + dig V (i + j))) / 4294967296 * 4294967296 ^ (i + (j + 1)) = W + a * (Y % 4294967296 ^ (j + 1)) * P := by
  have e1 := setd_add V (i + j) ((c + (a * dig Y j + dig V (i + j))) % 4294967296)
  have e2 := Nat.div_add_mod (c + (a * dig Y j + dig V (i + j))) 4294967296
  rw [← hR] at e1
  rw [mod_step, ← hQ, ← Nat.add_assoc i j 1, Nat.pow_succ, ← hR]
  have e3 : R = P * Q := by rw [hP, hQ, hR, Nat.pow_add]
  generalize setd V (i + j) _ = S at *
  generalize hT : c + (a * dig Y j + dig V (i + j)) = T at *
  have e4 : T % 4294967296 * R + T / 4294967296 * (R * 4294967296) = T * R := by
    conv => rhs; rw [← e2]
    rw [Nat.add_mul, Nat.add_comm, Nat.mul_comm R, ← Nat.mul_assoc, Nat.mul_comm (T / 4294967296) 4294967296]
  have e5 : T * R = c * R + a * dig Y j * R + dig V (i + j) * R := by rw [← hT]; grind
  have e6 : a * (Y % Q + dig Y j * Q) * P = a * (Y % Q) * P + a * dig Y j * R := by rw [e3]; grind
  rw [e6]
  omega
end Go.Proofs.Ytkjollifghmkbaa
