/-
  The contracts of row's trimmed, divisor, divisorOf and floor.
-/
import Derived.Test.YtkjollifghmkbaaRowE
import Derived.Test.YtkjollifghmkbaaFracM
namespace Go.Proofs.Ytkjollifghmkbaa
open Go.RowKit

/-- How many numbers are left without the noughts at the end. -/
def trimK (xs : List Int) : Nat → Nat
  | 0 => 0
  | k + 1 => if nth xs k = 0 then trimK xs k else k + 1
theorem trimK_le (xs : List Int) (k : Nat) : trimK xs k ≤ k := by
  induction k with
  | zero => exact Nat.le_refl _
  | succ k ih => unfold trimK; split <;> omega
theorem nth_take {xs : List Int} {k j : Nat} (h : j < k) : nth (xs.take k) j = nth xs j := by
  simp [nth, List.getD, h]
theorem is_take {w : World} {A : Option Addr} {xs : List Int} (h : Is w A xs) (k : Nat) : Is w A (xs.take k) := fun z => by
  have l : (xs.take k).length = min k xs.length := List.length_take
  obtain ⟨b, o, e, lt, f⟩ := h (by omega)
  refine ⟨b, o, e, lt, fun j hj => ?_⟩
  rw [nth_take (by omega)]
  exact f j (by omega)
set_option maxHeartbeats 1000000 in
theorem trimmed_any (A : Option Addr) (xs : List Int) (L c : Nat) (hL : L = xs.length) (hc : L ≤ c) (hb : L ≤ 1073741824) (w : World) (h : Is w A xs) :
    Calls Try.prog 41 #[.slice A L c] w fun e w' => e = .returned (.slice A (trimK xs L) c) ∧ ∃ n, w' = w.drewN n := by
  have HX := Lib.hid h
  have HL := Lib.hid hL
  clear h hL
  go_enter Try.func41, Try.ntmps41
  go_wp2
  go_loopw [0] (fun v wr => ∃ k n : Nat, k ≤ L ∧ v = .slice A k c ∧ Hid (trimK xs L = trimK xs k) ∧ wr = w.drewN n) (fun v _ => match v with | .slice _ k _ => k | _ => 0)
  case atStart => exact ⟨L, 0, Nat.le_refl _, rfl, rfl, rfl⟩
  case round =>
    obtain ⟨k, n, hk, rfl, hn, rfl⟩ := hrel
    rcases Nat.eq_zero_or_pos k with rfl | hp
    · go_wp2
      go_ret
      have := hn.out
      exact ⟨by rw [this]; rfl, n, rfl⟩
    · obtain ⟨j, rfl⟩ : ∃ j, k = j + 1 := ⟨k - 1, by omega⟩
      obtain ⟨b, o, rfl, lt, f⟩ := HX.out (by rw [← HL.out]; omega)
      have cx := f j (by rw [← HL.out]; omega)
      have t1 : (0 : Int) ≤ j := by omega
      have t2 : (j : Int) < (j : Int) + 1 := by omega
      have t3 : (j : Int) ≤ c := by omega
      have t4 : j ≤ c := by omega
      have t5 : (j : Int) ≤ 1073741824 := by omega
      clear f
      by_cases hz : nth xs j = 0
      · rw [hz] at cx
        have hn' : Hid (trimK xs L = trimK xs j) := by
          have := hn.out
          rw [trimK, if_pos hz] at this
          exact this
        clear hz
        go_wp2
        go_roundw
        case rel => exact ⟨j, n, by omega, rfl, hn', rfl⟩
        case measure => simp
      · have hz1 : (nth xs j == 0) = false := by simpa using hz
        have hn' : trimK xs L = j + 1 := by
          have := hn.out
          rw [trimK, if_neg hz] at this
          exact this
        have HN := Lib.hid hn'
        clear hz hn'
        go_wp2
        go_ret
        exact ⟨by rw [HN.out]; rfl, n, rfl⟩
theorem igcd_step (p q : Int) : Int.gcd q (p.tmod q) = Int.gcd p q := by
  unfold Int.gcd
  rw [Int.natAbs_tmod]
  exact gcd_step _ _
set_option maxHeartbeats 1000000 in
theorem rdiv_any (a b : Int) (h1 : -1073741824 ≤ a) (h2 : a ≤ 1073741824) (h3 : -1073741824 ≤ b) (h4 : b ≤ 1073741824) (w : World) :
    Calls Try.prog 43 #[.int .i64 a, .int .i64 b] w fun e w' => e = .returned (.int .i64 (Int.gcd a b : Nat)) ∧ ∃ n, w' = w.drewN n := by
  go_enter Try.func43, Try.ntmps43
  go_wp2
  go_loopw [0, 1] (fun x y wr => ∃ (p q : Int) (n : Nat), -1073741824 ≤ p ∧ p ≤ 1073741824 ∧ -1073741824 ≤ q ∧ q ≤ 1073741824 ∧ x = .int .i64 p ∧ y = .int .i64 q ∧ Int.gcd p q = Int.gcd a b ∧ wr = w.drewN n) (fun _ y _ => (intOf y).natAbs)
  case atStart => exact ⟨a, b, 0, h1, h2, h3, h4, rfl, rfl, rfl, rfl⟩
  case round =>
    obtain ⟨p, q, n, p1, p2, q1, q2, rfl, rfl, hg, rfl⟩ := hrel
    have hs := igcd_step p q
    have HG : Hid (Int.gcd p q = Int.gcd a b) := hg
    have HS : Hid (Int.gcd q (p.tmod q) = Int.gcd p q) := hs
    clear hg hs
    by_cases hz : q = 0
    · subst hz
      have e := HG.out
      rw [Int.gcd_zero_right] at e
      have HE := Lib.hid e
      have t1 : IntKind.i64.wrap (-p) = -p := IntWalk.i64_in _ (by omega)
      have t2 := max_mag p
      clear e
      go_wp2
      go_ret
      exact ⟨ret_int (by rw [← HE.out]; rfl), n, rfl⟩
    · have hz1 : (q != 0) = true := by simpa using hz
      have hz2 : (q == 0) = false := by simpa using hz
      obtain ⟨j1, j2⟩ := tmod_bd p q p1 p2
      have hm : (p.tmod q).natAbs < q.natAbs := by rw [Int.natAbs_tmod]; exact Nat.mod_lt _ (by omega)
      go_wp2
      go_quiet (fail)
      go_wp2
      go_roundw
      case rel => exact ⟨q, p.tmod q, _, q1, q2, j1, j2, rfl, by go_num, HS.out.trans HG.out, World.drewN_drewN _ _ _⟩
      case measure => simpa [intOf] using hm
/-- The greatest common divisor of the first numbers of a list. -/
def gcdK (xs : List Int) : Nat → Nat
  | 0 => 0
  | i + 1 => Int.gcd (gcdK xs i) (nth xs i)
theorem gcdK_le (xs : List Int) (i : Nat) (h : ∀ j, j < i → inB (nth xs j) = true) : gcdK xs i ≤ 1000000 := by
  induction i with
  | zero => exact Nat.zero_le _
  | succ i ih =>
    have h1 := ih (fun j hj => h j (by omega))
    obtain ⟨h2, h3⟩ := inB_iff.1 (h i (by omega))
    unfold gcdK
    by_cases hz : nth xs i = 0
    · rw [hz, Int.gcd_zero_right]; omega
    · have : Int.gcd (gcdK xs i) (nth xs i) ≤ (nth xs i).natAbs := Nat.gcd_le_right _ (by omega)
      omega
set_option maxHeartbeats 1000000 in
theorem rdivs_any (A : Option Addr) (xs : List Int) (L c : Nat) (hL : L = xs.length) (hb : L ≤ 1000000) (hx : ∀ i, i < L → inB (nth xs i) = true) (w : World) (h : Is w A xs) :
    Calls Try.prog 44 #[.slice A L c] w fun e w' => e = .returned (.int .i64 (gcdK xs L : Nat)) ∧ ∃ n, w' = w.drewN n := by
  have HX := Lib.hid h
  have HL := Lib.hid hL
  have HI := Lib.hid hx
  clear h hL hx
  go_enter Try.func44, Try.ntmps44
  go_wp2
  go_loopw [3, 8] (fun g k wr => ∃ i n : Nat, i ≤ L ∧ k = .int .i64 i ∧ g = .int .i64 (gcdK xs i : Nat) ∧ wr = w.drewN n) (fun _ k _ => L - (intOf k).toNat)
  case atStart => exact ⟨0, 0, by omega, rfl, rfl, rfl⟩
  case round =>
    obtain ⟨i, n, hi, rfl, rfl, rfl⟩ := hrel
    by_cases hlt : i < L
    · obtain ⟨b, o, rfl, hb', hc⟩ := HX.out (by rw [← HL.out]; omega)
      have cx := hc i (by rw [← HL.out]; exact hlt)
      obtain ⟨i1, i2⟩ := inB_iff.1 (HI.out i hlt)
      have g1 := gcdK_le xs i (fun j hj => HI.out j (by omega))
      have t1 : (0 : Int) ≤ i := by omega
      have t2 : (i : Int) < L := by omega
      have t3 : decide (i < L) = true := by simpa using hlt
      clear hc
      go_wp2_with fail
      refine (rdiv_any _ _ (by omega) (by omega) (by omega) (by omega) _).mono ?_
      rintro e w1 ⟨rfl, m, rfl⟩
      go_wp2_with fail
      go_roundw
      case rel => exact ⟨i + 1, n + m, by omega, by go_num, rfl, rfl⟩
      case measure => simp [intOf]; omega
    · obtain rfl : i = L := by omega
      have t3 : decide (i < i) = false := by simp
      go_wp2
      go_ret
      exact ⟨rfl, n, rfl⟩
theorem div_of_made {a b n d : Int} (hb : 0 < b) (hd : 0 < d) (h : a * d = n * b) : a / b = n / d := by
  rw [← Int.mul_ediv_mul_of_pos a b hd, Int.mul_comm d a, h, Int.mul_comm n b, Int.mul_comm d b, Int.mul_ediv_mul_of_pos n d hb]
theorem made_fits {n d : Int} (hd : 1 ≤ d) (hd2 : d ≤ 1073741824) (h1 : -1073741824 ≤ n) (h2 : n ≤ 1073741824) : madeC n d = 0 := by
  obtain ⟨x, y, g, e1, e2, g0, y0, _, h⟩ := made_terms (num := n) (den := d) (by omega)
  rcases h with ⟨h, _⟩ | ⟨_, _, _, _, h⟩
  · exfalso
    have a1 : x ≤ mag n := by rw [e1]; exact Nat.le_mul_of_pos_right _ g0
    have a2 : y ≤ mag d := by rw [e2]; exact Nat.le_mul_of_pos_right _ g0
    unfold mag at a1 a2
    omega
  · exact h
set_option maxHeartbeats 1000000 in
theorem rfloor_any (n d : Int) (hd : 1 ≤ d) (hd2 : d ≤ 1073741824) (h1 : -1073741824 ≤ n) (h2 : n ≤ 1073741824) (w : World) :
    Calls Try.prog 47 #[.int .i64 n, .int .i64 d] w fun e w' => e = .returned (.int .i64 (n / d)) ∧ Below w.heap.size w w' := by
  have hc := made_fits hd hd2 h1 h2
  obtain ⟨hv, he⟩ := made_spec (num := n) (den := d) (by omega) hc
  obtain ⟨q1, q2, q3, q4, _⟩ := fvalid_bd hv
  have hq := div_of_made (by omega) (by omega) he
  have HC := Lib.hid hc
  have HQ := Lib.hid hq
  clear hc hq he
  go_enter Try.func47, Try.ntmps47
  go_wp2_with fail
  refine (make_any n d (by omega) (by omega) (by omega) (by omega) _).mono ?_
  rw [HC.out]
  rintro e w1 ⟨rfl, hb1⟩
  go_wp2_with fail
  refine (floor_good _ _ _ hv).mono ?_
  rintro e w2 ⟨rfl, hb2⟩
  have z := hb1.size
  have G2 : Hid (Below w.heap.size w w2) := below_after (by go_grown) hb2
  clear hb1 hb2
  go_wp2_with fail
  go_ret
  exact ⟨ret_int HQ.out, G2.out.alloc G2.out.size _⟩
end Go.Proofs.Ytkjollifghmkbaa
