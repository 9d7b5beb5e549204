/-
  The contracts of the whole numbers' readers: Uint64, Int64, CmpAbs.
-/
import Derived.Test.YtkjollifghmkbaaWideD
namespace Go.Proofs.Ytkjollifghmkbaa
open Go.RowKit
theorem up_digit (n j : Nat) : n / 4294967296 ^ j = n / 4294967296 ^ (j + 1) * 4294967296 + dig n j := by
  unfold dig
  rw [Nat.pow_succ, ← Nat.div_div_eq_div_mul]
  omega
theorem or_nat (a b : Nat) (ha : a < 18446744073709551616) (hb : b < 18446744073709551616) : bits BinOp.or IntKind.u64 (a : Int) (b : Int) = ((a ||| b : Nat) : Int) := by
  have h : a ||| b < 18446744073709551616 := Nat.or_lt_two_pow (n := 64) ha hb
  have e1 : BitVec.ofInt 64 (a : Int) = BitVec.ofNat 64 a := by simp
  have e2 : BitVec.ofInt 64 (b : Int) = BitVec.ofNat 64 b := by simp
  show IntKind.u64.wrap ((BitVec.ofInt 64 (a : Int) ||| BitVec.ofInt 64 (b : Int)).toNat : Int) = _
  rw [e1, e2, BitVec.toNat_or, BitVec.toNat_ofNat, BitVec.toNat_ofNat, Nat.mod_eq_of_lt (by simpa using ha), Nat.mod_eq_of_lt (by simpa using hb), IntKind.wrap_u64]
  omega
theorem or_zero (a : Nat) (ha : a < 18446744073709551616) : bits BinOp.or IntKind.u64 0 (a : Int) = (a : Int) := by
  have h := or_nat 0 a (by omega) ha
  simpa using h
theorem or_join (a b : Nat) (ha : a < 4294967296) (hb : b < 4294967296) : bits BinOp.or IntKind.u64 ((a : Int) * 4294967296) (b : Int) = ((a * 4294967296 + b : Nat) : Int) := by
  have e : (a : Int) * 4294967296 = ((a * 4294967296 : Nat) : Int) := by omega
  rw [e, or_nat _ b (by omega) (by omega)]
  have h := Nat.shiftLeft_add_eq_or_of_lt (i := 32) (b := b) (by simpa using hb) a
  rw [Nat.shiftLeft_eq] at h
  rw [← h]
theorem wrap_fit (a : Nat) (ha : a < 18446744073709551616) : IntKind.u64.wrap (a : Int) = (a : Int) := by rw [IntKind.wrap_u64]; omega
theorem two_digits {n : Nat} (hn : n ≤ 18446744073709551615) :
    bits BinOp.or IntKind.u64 (IntKind.u64.wrap (bits BinOp.or IntKind.u64 0 (IntKind.u64.wrap (dig n 1 : Int)) * 4294967296)) (IntKind.u64.wrap (dig n 0 : Int)) = (n : Int) := by
  have h0 := dig_lt n 0
  have h1 := dig_lt n 1
  rw [wrap_fit _ (by omega), wrap_fit (dig n 0) (by omega), or_zero _ (by omega)]
  have e : (dig n 1 : Int) * 4294967296 = ((dig n 1 * 4294967296 : Nat) : Int) := by omega
  rw [e, wrap_fit _ (by omega), ← e, or_join _ _ (by omega) (by omega), dig_zero, dig_one]
  omega
theorem ret_u64 {a b : Int} (h : a = b) : Ending.returned (.int .u64 a) = .returned (.int .u64 b) := by rw [h]
set_option maxHeartbeats 1000000 in
theorem uint_any (b o n : Nat) (s : Bool) (hn : n ≤ 18446744073709551615) (w : World) (h : IntAt w b o s n) :
    Calls Try.prog 79 #[.pointer (some ⟨b, o, none⟩)] w fun e w' => e = .returned (.int .u64 n) ∧ w = w' := by
  obtain ⟨A, L, c, q1, q2, q3, q4⟩ := h.semi.len
  have hL := len_two q3 hn
  obtain ⟨k1, _, k3, _, k5, _⟩ := id h
  clear h
  have HN := Lib.hid hn
  obtain rfl | rfl | rfl : L = 0 ∨ L = 1 ∨ L = 2 := by omega
  · obtain rfl : n = 0 := by simpa using q2
    clear q2 q3 q4
    go_enter Try.func79, Try.ntmps79
    go_wp2
    refine wp_loop_rounds 1 ?_
    rw [rounds_succ]
    go_wp2
    go_ret
    exact ⟨rfl, rfl⟩
  · obtain ⟨g, rfl, r⟩ := q4 (by omega)
    have c0 := r.cell (k := 0) (by omega)
    have e0 : dig n 0 = n := by rw [dig_zero]; simp at q2; omega
    rw [e0] at c0
    clear q2 q3 q4
    go_enter Try.func79, Try.ntmps79
    go_wp2
    refine wp_loop_rounds 2 ?_
    rw [rounds_succ]
    go_wp2
    rw [rounds_succ]
    go_wp2
    go_ret
    exact ⟨ret_u64 (or_zero n (by omega)), rfl⟩
  · obtain ⟨g, rfl, r⟩ := q4 (by omega)
    have c0 := r.cell (k := 0) (by omega)
    have c1 := r.cell (k := 1) (by omega)
    clear q2 q3 q4
    go_enter Try.func79, Try.ntmps79
    go_wp2
    refine wp_loop_rounds 3 ?_
    rw [rounds_succ]
    go_wp2
    rw [rounds_succ]
    go_wp2
    rw [rounds_succ]
    go_wp2
    go_ret
    exact ⟨ret_u64 (two_digits hn), rfl⟩
/-- The whole number of a sign and a magnitude. -/
def num (s : Bool) (n : Nat) : Int := if s = true then -(n : Int) else n
set_option maxHeartbeats 1000000 in
theorem int64_any (b o n : Nat) (s : Bool) (hn : n ≤ 9223372036854775807) (w : World) (h : IntAt w b o s n) :
    Calls Try.prog 58 #[.pointer (some ⟨b, o, none⟩)] w fun e w' => e = .returned (.int .i64 (num s n)) ∧ w = w' := by
  obtain ⟨k1, _, k3, _, k5, _⟩ := id h
  have H := Lib.hid h
  clear h
  have e1 : IntKind.i64.wrap (n : Int) = (n : Int) := by rw [IntKind.wrap_i64]; omega
  cases s
  all_goals
    go_enter Try.func58, Try.ntmps58
    go_wp2_with fail
    refine (uint_any b o n _ (by omega) _ H.out).mono ?_
    rintro e w1 ⟨rfl, rfl⟩
    go_wp2
    go_ret
    simp [num]
def cmpN (m n : Nat) : Int := if m < n then -1 else if n < m then 1 else 0
theorem cmp_digits {n n' P q d d' : Nat} (h : n / P = q * 4294967296 + d) (h' : n' / P = q * 4294967296 + d') (hd : d ≠ d') : cmpN n n' = cmpN d d' := by
  unfold cmpN
  rcases Nat.lt_or_gt_of_ne hd with x | x
  · have y : n < n' := by
      rcases Nat.lt_or_ge n n' with z | z
      · exact z
      · have := Nat.div_le_div_right (c := P) z; omega
    rw [if_pos x, if_pos y]
  · have y : n' < n := by
      rcases Nat.lt_or_ge n' n with z | z
      · exact z
      · have := Nat.div_le_div_right (c := P) z; omega
    rw [if_neg (by omega), if_pos y, if_neg (by omega), if_pos x]
set_option maxHeartbeats 1000000 in
theorem cmpabs_any (b o n b' o' n' : Nat) (s s' : Bool) (M : Nat) (hM : M ≤ 1073741824) (hn : n < 4294967296 ^ M) (hn' : n' < 4294967296 ^ M) (w : World) (h : IntAt w b o s n) (h' : IntAt w b' o' s' n') :
    Calls Try.prog 57 #[.pointer (some ⟨b, o, none⟩), .pointer (some ⟨b', o', none⟩)] w fun e w' => e = .returned (.int .i64 (cmpN n n')) ∧ ∃ k, w' = w.drewN k := by
  obtain ⟨A, L, c, q1, q2, q3, q4⟩ := h.semi.len
  obtain ⟨A', L', c', q1', q2', q3', q4'⟩ := h'.semi.len
  obtain ⟨k1, _, k3, _, k5, _⟩ := id h
  obtain ⟨k1', _, k3', _, k5', _⟩ := id h'
  have hL : L ≤ M := by
    rcases Nat.eq_zero_or_pos L with z | z
    · omega
    · have : L - 1 < M := (Nat.pow_lt_pow_iff_right (a := 4294967296) (by omega)).1 (Nat.lt_of_le_of_lt (q3 z) hn)
      omega
  have hL' : L' ≤ M := by
    rcases Nat.eq_zero_or_pos L' with z | z
    · omega
    · have : L' - 1 < M := (Nat.pow_lt_pow_iff_right (a := 4294967296) (by omega)).1 (Nat.lt_of_le_of_lt (q3' z) hn')
      omega
  clear h h' hn hn'
  by_cases hlt : L < L'
  · have e : cmpN n n' = -1 := by
      have h1 : 4294967296 ^ L ≤ 4294967296 ^ (L' - 1) := Nat.pow_le_pow_right (by omega) (by omega)
      have h2 := q3' (by omega)
      unfold cmpN; rw [if_pos (by omega)]
    rw [e]
    have d1 : decide (L < L') = true := by simpa using hlt
    have d2 : ((L : Int) != (L' : Int)) = true := by simp; omega
    clear q2 q3 q4 q2' q3' q4' e
    go_enter Try.func57, Try.ntmps57
    go_wp2
    go_quiet (fail)
    go_wp2
    go_quiet (fail)
    go_wp2
    go_ret
    exact ⟨rfl, _, World.drewN_drewN _ _ _⟩
  · by_cases hgt : L' < L
    · have e : cmpN n n' = 1 := by
        have h1 : 4294967296 ^ L' ≤ 4294967296 ^ (L - 1) := Nat.pow_le_pow_right (by omega) (by omega)
        have h2 := q3 (by omega)
        unfold cmpN; rw [if_neg (by omega), if_pos (by omega)]
      rw [e]
      have d1 : decide (L < L') = false := by simpa using hlt
      have d2 : ((L : Int) != (L' : Int)) = true := by simp; omega
      clear q2 q3 q4 q2' q3' q4' e
      go_enter Try.func57, Try.ntmps57
      go_wp2
      go_quiet (fail)
      go_wp2
      go_quiet (fail)
      go_wp2
      go_ret
      exact ⟨rfl, _, World.drewN_drewN _ _ _⟩
    · obtain rfl : L' = L := by omega
      have HD : Hid (n / 4294967296 ^ L' = n' / 4294967296 ^ L') := by show _ = _; rw [Nat.div_eq_of_lt q2, Nat.div_eq_of_lt q2']
      have Q := Lib.hid q4
      have Q' := Lib.hid q4'
      clear q2 q3 q4 q2' q3' q4' hlt hgt
      go_enter Try.func57, Try.ntmps57
      go_wp2
      go_quiet (fail)
      go_wp2
      go_loopw [5] (fun i wr => ∃ j a : Nat, j ≤ L' ∧ i = .int .i64 ((j : Int) - 1) ∧ Hid (n / 4294967296 ^ j = n' / 4294967296 ^ j) ∧ wr = w.drewN a) (fun i _ => (intOf i + 1).toNat)
      case atStart => exact ⟨L', _, Nat.le_refl _, rfl, HD, rfl⟩
      case round =>
        obtain ⟨j, a, hj, rfl, hd, rfl⟩ := hrel
        rcases Nat.eq_zero_or_pos j with rfl | hp
        · have e : n = n' := by have := hd.out; simpa using this
          subst e
          go_wp2
          go_ret
          refine ⟨?_, _, rfl⟩
          simp [cmpN]
        · obtain ⟨k, rfl⟩ : ∃ k, j = k + 1 := ⟨j - 1, by omega⟩
          obtain ⟨g, rfl, r⟩ := Q.out (by omega)
          obtain ⟨g', rfl, r'⟩ := Q'.out (by omega)
          have c0 := r.cell (k := k) (by omega)
          have c1 := r'.cell (k := k) (by omega)
          have u := up_digit n k
          have u' := up_digit n' k
          rw [hd.out] at u
          have l0 := dig_lt n k
          have l1 := dig_lt n' k
          have hk : (0 : Int) ≤ k := by omega
          have hk2 : (k : Int) < L' := by omega
          by_cases hq : dig n k = dig n' k
          · rw [hq] at u c0
            have HU := Lib.hid (u.trans u'.symm)
            have d1 : ((dig n' k : Int) != (dig n' k : Int)) = false := by simp
            clear u u' hq
            go_wp2
            go_quiet (fail)
            go_wp2
            go_roundw
            case rel => exact ⟨k, _, by omega, by go_num, HU, rfl⟩
            case measure => simp [intOf]
          · have d1 : ((dig n k : Int) != (dig n' k : Int)) = true := by simp; omega
            have HE : Hid (cmpN n n' = cmpN (dig n k) (dig n' k)) := cmp_digits u u' hq
            clear u u'
            by_cases x : dig n k < dig n' k
            · have d2 : decide (dig n k < dig n' k) = true := by simpa using x
              have HX : Hid (cmpN (dig n k) (dig n' k) = -1) := by show _ = _; unfold cmpN; rw [if_pos x]
              clear x hq
              go_wp2
              go_quiet (fail)
              go_wp2
              go_quiet (fail)
              go_wp2
              go_ret
              refine ⟨?_, _, by rw [World.drewN_drewN, World.drewN_drewN]⟩
              rw [HE.out, HX.out]; rfl
            · have d2 : decide (dig n k < dig n' k) = false := by simpa using x
              have HX : Hid (cmpN (dig n k) (dig n' k) = 1) := by show _ = _; unfold cmpN; rw [if_neg x, if_pos (by omega)]
              clear x hq
              go_wp2
              go_quiet (fail)
              go_wp2
              go_quiet (fail)
              go_wp2
              go_ret
              refine ⟨?_, _, by rw [World.drewN_drewN, World.drewN_drewN]⟩
              rw [HE.out, HX.out]; rfl
end Go.Proofs.Ytkjollifghmkbaa
