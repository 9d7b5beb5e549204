/-
  The reference's own functions of a row: its faults, its numbers without noughts at the end, its common divisor.
-/
import Derived.Test.YtkjollifghmkbaaRowY
import Derived.Test.YtkjollifghmkbaaRowK
import Derived.Test.YtkjollifghmkbaaRowJ
namespace Go.Proofs.Ytkjollifghmkbaa
open Go.RowKit

theorem fault_any (c i : Int) (w : World) : Calls Try.prog 25 #[.int .i64 c, .int .i64 i] w (GivesF c i w) := by
  go_enter Try.func25, Try.ntmps25
  go_wp2
  refine bodyPost_ret (v := .agg #[.int .i64 c, .int .i64 i]) (by simp [results, Try.results25, go_sem]) rfl ⟨rfl, ?_⟩
  go_grown
theorem flt_blocks {w w1 : World} {v1 v2 v3 : Value} (hb : Below ((w.alloc (.cells #[v1, v2, v3] 24)).alloc (.cells #[.int .i64 0, .int .i64 0] 29)).heap.size ((w.alloc (.cells #[v1, v2, v3] 24)).alloc (.cells #[.int .i64 0, .int .i64 0] 29)) w1) :
    HB w1 w.heap.size 24 #[v1, v2, v3] ∧ HB w1 (w.heap.size + 1) 29 #[.int .i64 0, .int .i64 0] ∧ w.heap.size + 2 ≤ w1.heap.size ∧ Below w.heap.size w w1 := by
  have a1 := ((HB.new w 24 #[v1, v2, v3]).alloc (.cells #[.int .i64 0, .int .i64 0] 29)).below hb
  have a2 := (HB.new1 w (.cells #[v1, v2, v3] 24) 29 #[.int .i64 0, .int .i64 0]).below hb
  have hs := hb.size
  simp at hs
  exact ⟨a1, a2, by omega, below_after (by go_grown) hb⟩
set_option maxHeartbeats 2000000 in
theorem frow_out (A : Option Addr) (L c : Nat) (kind tt n : Int) (hn : n < 0 ∨ 12 < n) (w : World) :
    Calls Try.prog 15 #[.agg #[.slice A L c, .int .i64 kind, .int .i64 tt], .int .i64 n] w (GivesF 3 (-1) w) := by
  by_cases h : n < 0
  · have d : decide (n < 0) = true := by simpa using h
    clear hn
    go_enter Try.func15, Try.ntmps15
    go_wp2_with fail
    refine (fault_any _ _ _).mono ?_
    rintro e w1 ⟨rfl, hb1⟩
    obtain ⟨a1, a2, lz, g1⟩ := flt_blocks hb1
    obtain ⟨u0, u1, u2, u3, u4, u5⟩ := HB.row' a1
    obtain ⟨z0, z1, z2, z3⟩ := HB.two a2
    have l0 : w.heap.size < w1.heap.size := by omega
    have l1 : w.heap.size + 1 < w1.heap.size := by omega
    have G1 := Lib.hid g1
    clear a1 a2 g1 hb1
    go_wp2
    refine bodyPost_ret (v := .agg #[.int .i64 3, .int .i64 (-1)]) (by simp [results, Try.results15, go_sem, z0, z1]) rfl ⟨rfl, ?_⟩
    exact bw_far (g := w.heap.size + 1) G1.out (by omega) (far2 _ _ _ _)
  · have d : decide (n < 0) = false := by simpa using h
    have d2 : decide (12 < n) = true := by simp; omega
    clear hn
    go_enter Try.func15, Try.ntmps15
    go_wp2_with fail
    refine (fault_any _ _ _).mono ?_
    rintro e w1 ⟨rfl, hb1⟩
    obtain ⟨a1, a2, lz, g1⟩ := flt_blocks hb1
    obtain ⟨u0, u1, u2, u3, u4, u5⟩ := HB.row' a1
    obtain ⟨z0, z1, z2, z3⟩ := HB.two a2
    have l0 : w.heap.size < w1.heap.size := by omega
    have l1 : w.heap.size + 1 < w1.heap.size := by omega
    have G1 := Lib.hid g1
    clear a1 a2 g1 hb1
    go_wp2
    refine bodyPost_ret (v := .agg #[.int .i64 3, .int .i64 (-1)]) (by simp [results, Try.results15, go_sem, z0, z1]) rfl ⟨rfl, ?_⟩
    exact bw_far (g := w.heap.size + 1) G1.out (by omega) (far2 _ _ _ _)
set_option maxHeartbeats 2000000 in
theorem frow_kind (A : Option Addr) (L c : Nat) (kind tt n : Int) (hn : 0 ≤ n) (hn2 : n ≤ 12) (hk : ¬ (kind = 1 ∨ kind = 2 ∨ kind = 3)) (w : World) :
    Calls Try.prog 15 #[.agg #[.slice A L c, .int .i64 kind, .int .i64 tt], .int .i64 n] w (GivesF 4 0 w) := by
  have d : decide (n < 0) = false := by simp; omega
  have d2 : decide (12 < n) = false := by simp; omega
  have k1 : (kind != 1) = true := by simp; omega
  have k2 : (kind != 2) = true := by simp; omega
  have k3 : (kind != 3) = true := by simp; omega
  clear hk
  go_enter Try.func15, Try.ntmps15
  go_wp2_with fail
  refine (fault_any _ _ _).mono ?_
  rintro e w1 ⟨rfl, hb1⟩
  obtain ⟨a1, a2, lz, g1⟩ := flt_blocks hb1
  obtain ⟨u0, u1, u2, u3, u4, u5⟩ := HB.row' a1
  obtain ⟨z0, z1, z2, z3⟩ := HB.two a2
  have l0 : w.heap.size < w1.heap.size := by omega
  have l1 : w.heap.size + 1 < w1.heap.size := by omega
  have G1 := Lib.hid g1
  clear a1 a2 g1 hb1
  go_wp2
  refine bodyPost_ret (v := .agg #[.int .i64 4, .int .i64 0]) (by simp [results, Try.results15, go_sem, z0, z1]) rfl ⟨rfl, ?_⟩
  exact bw_far (g := w.heap.size + 1) G1.out (by omega) (far2 _ _ _ _)
set_option maxHeartbeats 4000000 in
theorem frow_size (A : Option Addr) (L c : Nat) (kind tt n : Int) (hn : 0 ≤ n) (hn2 : n ≤ 12) (hk : kind = 1 ∨ kind = 2 ∨ kind = 3) (hL : n < L) (w : World) :
    Calls Try.prog 15 #[.agg #[.slice A L c, .int .i64 kind, .int .i64 tt], .int .i64 n] w (GivesF 9 0 w) := by
  have d : decide (n < 0) = false := by simp; omega
  have d2 : decide (12 < n) = false := by simp; omega
  have d3 : decide (n < (L : Int)) = true := by simpa using hL
  rcases hk with rfl | rfl | rfl
  all_goals
    go_enter Try.func15, Try.ntmps15
    go_wp2_with fail
    refine (fault_any _ _ _).mono ?_
    rintro e w1 ⟨rfl, hb1⟩
    obtain ⟨a1, a2, lz, g1⟩ := flt_blocks hb1
    obtain ⟨u0, u1, u2, u3, u4, u5⟩ := HB.row' a1
    obtain ⟨z0, z1, z2, z3⟩ := HB.two a2
    have l0 : w.heap.size < w1.heap.size := by omega
    have l1 : w.heap.size + 1 < w1.heap.size := by omega
    have G1 := Lib.hid g1
    clear a1 a2 g1 hb1
    go_wp2
    refine bodyPost_ret (v := .agg #[.int .i64 9, .int .i64 0]) (by simp [results, Try.results15, go_sem, z0, z1]) rfl ⟨rfl, ?_⟩
    exact bw_far (g := w.heap.size + 1) G1.out (by omega) (far2 _ _ _ _)
set_option maxHeartbeats 8000000 in
theorem frow_in (A : Option Addr) (xs : List Int) (L c : Nat) (kind tt n : Int) (hn : 0 ≤ n) (hn2 : n ≤ 12) (hk : kind = 1 ∨ kind = 2 ∨ kind = 3) (hxs : L = xs.length) (hL : ¬ n < L) (w : World) (h : Is w A xs) :
    Calls Try.prog 15 #[.agg #[.slice A L c, .int .i64 kind, .int .i64 tt], .int .i64 n] w (GivesF (inC tt xs) (inI tt xs) w) := by
  have d : decide (n < 0) = false := by simp; omega
  have d2 : decide (12 < n) = false := by simp; omega
  have d3 : decide (n < (L : Int)) = false := by simpa using hL
  have HX := Lib.hid h
  have HL := Lib.hid hxs
  have hL12 : L ≤ 12 := by omega
  clear h hxs hL
  rcases hk with rfl | rfl | rfl
  all_goals
    go_enter Try.func15, Try.ntmps15
    go_wp2
    go_loop [5] (fun k => ∃ i : Nat, i ≤ L ∧ k = .int .i64 i ∧ Hid (∀ j, j < i → inB (nth xs j) = true)) (fun k => L - (intOf k).toNat)
    case atStart => exact ⟨0, by omega, rfl, fun j hj => by omega⟩
    case round =>
      obtain ⟨i, hi, rfl, HI⟩ := hrel
      by_cases hlt : i < L
      · obtain ⟨b, o, rfl, hb, hc⟩ := HX.out (by rw [← HL.out]; omega)
        have cx := hc i (by rw [← HL.out]; exact hlt)
        have t1 : (0 : Int) ≤ i := by omega
        have t2 : (i : Int) < L := by omega
        have t3 : decide (i < L) = true := by simpa using hlt
        clear hc
        by_cases hin : inB (nth xs i) = true
        · have HIN := Lib.hid hin
          clear hin
          go_wp2_with fail
          refine (fits_any _ _).mono ?_
          rintro e w1 ⟨rfl, rfl⟩
          rw [HIN.out]
          go_wp2
          go_round
          case rel => exact ⟨i + 1, by omega, by go_num, fun j hj => by
            rcases Nat.lt_or_ge j i with z | z
            · exact HI.out j z
            · obtain rfl : j = i := by omega
              exact HIN.out⟩
          case measure => simp [intOf]; omega
        · have HIN := Lib.hid (by simpa using hin : inB (nth xs i) = false)
          have hbad := badAt_here (by rw [← HL.out]; exact hlt) HI.out HIN.out
          have hE1 : inC tt xs = 3 := by unfold inC; rw [hbad, if_pos (by rw [← HL.out]; exact hlt)]
          have hE2 : inI tt xs = i := by unfold inI; rw [hbad, if_pos (by rw [← HL.out]; exact hlt)]
          have HE1 := Lib.hid hE1
          have HE2 := Lib.hid hE2
          clear hin hbad hE1 hE2
          go_wp2_with fail
          refine (fits_any _ _).mono ?_
          rintro e w1 ⟨rfl, rfl⟩
          rw [HIN.out]
          go_wp2_with fail
          refine (fault_any _ _ _).mono ?_
          rintro e w1 ⟨rfl, hb1⟩
          obtain ⟨a1, a2, lz, g1⟩ := flt_blocks hb1
          obtain ⟨u0, u1, u2, u3, u4, u5⟩ := HB.row' a1
          obtain ⟨z0, z1, z2, z3⟩ := HB.two a2
          have l0 : w.heap.size < w1.heap.size := by omega
          have l1 : w.heap.size + 1 < w1.heap.size := by omega
          have G1 := Lib.hid g1
          clear a1 a2 g1 hb1
          go_wp2
          refine bodyPost_ret (v := .agg #[.int .i64 3, .int .i64 i]) (by simp [results, Try.results15, go_sem, z0, z1]) rfl ⟨by rw [HE1.out, HE2.out], ?_⟩
          exact bw_far (g := w.heap.size + 1) G1.out (by omega) (far2 _ _ _ _)
      · obtain rfl : i = L := by omega
        have hbad := badAt_none (xs := xs) (by rw [← HL.out]; exact HI.out)
        have hF1 : inC tt xs = if inB tt = true then 0 else 3 := by unfold inC; rw [hbad, if_neg (by omega)]
        have hF2 : inI tt xs = if inB tt = true then 0 else (xs.length : Int) := by unfold inI; rw [hbad, if_neg (by omega)]
        have t3 : decide (i < i) = false := by simp
        have HE := Lib.hid (show (xs.length : Int) = i by rw [HL.out])
        clear hbad hlt
        by_cases hin : inB tt = true
        · rw [if_pos hin] at hF1 hF2
          have HE1 := Lib.hid hF1
          have HE2 := Lib.hid hF2
          have HIN := Lib.hid hin
          clear hin hF1 hF2
          go_wp2_with fail
          refine (fits_any _ _).mono ?_
          rintro e w1 ⟨rfl, rfl⟩
          rw [HIN.out]
          go_wp2
          refine bodyPost_ret (v := .agg #[.int .i64 0, .int .i64 0]) (by simp [results, Try.results15, go_sem]) rfl ⟨by rw [HE1.out, HE2.out], ?_⟩
          go_grown
        · rw [if_neg hin] at hF1 hF2
          rw [HE.out] at hF2
          have HE1 := Lib.hid hF1
          have HE2 := Lib.hid hF2
          have HIN := Lib.hid (by simpa using hin : inB tt = false)
          clear hin hF1 hF2
          go_wp2_with fail
          refine (fits_any _ _).mono ?_
          rintro e w1 ⟨rfl, rfl⟩
          rw [HIN.out]
          go_wp2_with fail
          refine (fault_any _ _ _).mono ?_
          rintro e w1 ⟨rfl, hb1⟩
          obtain ⟨a1, a2, lz, g1⟩ := flt_blocks hb1
          obtain ⟨u0, u1, u2, u3, u4, u5⟩ := HB.row' a1
          obtain ⟨z0, z1, z2, z3⟩ := HB.two a2
          have l0 : w.heap.size < w1.heap.size := by omega
          have l1 : w.heap.size + 1 < w1.heap.size := by omega
          have G1 := Lib.hid g1
          clear a1 a2 g1 hb1
          go_wp2
          refine bodyPost_ret (v := .agg #[.int .i64 3, .int .i64 i]) (by simp [results, Try.results15, go_sem, z0, z1]) rfl ⟨by rw [HE1.out, HE2.out], ?_⟩
          exact bw_far (g := w.heap.size + 1) G1.out (by omega) (far2 _ _ _ _)
theorem frow_any (A : Option Addr) (xs : List Int) (L c : Nat) (kind tt n : Int) (hxs : L = xs.length) (w : World) (h : Is w A xs) :
    Calls Try.prog 15 #[.agg #[.slice A L c, .int .i64 kind, .int .i64 tt], .int .i64 n] w (GivesF (chkC kind tt xs n) (chkI kind tt xs n) w) := by
  unfold chkC chkI
  by_cases h1 : n < 0 ∨ 12 < n
  · rw [if_pos h1, if_pos h1]; exact frow_out A L c kind tt n h1 w
  · rw [if_neg h1, if_neg h1]
    by_cases h2 : kind = 1 ∨ kind = 2 ∨ kind = 3
    · rw [if_neg (show ¬ ¬ (kind = 1 ∨ kind = 2 ∨ kind = 3) from fun k => k h2), if_neg (show ¬ ¬ (kind = 1 ∨ kind = 2 ∨ kind = 3) from fun k => k h2)]
      by_cases h3 : n < xs.length
      · rw [if_pos h3, if_pos h3]; exact frow_size A L c kind tt n (by omega) (by omega) h2 (by omega) w
      · rw [if_neg h3, if_neg h3]; exact frow_in A xs L c kind tt n (by omega) (by omega) h2 hxs (by omega) w h
    · rw [if_pos h2, if_pos h2]; exact frow_kind A L c kind tt n (by omega) (by omega) h2 w
set_option maxHeartbeats 1000000 in
theorem barelist_any (A : Option Addr) (xs : List Int) (L c : Nat) (hL : L = xs.length) (hc : L ≤ c) (hb : L ≤ 1073741824) (w : World) (h : Is w A xs) :
    Calls Try.prog 50 #[.slice A L c] w fun e w' => e = .returned (.slice A (trimK xs L) c) ∧ ∃ n, w' = w.drewN n := by
  have HX := Lib.hid h
  have HL := Lib.hid hL
  clear h hL
  go_enter Try.func50, Try.ntmps50
  go_wp2
  go_loopw [0] (fun v wr => ∃ k n : Nat, k ≤ L ∧ v = .slice A k c ∧ Hid (trimK xs L = trimK xs k) ∧ wr = w.drewN n) (fun v _ => match v with | .slice _ k _ => k | _ => 0)
  case atStart => exact ⟨L, 0, Nat.le_refl _, rfl, rfl, rfl⟩
  case round =>
    obtain ⟨k, n, hk, rfl, hn, rfl⟩ := hrel
    rcases Nat.eq_zero_or_pos k with rfl | hp
    · go_wp2
      go_ret
      have := hn.out
      exact ⟨by rw [this]; rfl, n, rfl⟩
    · obtain ⟨j, rfl⟩ : ∃ j, k = j + 1 := ⟨k - 1, by omega⟩
      obtain ⟨b, o, rfl, lt, f⟩ := HX.out (by rw [← HL.out]; omega)
      have cx := f j (by rw [← HL.out]; omega)
      have t1 : (0 : Int) ≤ j := by omega
      have t2 : (j : Int) < (j : Int) + 1 := by omega
      have t3 : (j : Int) ≤ c := by omega
      have t4 : j ≤ c := by omega
      have t5 : (j : Int) ≤ 1073741824 := by omega
      clear f
      by_cases hz : nth xs j = 0
      · rw [hz] at cx
        have hn' : Hid (trimK xs L = trimK xs j) := by
          have := hn.out
          rw [trimK, if_pos hz] at this
          exact this
        clear hz
        go_wp2
        go_roundw
        case rel => exact ⟨j, n, by omega, rfl, hn', rfl⟩
        case measure => simp
      · have hz1 : (nth xs j == 0) = false := by simpa using hz
        have hn' : trimK xs L = j + 1 := by
          have := hn.out
          rw [trimK, if_neg hz] at this
          exact this
        have HN := Lib.hid hn'
        clear hz hn'
        go_wp2
        go_ret
        exact ⟨by rw [HN.out]; rfl, n, rfl⟩
set_option maxHeartbeats 2000000 in
theorem none_any (kind tt : Int) (hk : kind = 1 ∨ kind = 2 ∨ kind = 3) (w : World) :
    Calls Try.prog 51 #[.int .i64 kind, .int .i64 tt] w (GivesN kind (bareT kind tt) w) := by
  rcases hk with rfl | rfl | rfl
  · by_cases h : tt < 0
    · have e : bareT 1 tt = -1 := by simp [bareT, h]
      have d : decide (tt < 0) = true := by simpa using h
      rw [e]
      have m1 : (if (0 : Int) < tt then 0 else tt) = tt := by split <;> omega
      have m2 : (if -1 < tt then tt else -1) = -1 := by split <;> omega
      clear e h
      go_enter Try.func51, Try.ntmps51
      go_wp2
      refine bodyPost_ret (v := .agg #[.slice none 0 0, .int .i64 1, .int .i64 (-1)]) (by simp [results, Try.results51, go_sem]) rfl ⟨rfl, ?_⟩
      go_grown
    · have e : bareT 1 tt = 0 := by simp [bareT, h]
      have d : decide (tt < 0) = false := by simpa using h
      rw [e]
      have m1 : (if (0 : Int) < tt then 0 else tt) = 0 := by split <;> omega
      clear e h
      go_enter Try.func51, Try.ntmps51
      go_wp2
      refine bodyPost_ret (v := .agg #[.slice none 0 0, .int .i64 1, .int .i64 0]) (by simp [results, Try.results51, go_sem]) rfl ⟨rfl, ?_⟩
      go_grown
  · by_cases h : 0 < tt
    · have e : bareT 2 tt = 1 := by simp [bareT, h]
      have d : decide (0 < tt) = true := by simpa using h
      rw [e]
      have m1 : (if (1 : Int) < tt then 1 else tt) = 1 := by split <;> omega
      clear e h
      go_enter Try.func51, Try.ntmps51
      go_wp2
      refine bodyPost_ret (v := .agg #[.slice none 0 0, .int .i64 2, .int .i64 1]) (by simp [results, Try.results51, go_sem]) rfl ⟨rfl, ?_⟩
      go_grown
    · have e : bareT 2 tt = 0 := by simp [bareT, h]
      have d : decide (0 < tt) = false := by simpa using h
      rw [e]
      have m1 : (if (1 : Int) < tt then 1 else tt) = tt := by split <;> omega
      have m2 : (if 0 < tt then tt else 0) = 0 := by split <;> omega
      clear e h
      go_enter Try.func51, Try.ntmps51
      go_wp2
      refine bodyPost_ret (v := .agg #[.slice none 0 0, .int .i64 2, .int .i64 0]) (by simp [results, Try.results51, go_sem]) rfl ⟨rfl, ?_⟩
      go_grown
  · by_cases h : tt = 0
    · have e : bareT 3 tt = 0 := by simp [bareT, h]
      rw [e]
      subst h
      clear e
      go_enter Try.func51, Try.ntmps51
      go_wp2
      refine bodyPost_ret (v := .agg #[.slice none 0 0, .int .i64 3, .int .i64 0]) (by simp [results, Try.results51, go_sem]) rfl ⟨rfl, ?_⟩
      go_grown
    · have e : bareT 3 tt = 1 := by simp [bareT, h]
      have d : (tt != 0) = true := by simpa using h
      rw [e]
      clear e h
      go_enter Try.func51, Try.ntmps51
      go_wp2
      refine bodyPost_ret (v := .agg #[.slice none 0 0, .int .i64 3, .int .i64 1]) (by simp [results, Try.results51, go_sem]) rfl ⟨rfl, ?_⟩
      go_grown
set_option maxHeartbeats 4000000 in
theorem common_any (A : Option Addr) (xs : List Int) (L c : Nat) (hL : L = xs.length) (hb : L ≤ 1000000) (hx : ∀ i, i < L → inB (nth xs i) = true) (w : World) (h : Is w A xs) :
    Calls Try.prog 52 #[.slice A L c] w fun e w' => e = .returned (.int .i64 (gcdK xs L : Nat)) ∧ ∃ n, w' = w.drewN n := by
  have HX := Lib.hid h
  have HL := Lib.hid hL
  have HI := Lib.hid hx
  clear h hL hx
  go_enter Try.func52, Try.ntmps52
  go_wp2
  go_loopw [3, 4] (fun g k wr => ∃ i n : Nat, i ≤ L ∧ k = .int .i64 i ∧ g = .int .i64 (gcdK xs i : Nat) ∧ wr = w.drewN n) (fun _ k _ => L - (intOf k).toNat)
  case atStart => exact ⟨0, 0, by omega, rfl, rfl, rfl⟩
  case round =>
    obtain ⟨i, n, hi, rfl, rfl, rfl⟩ := hrel
    by_cases hlt : i < L
    · obtain ⟨b, o, rfl, hb', hc⟩ := HX.out (by rw [← HL.out]; omega)
      have cx := hc i (by rw [← HL.out]; exact hlt)
      obtain ⟨i1, i2⟩ := inB_iff.1 (HI.out i hlt)
      have g1 := gcdK_le xs i (fun j hj => HI.out j (by omega))
      have t1 : (0 : Int) ≤ i := by omega
      have t2 : (i : Int) < L := by omega
      have t3 : decide (i < L) = true := by simpa using hlt
      have tw : IntKind.i64.wrap (-nth xs i) = -nth xs i := IntWalk.i64_in _ (by omega)
      have tm : (if nth xs i < -nth xs i then -nth xs i else nth xs i) = ((nth xs i).natAbs : Int) := by split <;> omega
      clear hc
      go_wp2_with fail
      go_region
      all_goals
        go_wp2
        go_loopw [5, 6] (fun x y wr => ∃ (p q : Int) (m : Nat), 0 ≤ p ∧ p ≤ 1000000 ∧ 0 ≤ q ∧ q ≤ 1000000 ∧ x = .int .i64 p ∧ y = .int .i64 q ∧ Int.gcd p q = gcdK xs (i + 1) ∧ wr = w.drewN m) (fun _ y _ => (intOf y).natAbs)
        case atStart => exact ⟨_, _, n + 1, by omega, by omega, by omega, by omega, rfl, rfl, (by rw [gcdK]; unfold Int.gcd; simp), rfl⟩
        case round =>
          obtain ⟨p, q, m, p1, p2, q1, q2, rfl, rfl, hg, rfl⟩ := hrel
          have em : p.tmod q = p % q := Int.tmod_eq_emod_of_nonneg p1
          have HS : Hid (Int.gcd q (p % q) = Int.gcd p q) := em ▸ igcd_step p q
          clear em
          have HG := Lib.hid hg
          clear hg
          by_cases hz : q = 0
          · subst hz
            have e := HG.out
            rw [Int.gcd_zero_right] at e
            have HE : Hid (p = (gcdK xs (i + 1) : Nat)) := (show p = (gcdK xs (i + 1) : Nat) by rw [← e]; omega)
            clear e
            go_wp2
            rw [HE.out]
            exact ⟨⟨i + 1, m, by omega, by go_num, rfl, rfl⟩, by simp [intOf]; omega⟩
          · have hz1 : decide (0 < q) = true := by simp; omega
            have hz2 : (q == 0) = false := by simpa using hz
            have j1 : 0 ≤ p % q := Int.emod_nonneg _ hz
            have j2 : p % q < q := Int.emod_lt_of_pos _ (by omega)
            go_wp2
            go_quiet (fail)
            go_wp2
            go_roundw
            case rel => exact ⟨q, p % q, _, q1, q2, j1, by omega, rfl, by go_num, HS.out.trans HG.out, World.drewN_drewN _ _ _⟩
            case measure => simp [intOf]; omega
    · obtain rfl : i = L := by omega
      have t3 : decide (i < i) = false := by simp
      go_wp2
      go_ret
      exact ⟨rfl, n, rfl⟩
end Go.Proofs.Ytkjollifghmkbaa
