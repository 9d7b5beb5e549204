/-
  The reference's row divided by a number.
-/
import Derived.Test.YtkjollifghmkbaaRowY
import Derived.Test.YtkjollifghmkbaaRowP
import Derived.Test.YtkjollifghmkbaaWideN
import Derived.Test.YtkjollifghmkbaaRowG
import Derived.Test.YtkjollifghmkbaaRowJ
namespace Go.Proofs.Ytkjollifghmkbaa
open Go.RowKit

/-- The sign of a list's first number that is not 0; 1 if there is none. -/
def sgnL : List Int → Int
  | [] => 1
  | x :: r => if 0 < x then 1 else if x < 0 then -1 else sgnL r
theorem sgnL_one (xs : List Int) : sgnL xs = 1 ∨ sgnL xs = -1 := by
  induction xs with
  | nil => exact .inl rfl
  | cons x r ih =>
    unfold sgnL
    split
    · exact .inl rfl
    · split
      · exact .inr rfl
      · exact ih
theorem sgnL_pos {xs : List Int} {j : Nat} (h : j < xs.length) (h1 : 0 < nth xs j) : sgnL (xs.drop j) = 1 := by rw [drop_nth h, sgnL, if_pos h1]
theorem sgnL_neg {xs : List Int} {j : Nat} (h : j < xs.length) (h1 : nth xs j < 0) : sgnL (xs.drop j) = -1 := by rw [drop_nth h, sgnL, if_neg (by omega), if_pos h1]
theorem sgnL_zero {xs : List Int} {j : Nat} (h : j < xs.length) (h1 : nth xs j = 0) : sgnL (xs.drop j) = sgnL (xs.drop (j + 1)) := by rw [drop_nth h, sgnL, if_neg (by omega), if_neg (by omega)]
/-- A list times a sign, divided by a number. -/
def byL (s : Int) (xs : List Int) (g : Int) : List Int := xs.map (fun x => (s * x).tdiv g)
theorem byL_len (s : Int) (xs : List Int) (g : Int) : (byL s xs g).length = xs.length := by simp [byL]
theorem nth_byL (s : Int) (xs : List Int) (g : Int) (j : Nat) : nth (byL s xs g) j = (s * nth xs j).tdiv g := by
  unfold nth byL
  rw [List.getD_eq_getElem?_getD, List.getD_eq_getElem?_getD, List.getElem?_map]
  cases xs[j]? <;> simp
/-- The way in which a call that yields a row ends; the list may be any. -/
def GivesL (ys : List Int) (kind tt : Int) (w : World) (e : Ending) (w' : World) : Prop := ∃ A c, e = .returned (.agg #[.slice A ys.length c, .int .i64 kind, .int .i64 tt]) ∧ ys.length ≤ c ∧ Isb w.heap.size w' A ys ∧ Below w.heap.size w w'
theorem own_isb {w : World} {base c : Nat} {A : Option Addr} {f : Nat → Int} {n : Nat} {ys : List Int} (h : w.ownsRow base 3 1 (.slice A n c) n (intsV f n)) (hl : ys.length = n) (hy : ∀ j, j < n → nth ys j = f j) : Isb base w A ys := fun z => by
  obtain ⟨b, o, e, l, k⟩ := own_is h hl hy z
  rcases h.2 with ⟨_, e1⟩ | ⟨g, cap, cur, e1, hb, _⟩
  · omega
  · injection e1 with e1 _ _
    rw [e] at e1
    injection e1 with e1
    injection e1 with e1 _ _
    exact ⟨b, o, e, by omega, l, k⟩
theorem sgn_bd {s x B : Int} (hs : s = 1 ∨ s = -1) (h1 : -B ≤ x) (h2 : x ≤ B) : -B ≤ s * x ∧ s * x ≤ B := by
  rcases hs with rfl | rfl <;> omega
theorem ediv_mag {n g B : Int} (hg : 1 ≤ g) (h1 : -B ≤ n) (h2 : n ≤ B) (hB : 0 ≤ B) : -B ≤ n / g ∧ n / g ≤ B := by
  have k := Int.mul_le_mul_of_nonneg_left (a := 1) (b := g) (c := B) hg hB
  constructor
  · apply Int.le_ediv_of_mul_le (by omega)
    rw [Int.neg_mul]
    omega
  · apply Int.ediv_le_of_le_mul (by omega)
    omega
set_option maxRecDepth 100000 in
set_option maxHeartbeats 30000000 in
theorem rowby_two (A : Option Addr) (xs : List Int) (L c : Nat) (kind tt g s : Int) (hL : L = xs.length) (h12 : L ≤ 12) (hc : L ≤ c) (hg1 : 1 ≤ g) (hg2 : g ≤ 1000000) (ht1 : -1000001 ≤ tt) (ht2 : tt ≤ 1000000)
    (hx : ∀ i, i < L → inB (nth xs i) = true) (d3 : (kind != 3) = true) (hs : s = 1) (w : World) (h : Is w A xs) :
    Calls Try.prog 53 #[.slice A L c, .int .i64 kind, .int .i64 tt, .int .i64 g] w (GivesL (byL s xs g) kind ((s * tt) / g) w) := by
  have hs1 : s = 1 ∨ s = -1 := by
    exact .inl hs
  have d0 : (g == 0) = false := by simp; omega
  have d0' : ¬ g = 0 := by omega
  obtain ⟨st1, st2⟩ := sgn_bd (B := 1000001) hs1 ht1 (by omega)
  have ev0 : s * tt = tt := by rw [hs, Int.one_mul]
  rw [ev0] at st1 st2 ⊢
  have tw2 : IntKind.i64.wrap (tt) = tt := IntWalk.i64_in _ (by omega)
  obtain ⟨sd1, sd2⟩ := ediv_mag (B := 1000001) hg1 st1 st2 (by omega)
  have n1 : -9223372036854775808 ≤ tt := by omega
  have n2 : tt ≤ 9223372036854775807 := by omega
  have d1 : -9223372036854775808 ≤ g := by omega
  have d2 : g ≤ 9223372036854775807 := by omega
  have hA : mag (tt) ≤ 18446744073709551615 := mag_le _ n1 n2
  have hB : mag g ≤ 18446744073709551615 := mag_le g d1 d2
  have h0 : mag g ≠ 0 := by unfold mag; omega
  have hd0 : decide (g < 0) = false := by simp; omega
  have ev : num (decide (tt < 0)) (mag (tt)) / ((mag g : Nat) : Int) = tt / g := by
    have e : ((mag g : Nat) : Int) = g := by unfold mag; omega
    rw [num_of, e]
  have hV : mag (num (decide (tt < 0)) (mag (tt)) / ((mag g : Nat) : Int)) ≤ 9223372036854775807 := by
    rw [ev]
    unfold mag; omega
  have EV := Lib.hid ev
  have HX := Lib.hid h
  have HL := Lib.hid hL
  have HI := Lib.hid hx
  have HS1 := Lib.hid hs1
  have HS := Lib.hid hs
  have hbl : ∀ j, j < L → nth (byL s xs g) j = (nth xs j).tdiv g := fun j _ => by rw [nth_byL]; rw [HS.out, Int.one_mul]
  have HBL := Lib.hid hbl
  clear ev h hL hx hs1 hs ev0 hbl
  go_enter Try.func53, Try.ntmps53
  go_wp2
  go_loop [9, 10] (fun u k => ∃ (i : Nat) (z : Int), i ≤ L ∧ z = (i : Int) - 1 ∧ k = .int .i64 z ∧ u = .int .i64 (sgnL (xs.drop i))) (fun _ k => (intOf k + 1).toNat)
  case atStart => exact ⟨L, _, Nat.le_refl _, rfl, by go_num, by rw [HL.out, List.drop_length]; rfl⟩
  case round =>
    obtain ⟨i, z, hi, hz, rfl, rfl⟩ := hrel
    rcases Nat.eq_zero_or_pos i with rfl | hp
    · obtain rfl : z = -1 := by omega
      clear hz
      rw [List.drop_zero]
      go_wp2
      go_loopw [12] (fun k wr => ∃ (i : Nat) (A1 : Option Addr) (c1 : Nat), i ≤ L ∧ k = .int .i64 i ∧ Hid (HB wr (w.heap.size + 1) 24 #[.slice A1 i c1, .int .i64 kind, .int .i64 0]) ∧ Hid (wr.ownsRow w.heap.size 3 1 (.slice A1 i c1) i (intsV (fun j => (nth xs j).tdiv g) i)) ∧ Hid (HB wr w.heap.size 24 #[.slice none 0 0, .int .i64 0, .int .i64 0]) ∧ Hid (Below w.heap.size w wr)) (fun k _ => L - (intOf k).toNat)
      case atStart => exact ⟨0, none, 0, by omega, rfl, HB.new1 w _ _ _, own_nil _ _ _, (HB.new w _ _).alloc _, by show Below _ _ _; go_grown⟩
      case round =>
        obtain ⟨i, A1, c1, hi, rfl, F6, OW, R2, G2⟩ := hrel
        obtain ⟨v0, v1, v2, _⟩ := HB.row' R2.out
        obtain ⟨x0, x1, x2, x3, x4, x5⟩ := HB.row' F6.out
        have l2 := R2.out.lt
        have l6 := F6.out.lt
        by_cases hlt : i < L
        · obtain ⟨bb, o, rfl, hbb, hc'⟩ := (HX.out.below G2.out) (by rw [← HL.out]; omega)
          have cx := hc' i (by rw [← HL.out]; exact hlt)
          obtain ⟨i1, i2⟩ := inB_iff.1 (HI.out i hlt)
          have hm := sgn_bd (B := 1000000) HS1.out i1 i2
          have hm0 : s * nth xs i = nth xs i := by rw [HS.out]; rw [Int.one_mul]
          rw [hm0] at hm
          obtain ⟨m1, m2⟩ := hm
          have tw : IntKind.i64.wrap (nth xs i) = nth xs i := IntWalk.i64_in _ (by omega)
          obtain ⟨j1, j2⟩ := tdiv_bd' (nth xs i) g m1 m2
          have tq : IntKind.i64.wrap ((nth xs i).tdiv g) = (nth xs i).tdiv g := IntWalk.i64_in _ (by omega)
          have q1 : (0 : Int) ≤ i := by omega
          have q2 : (i : Int) < L := by omega
          have q3 : decide (i < L) = true := by simpa using hlt
          clear hc' hm0
          go_wp2_with fail
          go_region_law (first
            | (refine step_int rfl _ _ rfl w.heap.size (.slice A1 i c1) i (intsV (fun j => (nth xs j).tdiv g) i) rfl ?_ _ (.int .i64 ((nth xs i).tdiv g)) rfl ?_ rfl (by omega) ?_ ?_; (first | (exact OW.out.drew.alloc _) | (exact OW.out.alloc _)); (first | (exact HB.new _ _ _)); (have := G2.out.size; simp; omega); intro g4 cap4 w4 hown4 hkp4 hb4; have F4 := Lib.hid (hkp4.hb (by decide) (HB.alloc (HB.drew F6.out) _)); have R4 := Lib.hid (hkp4.hb (by decide) (HB.alloc (HB.drew R2.out) _)); have G4 := Lib.hid (hb4 _ (Below.alloc (Below.drew G2.out) (by have := G2.out.size; simpa using this) _)); obtain ⟨y0, y1, y2, y3, y4, y5⟩ := HB.row' F4.out; have l4 := F4.out.lt))
          all_goals
            have F5 : Hid (HB (w4.setCell ⟨w.heap.size + 1, 0, none⟩ (.slice (some ⟨g4, 0, none⟩) (i + 1 : Nat) cap4)) (w.heap.size + 1) 24 #[.slice (some ⟨g4, 0, none⟩) (i + 1 : Nat) cap4, .int .i64 kind, .int .i64 0]) := by
              have := F4.out.set_ 0 (.slice (some ⟨g4, 0, none⟩) (i + 1 : Nat) cap4)
              show HB _ _ _ _
              simpa using this
            have O5 : Hid ((w4.setCell ⟨w.heap.size + 1, 0, none⟩ (.slice (some ⟨g4, 0, none⟩) (i + 1 : Nat) cap4)).ownsRow w.heap.size 3 1 (.slice (some ⟨g4, 0, none⟩) (i + 1 : Nat) cap4) (i + 1) (intsV (fun j => (nth xs j).tdiv g) (i + 1))) := by
              have := own_far hown4.out F4.out (by decide) 0 (.slice (some ⟨g4, 0, none⟩) (i + 1 : Nat) cap4)
              rw [← intsV_succ (fun j => (nth xs j).tdiv g) i] at this
              exact this
            have R5 := Lib.hid (R4.out.far (p := ⟨w.heap.size + 1, 0, none⟩) (show w.heap.size ≠ w.heap.size + 1 by omega) (.slice (some ⟨g4, 0, none⟩) (i + 1 : Nat) cap4))
            have G5 : Hid (Below w.heap.size w (w4.setCell ⟨w.heap.size + 1, 0, none⟩ (.slice (some ⟨g4, 0, none⟩) (i + 1 : Nat) cap4))) := G4.out.setCell (show w.heap.size ≤ w.heap.size + 1 by omega) _
            clear F4 R4 G4 hown4 y0 y1 y2 y3 y4 y5 hkp4 hb4
            go_wp2
            exact ⟨⟨i + 1, _, _, by omega, by go_num, F5, O5, R5, G5⟩, by simp [intOf]; omega⟩
        · obtain rfl : i = L := by omega
          have q3 : decide (i < i) = false := by simp
          clear hlt
          go_wp2_with fail
          refine (new_at _ n1 n2 _).mono ?_
          rintro e w1 ⟨rfl, hi1, hb1⟩
          simp at hi1
          go_wp2_with fail
          refine (new_at g d1 d2 _).mono ?_
          rintro e w2 ⟨rfl, hi2, hb2⟩
          rw [hd0] at hi2
          have q1 : Below wr.heap.size wr w1 := below_after (new_below wr _) hb1
          have q2 : Below wr.heap.size wr w2 := bw_below (Nat.le_refl _) q1 hb2
          have hz2 : Hdr w2 wr.heap.size 0 := ((hdr_new wr).below hb1).below hb2
          have hi1' := hi1.below hb2
          have s1 := q1.size
          have s2 := q2.size
          have lt1 := hi1.1
          have lt2 := hi2.1
          have lz := hb1.size
          go_wp2_with fail
          refine (div_any _ _ 0 _ 0 (mag (tt)) (mag g) (decide (tt < 0)) hA hB h0 _ hz2 hi1' hi2 (by simp at lz; omega) (by omega)).mono ?_
          rintro e w3 ⟨rfl, hg3, hc3⟩
          have q3 : Below wr.heap.size wr w3 := q2.trans (hc3.below (by omega) (fun g hg hs => by omega))
          go_wp2_with fail
          refine (int64_any _ 0 (mag (num (decide (tt < 0)) (mag (tt)) / ((mag g : Nat) : Int))) _ hV _ hg3).mono ?_
          rintro e w4 ⟨rfl, rfl⟩
          rw [num_of, EV.out]
          have F3 := F6.out.below q3
          have R3 := R2.out.below q3
          have O3 := own_below OW.out q3
          have G3 := Lib.hid (bw_below (Nat.le_refl _) G2.out q3)
          obtain ⟨y0, y1, y2, y3, y4, y5⟩ := HB.row' F3
          obtain ⟨z0, z1, z2, z3, z4, z5⟩ := HB.row' R3
          have lr := R3.lt
          have lf := F3.lt
          have O4 := own_far O3 F3 (by decide) 2 (.int .i64 (tt / g))
          have R4 := R3.far (p := ⟨w.heap.size + 1, 2, none⟩) (show w.heap.size ≠ w.heap.size + 1 by omega) (.int .i64 (tt / g))
          have O5 := own_far O4 R4 (by decide) 0 (.slice A1 i c1)
          have R5 := R4.set_ 0 (.slice A1 i c1)
          have O6 := own_far O5 R5 (by decide) 1 (.int .i64 kind)
          have R6 := R5.set_ 1 (.int .i64 kind)
          have O7 := Lib.hid (own_far O6 R6 (by decide) 2 (.int .i64 (tt / g)))
          clear F3 R3 O3 O4 R4 O5 R5 O6 R6 q3 hg3 hc3 hz2 hi1' hi1 hi2 hb1 hb2 q1 q2 lz lt1 lt2 s1 s2 v0 v1 v2 x0 x1 x2 x3 x4 x5
          go_wp2
          refine bodyPost_ret (v := .agg #[.slice A1 i c1, .int .i64 kind, .int .i64 (tt / g)]) (by simp [results, Try.results53, go_sem, z0, z1, z2]) rfl ⟨A1, c1, by rw [byL_len, ← HL.out], by rw [byL_len, ← HL.out]; exact own_cap OW.out, own_isb O7.out (by rw [byL_len, HL.out]) HBL.out, ?_⟩
          exact bw_far (g := w.heap.size) (bw_far (g := w.heap.size + 1) G3.out (by omega) (far_set _ _ _ _)) (Nat.le_refl _) (far3 _ _ _ _ _)
    · obtain ⟨j, rfl⟩ : ∃ j, i = j + 1 := ⟨i - 1, by omega⟩
      obtain rfl : z = j := by omega
      clear hz
      obtain ⟨b, o, rfl, hb, hc'⟩ := HX.out (by rw [← HL.out]; omega)
      have cx := hc' j (by rw [← HL.out]; omega)
      have hj : j < xs.length := by rw [← HL.out]; omega
      have HJ := Lib.hid hj
      have t1 : (0 : Int) ≤ j := by omega
      have t2 : (j : Int) < L := by omega
      clear hc' hj
      rcases Int.lt_trichotomy (nth xs j) 0 with e | e | e
      · have e1 : decide (nth xs j < 0) = true := by simpa using e
        have e2 : decide (0 < nth xs j) = false := by simp; omega
        have E := Lib.hid e
        clear e
        go_wp2
        go_round
        case rel => exact ⟨j, _, by omega, rfl, by go_num, by rw [sgnL_neg HJ.out E.out]⟩
        case measure => simp [intOf]
      · have E := Lib.hid e
        rw [e] at cx
        clear e
        go_wp2
        go_round
        case rel => exact ⟨j, _, by omega, rfl, by go_num, by rw [sgnL_zero HJ.out E.out]⟩
        case measure => simp [intOf]
      · have e1 : decide (nth xs j < 0) = false := by simp; omega
        have e2 : decide (0 < nth xs j) = true := by simpa using e
        have E := Lib.hid e
        clear e
        go_wp2
        go_round
        case rel => exact ⟨j, _, by omega, rfl, by go_num, by rw [sgnL_pos HJ.out E.out]⟩
        case measure => simp [intOf]
set_option maxRecDepth 100000 in
set_option maxHeartbeats 30000000 in
theorem rowby_three (A : Option Addr) (xs : List Int) (L c : Nat) (kind tt g s : Int) (hL : L = xs.length) (h12 : L ≤ 12) (hc : L ≤ c) (hg1 : 1 ≤ g) (hg2 : g ≤ 1000000) (ht1 : -1000001 ≤ tt) (ht2 : tt ≤ 1000000)
    (hx : ∀ i, i < L → inB (nth xs i) = true) (d3 : (kind != 3) = false) (hs : s = sgnL xs) (w : World) (h : Is w A xs) :
    Calls Try.prog 53 #[.slice A L c, .int .i64 kind, .int .i64 tt, .int .i64 g] w (GivesL (byL s xs g) kind ((s * tt) / g) w) := by
  have hs1 : s = 1 ∨ s = -1 := by
    rw [hs]; exact sgnL_one xs
  have d0 : (g == 0) = false := by simp; omega
  have d0' : ¬ g = 0 := by omega
  obtain ⟨st1, st2⟩ := sgn_bd (B := 1000001) hs1 ht1 (by omega)
  have ev0 : s * tt = s * tt := by rfl
  rw [ev0] at st1 st2 ⊢
  have tw2 : IntKind.i64.wrap (s * tt) = s * tt := IntWalk.i64_in _ (by omega)
  obtain ⟨sd1, sd2⟩ := ediv_mag (B := 1000001) hg1 st1 st2 (by omega)
  have n1 : -9223372036854775808 ≤ s * tt := by omega
  have n2 : s * tt ≤ 9223372036854775807 := by omega
  have d1 : -9223372036854775808 ≤ g := by omega
  have d2 : g ≤ 9223372036854775807 := by omega
  have hA : mag (s * tt) ≤ 18446744073709551615 := mag_le _ n1 n2
  have hB : mag g ≤ 18446744073709551615 := mag_le g d1 d2
  have h0 : mag g ≠ 0 := by unfold mag; omega
  have hd0 : decide (g < 0) = false := by simp; omega
  have ev : num (decide (s * tt < 0)) (mag (s * tt)) / ((mag g : Nat) : Int) = s * tt / g := by
    have e : ((mag g : Nat) : Int) = g := by unfold mag; omega
    rw [num_of, e]
  have hV : mag (num (decide (s * tt < 0)) (mag (s * tt)) / ((mag g : Nat) : Int)) ≤ 9223372036854775807 := by
    rw [ev]
    unfold mag; omega
  have EV := Lib.hid ev
  have HX := Lib.hid h
  have HL := Lib.hid hL
  have HI := Lib.hid hx
  have HS1 := Lib.hid hs1
  have HS := Lib.hid hs
  have hbl : ∀ j, j < L → nth (byL s xs g) j = (s * nth xs j).tdiv g := fun j _ => by rw [nth_byL]; (try rfl)
  have HBL := Lib.hid hbl
  clear ev h hL hx hs1 hs ev0 hbl
  go_enter Try.func53, Try.ntmps53
  go_wp2
  go_loop [9, 10] (fun u k => ∃ (i : Nat) (z : Int), i ≤ L ∧ z = (i : Int) - 1 ∧ k = .int .i64 z ∧ u = .int .i64 (sgnL (xs.drop i))) (fun _ k => (intOf k + 1).toNat)
  case atStart => exact ⟨L, _, Nat.le_refl _, rfl, by go_num, by rw [HL.out, List.drop_length]; rfl⟩
  case round =>
    obtain ⟨i, z, hi, hz, rfl, rfl⟩ := hrel
    rcases Nat.eq_zero_or_pos i with rfl | hp
    · obtain rfl : z = -1 := by omega
      clear hz
      rw [List.drop_zero]
      rw [← HS.out]
      go_wp2
      go_loopw [12] (fun k wr => ∃ (i : Nat) (A1 : Option Addr) (c1 : Nat), i ≤ L ∧ k = .int .i64 i ∧ Hid (HB wr (w.heap.size + 1) 24 #[.slice A1 i c1, .int .i64 kind, .int .i64 0]) ∧ Hid (wr.ownsRow w.heap.size 3 1 (.slice A1 i c1) i (intsV (fun j => (s * nth xs j).tdiv g) i)) ∧ Hid (HB wr w.heap.size 24 #[.slice none 0 0, .int .i64 0, .int .i64 0]) ∧ Hid (Below w.heap.size w wr)) (fun k _ => L - (intOf k).toNat)
      case atStart => exact ⟨0, none, 0, by omega, rfl, HB.new1 w _ _ _, own_nil _ _ _, (HB.new w _ _).alloc _, by show Below _ _ _; go_grown⟩
      case round =>
        obtain ⟨i, A1, c1, hi, rfl, F6, OW, R2, G2⟩ := hrel
        obtain ⟨v0, v1, v2, _⟩ := HB.row' R2.out
        obtain ⟨x0, x1, x2, x3, x4, x5⟩ := HB.row' F6.out
        have l2 := R2.out.lt
        have l6 := F6.out.lt
        by_cases hlt : i < L
        · obtain ⟨bb, o, rfl, hbb, hc'⟩ := (HX.out.below G2.out) (by rw [← HL.out]; omega)
          have cx := hc' i (by rw [← HL.out]; exact hlt)
          obtain ⟨i1, i2⟩ := inB_iff.1 (HI.out i hlt)
          have hm := sgn_bd (B := 1000000) HS1.out i1 i2
          have hm0 : s * nth xs i = s * nth xs i := by rw [HS.out]; (try rfl)
          rw [hm0] at hm
          obtain ⟨m1, m2⟩ := hm
          have tw : IntKind.i64.wrap (s * nth xs i) = s * nth xs i := IntWalk.i64_in _ (by omega)
          obtain ⟨j1, j2⟩ := tdiv_bd' (s * nth xs i) g m1 m2
          have tq : IntKind.i64.wrap ((s * nth xs i).tdiv g) = (s * nth xs i).tdiv g := IntWalk.i64_in _ (by omega)
          have q1 : (0 : Int) ≤ i := by omega
          have q2 : (i : Int) < L := by omega
          have q3 : decide (i < L) = true := by simpa using hlt
          clear hc' hm0
          go_wp2_with fail
          go_region_law (first
            | (refine step_int rfl _ _ rfl w.heap.size (.slice A1 i c1) i (intsV (fun j => (s * nth xs j).tdiv g) i) rfl ?_ _ (.int .i64 ((s * nth xs i).tdiv g)) rfl ?_ rfl (by omega) ?_ ?_; (first | (exact OW.out.drew.alloc _) | (exact OW.out.alloc _)); (first | (exact HB.new _ _ _)); (have := G2.out.size; simp; omega); intro g4 cap4 w4 hown4 hkp4 hb4; have F4 := Lib.hid (hkp4.hb (by decide) (HB.alloc (HB.drew F6.out) _)); have R4 := Lib.hid (hkp4.hb (by decide) (HB.alloc (HB.drew R2.out) _)); have G4 := Lib.hid (hb4 _ (Below.alloc (Below.drew G2.out) (by have := G2.out.size; simpa using this) _)); obtain ⟨y0, y1, y2, y3, y4, y5⟩ := HB.row' F4.out; have l4 := F4.out.lt))
          all_goals
            have F5 : Hid (HB (w4.setCell ⟨w.heap.size + 1, 0, none⟩ (.slice (some ⟨g4, 0, none⟩) (i + 1 : Nat) cap4)) (w.heap.size + 1) 24 #[.slice (some ⟨g4, 0, none⟩) (i + 1 : Nat) cap4, .int .i64 kind, .int .i64 0]) := by
              have := F4.out.set_ 0 (.slice (some ⟨g4, 0, none⟩) (i + 1 : Nat) cap4)
              show HB _ _ _ _
              simpa using this
            have O5 : Hid ((w4.setCell ⟨w.heap.size + 1, 0, none⟩ (.slice (some ⟨g4, 0, none⟩) (i + 1 : Nat) cap4)).ownsRow w.heap.size 3 1 (.slice (some ⟨g4, 0, none⟩) (i + 1 : Nat) cap4) (i + 1) (intsV (fun j => (s * nth xs j).tdiv g) (i + 1))) := by
              have := own_far hown4.out F4.out (by decide) 0 (.slice (some ⟨g4, 0, none⟩) (i + 1 : Nat) cap4)
              rw [← intsV_succ (fun j => (s * nth xs j).tdiv g) i] at this
              exact this
            have R5 := Lib.hid (R4.out.far (p := ⟨w.heap.size + 1, 0, none⟩) (show w.heap.size ≠ w.heap.size + 1 by omega) (.slice (some ⟨g4, 0, none⟩) (i + 1 : Nat) cap4))
            have G5 : Hid (Below w.heap.size w (w4.setCell ⟨w.heap.size + 1, 0, none⟩ (.slice (some ⟨g4, 0, none⟩) (i + 1 : Nat) cap4))) := G4.out.setCell (show w.heap.size ≤ w.heap.size + 1 by omega) _
            clear F4 R4 G4 hown4 y0 y1 y2 y3 y4 y5 hkp4 hb4
            go_wp2
            exact ⟨⟨i + 1, _, _, by omega, by go_num, F5, O5, R5, G5⟩, by simp [intOf]; omega⟩
        · obtain rfl : i = L := by omega
          have q3 : decide (i < i) = false := by simp
          clear hlt
          go_wp2_with fail
          refine (new_at _ n1 n2 _).mono ?_
          rintro e w1 ⟨rfl, hi1, hb1⟩
          simp at hi1
          go_wp2_with fail
          refine (new_at g d1 d2 _).mono ?_
          rintro e w2 ⟨rfl, hi2, hb2⟩
          rw [hd0] at hi2
          have q1 : Below wr.heap.size wr w1 := below_after (new_below wr _) hb1
          have q2 : Below wr.heap.size wr w2 := bw_below (Nat.le_refl _) q1 hb2
          have hz2 : Hdr w2 wr.heap.size 0 := ((hdr_new wr).below hb1).below hb2
          have hi1' := hi1.below hb2
          have s1 := q1.size
          have s2 := q2.size
          have lt1 := hi1.1
          have lt2 := hi2.1
          have lz := hb1.size
          go_wp2_with fail
          refine (div_any _ _ 0 _ 0 (mag (s * tt)) (mag g) (decide (s * tt < 0)) hA hB h0 _ hz2 hi1' hi2 (by simp at lz; omega) (by omega)).mono ?_
          rintro e w3 ⟨rfl, hg3, hc3⟩
          have q3 : Below wr.heap.size wr w3 := q2.trans (hc3.below (by omega) (fun g hg hs => by omega))
          go_wp2_with fail
          refine (int64_any _ 0 (mag (num (decide (s * tt < 0)) (mag (s * tt)) / ((mag g : Nat) : Int))) _ hV _ hg3).mono ?_
          rintro e w4 ⟨rfl, rfl⟩
          rw [num_of, EV.out]
          have F3 := F6.out.below q3
          have R3 := R2.out.below q3
          have O3 := own_below OW.out q3
          have G3 := Lib.hid (bw_below (Nat.le_refl _) G2.out q3)
          obtain ⟨y0, y1, y2, y3, y4, y5⟩ := HB.row' F3
          obtain ⟨z0, z1, z2, z3, z4, z5⟩ := HB.row' R3
          have lr := R3.lt
          have lf := F3.lt
          have O4 := own_far O3 F3 (by decide) 2 (.int .i64 (s * tt / g))
          have R4 := R3.far (p := ⟨w.heap.size + 1, 2, none⟩) (show w.heap.size ≠ w.heap.size + 1 by omega) (.int .i64 (s * tt / g))
          have O5 := own_far O4 R4 (by decide) 0 (.slice A1 i c1)
          have R5 := R4.set_ 0 (.slice A1 i c1)
          have O6 := own_far O5 R5 (by decide) 1 (.int .i64 kind)
          have R6 := R5.set_ 1 (.int .i64 kind)
          have O7 := Lib.hid (own_far O6 R6 (by decide) 2 (.int .i64 (s * tt / g)))
          clear F3 R3 O3 O4 R4 O5 R5 O6 R6 q3 hg3 hc3 hz2 hi1' hi1 hi2 hb1 hb2 q1 q2 lz lt1 lt2 s1 s2 v0 v1 v2 x0 x1 x2 x3 x4 x5
          go_wp2
          refine bodyPost_ret (v := .agg #[.slice A1 i c1, .int .i64 kind, .int .i64 (s * tt / g)]) (by simp [results, Try.results53, go_sem, z0, z1, z2]) rfl ⟨A1, c1, by rw [byL_len, ← HL.out], by rw [byL_len, ← HL.out]; exact own_cap OW.out, own_isb O7.out (by rw [byL_len, HL.out]) HBL.out, ?_⟩
          exact bw_far (g := w.heap.size) (bw_far (g := w.heap.size + 1) G3.out (by omega) (far_set _ _ _ _)) (Nat.le_refl _) (far3 _ _ _ _ _)
    · obtain ⟨j, rfl⟩ : ∃ j, i = j + 1 := ⟨i - 1, by omega⟩
      obtain rfl : z = j := by omega
      clear hz
      obtain ⟨b, o, rfl, hb, hc'⟩ := HX.out (by rw [← HL.out]; omega)
      have cx := hc' j (by rw [← HL.out]; omega)
      have hj : j < xs.length := by rw [← HL.out]; omega
      have HJ := Lib.hid hj
      have t1 : (0 : Int) ≤ j := by omega
      have t2 : (j : Int) < L := by omega
      clear hc' hj
      rcases Int.lt_trichotomy (nth xs j) 0 with e | e | e
      · have e1 : decide (nth xs j < 0) = true := by simpa using e
        have e2 : decide (0 < nth xs j) = false := by simp; omega
        have E := Lib.hid e
        clear e
        go_wp2
        go_round
        case rel => exact ⟨j, _, by omega, rfl, by go_num, by rw [sgnL_neg HJ.out E.out]⟩
        case measure => simp [intOf]
      · have E := Lib.hid e
        rw [e] at cx
        clear e
        go_wp2
        go_round
        case rel => exact ⟨j, _, by omega, rfl, by go_num, by rw [sgnL_zero HJ.out E.out]⟩
        case measure => simp [intOf]
      · have e1 : decide (nth xs j < 0) = false := by simp; omega
        have e2 : decide (0 < nth xs j) = true := by simpa using e
        have E := Lib.hid e
        clear e
        go_wp2
        go_round
        case rel => exact ⟨j, _, by omega, rfl, by go_num, by rw [sgnL_pos HJ.out E.out]⟩
        case measure => simp [intOf]
theorem rowby_any (A : Option Addr) (xs : List Int) (L c : Nat) (kind tt g s : Int) (hL : L = xs.length) (h12 : L ≤ 12) (hc : L ≤ c) (hg1 : 1 ≤ g) (hg2 : g ≤ 1000000) (ht1 : -1000001 ≤ tt) (ht2 : tt ≤ 1000000)
    (hx : ∀ i, i < L → inB (nth xs i) = true) (hs : (kind != 3) = true ∧ s = 1 ∨ (kind != 3) = false ∧ s = sgnL xs) (w : World) (h : Is w A xs) :
    Calls Try.prog 53 #[.slice A L c, .int .i64 kind, .int .i64 tt, .int .i64 g] w (GivesL (byL s xs g) kind ((s * tt) / g) w) := by
  rcases hs with ⟨d3, hs⟩ | ⟨d3, hs⟩
  · exact rowby_two A xs L c kind tt g s hL h12 hc hg1 hg2 ht1 ht2 hx d3 hs w h
  · exact rowby_three A xs L c kind tt g s hL h12 hc hg1 hg2 ht1 ht2 hx d3 hs w h
end Go.Proofs.Ytkjollifghmkbaa
