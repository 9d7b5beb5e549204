/-
  Worlds: is it a value of a sort?
  Worlds: is it a value of a sort? Numbers, arrays.
  Sums, products and the order of valid fractions.
  Worlds: the first row of a table, the first number, of which a function value tells true.
-/
import Derived.Test.YtaodebpogibimaaGreatG00
namespace Go.Proofs.YtaodebpogibimaaGreat
open Go.RowKit

/-- No thing's number. -/
def nTh (z : Int) : Bool := decide (z < 0) || decide (1000 < z)
theorem nothing_any (z : Int) (w : World) : Calls Tryz.prog 62 #[.int .i64 z] w fun e w' => e = .returned (.bool (nTh z)) ∧ w' = w := by
  by_cases h1 : z < 0
  · have d1 : decide (z < 0) = true := by simpa using h1
    rw [show nTh z = true by unfold nTh; rw [d1]; rfl]
    clear h1
    go_enter Tryz.func62, Tryz.ntmps62
    go_wp2_with fail
    go_ret
    exact ⟨rfl, rfl⟩
  · have d1 : decide (z < 0) = false := by simpa using h1
    rw [show nTh z = decide (1000 < z) by unfold nTh; rw [d1]; rfl]
    clear h1
    go_enter Tryz.func62, Tryz.ntmps62
    go_wp2_with fail
    go_ret
    exact ⟨rfl, rfl⟩
/-- How many values a sort of words has. -/
def mds (s : Int) : Int := 2 ^ (s - 10).toNat
theorem mds_cases {s : Int} (h : 11 ≤ s ∧ s ≤ 18) : s = 11 ∧ mds s = 2 ∨ s = 12 ∧ mds s = 4 ∨ s = 13 ∧ mds s = 8 ∨ s = 14 ∧ mds s = 16 ∨ s = 15 ∧ mds s = 32 ∨ s = 16 ∧ mds s = 64 ∨ s = 17 ∧ mds s = 128 ∨ s = 18 ∧ mds s = 256 := by
  have : s = 11 ∨ s = 12 ∨ s = 13 ∨ s = 14 ∨ s = 15 ∨ s = 16 ∨ s = 17 ∨ s = 18 := by omega
  rcases this with rfl | rfl | rfl | rfl | rfl | rfl | rfl | rfl <;> simp [mds] <;> decide
theorem modulus_any (s : Int) (h : 11 ≤ s ∧ s ≤ 18) (w : World) : Calls Tryz.prog 41 #[.int .i64 s] w fun e w' => e = .returned (.int .i64 (mds s)) ∧ w' = w := by
  rcases mds_cases h with ⟨rfl, h2⟩ | ⟨rfl, h2⟩ | ⟨rfl, h2⟩ | ⟨rfl, h2⟩ | ⟨rfl, h2⟩ | ⟨rfl, h2⟩ | ⟨rfl, h2⟩ | ⟨rfl, h2⟩
  all_goals
    rw [h2]
    clear h h2
    go_enter Tryz.func41, Tryz.ntmps41
    go_wp2_with fail
    go_ret
    exact ⟨rfl, rfl⟩
/-- The sorts. -/
def okSo (s : Int) : Prop := (1 ≤ s ∧ s ≤ 5) ∨ (11 ≤ s ∧ s ≤ 18)
/-- The greatest number of Bools, things and words. -/
def grt (s : Int) : Int := if s = 1 then 1 else if s = 4 then 1000 else mds s - 1
theorem greatest_any (s : Int) (h : s = 1 ∨ s = 4 ∨ (11 ≤ s ∧ s ≤ 18)) (w : World) : Calls Tryz.prog 121 #[.int .i64 s] w fun e w' => e = .returned (.int .i64 (grt s)) ∧ w' = w := by
  rcases h with rfl | rfl | h
  · go_enter Tryz.func121, Tryz.ntmps121
    go_wp2_with fail
    go_ret
    exact ⟨rfl, rfl⟩
  · go_enter Tryz.func121, Tryz.ntmps121
    go_wp2_with fail
    go_ret
    exact ⟨rfl, rfl⟩
  · have t1 : (s == 1) = false := by simp; omega
    have t4 : (s == 4) = false := by simp; omega
    have HM := Lib.hid (modulus_any s h w)
    have hm : 2 ≤ mds s ∧ mds s ≤ 256 := by rcases mds_cases h with ⟨_, h2⟩ | ⟨_, h2⟩ | ⟨_, h2⟩ | ⟨_, h2⟩ | ⟨_, h2⟩ | ⟨_, h2⟩ | ⟨_, h2⟩ | ⟨_, h2⟩ <;> omega
    obtain ⟨m1, m2⟩ := hm
    have HG : Hid (grt s = mds s - 1) := Lib.hid (by unfold grt; rw [if_neg (by omega), if_neg (by omega)])
    clear h
    generalize mds s = m at *
    go_enter Tryz.func121, Tryz.ntmps121
    go_wp2_with fail
    refine HM.out.mono ?_
    rintro e w1 ⟨rfl, rfl⟩
    go_wp2_with fail
    go_ret
    exact ⟨by rw [HG.out]; rfl, rfl⟩
/-- Cells in their form. -/
def okCs (rest : Int) : Int → List (Int × Int) → Bool
  | _, [] => true
  | last, c :: r => !decide (c.1 ≤ last) && !nTh c.1 && !nTh c.2 && !(c.2 == rest) && okCs rest c.1 r
theorem drop_cn {cs : List (Int × Int)} {i : Nat} (h : i < cs.length) : cs.drop i = cn cs i :: cs.drop (i + 1) := by
  rw [List.drop_eq_getElem_cons h]
  simp [cn, h]
theorem wf64_iff {z : Int} : wf64 z ↔ -9223372036854775808 ≤ z ∧ z ≤ 9223372036854775807 := by
  exact ⟨fun h => Go.bounds_i64 h, fun h => WalkArith.wf_i64 h⟩
set_option maxHeartbeats 2000000 in
theorem arecells_any (cs : List (Int × Int)) (A : Option Addr) (c : Nat) (rest : Int) (hl : cs.length ≤ maxLen) (w : World) (h : CsAt w A cs) :
    Calls Tryz.prog 96 #[.slice A cs.length c, .int .i64 rest] w fun e w' => e = .returned (.bool (okCs rest (-1) cs)) ∧ Below w.heap.size w w' := by
  have HA := Lib.hid h
  unfold maxLen at hl
  generalize hL : cs.length = L at *
  have HL := Lib.hid hL
  clear h hL
  go_enter Tryz.func96, Tryz.ntmps96
  go_wp2_with fail
  go_loopw [5, 10] (fun l k wr => ∃ (i : Nat) (last : Int), i ≤ L ∧ k = .int .i64 i ∧ l = .int .i64 last ∧ Hid (okCs rest (-1) cs = okCs rest last (cs.drop i)) ∧ Hid (Below w.heap.size w wr)) (fun _ k _ => L - (intOf k).toNat)
  case atStart => exact ⟨0, -1, by omega, rfl, rfl, Lib.hid rfl, Below.refl _ _⟩
  case round =>
    obtain ⟨i, last, hi, rfl, rfl, HE, HB⟩ := hrel
    by_cases hlt : i < L
    · obtain ⟨b, o, rfl, hb, c0, c1⟩ := cs_at (i := i) (HA.out.below HB.out) (by rw [HL.out]; exact hlt)
      have t3 : decide ((i : Int) < L) = true := by simpa using hlt
      have HE2 : Hid (okCs rest (-1) cs = (!decide ((cn cs i).1 ≤ last) && !nTh (cn cs i).1 && !nTh (cn cs i).2 && !((cn cs i).2 == rest) && okCs rest (cn cs i).1 (cs.drop (i + 1)))) := Lib.hid (by rw [HE.out, drop_cn (by rw [HL.out]; exact hlt)]; rfl)
      clear HE
      generalize (cn cs i).1 = x at *
      generalize (cn cs i).2 = y at *
      have HN1 := Lib.hid (fun W => nothing_any x W)
      have HN2 := Lib.hid (fun W => nothing_any y W)
      cases d1 : decide (x ≤ last) with
      | true =>
        have HF : Hid (okCs rest (-1) cs = false) := Lib.hid (by rw [HE2.out, d1]; rfl)
        clear HE2
        go_wp2_with fail
        go_ret
        exact ⟨by rw [HF.out]; rfl, below_after HB.out (new_below _ _)⟩
      | false =>
        cases d2 : nTh x with
        | true =>
          have HF : Hid (okCs rest (-1) cs = false) := Lib.hid (by rw [HE2.out, d1, d2]; rfl)
          have D2 := Lib.hid d2
          clear HE2 d2
          go_wp2_with fail
          refine (HN1.out _).mono ?_
          rintro e w1 ⟨rfl, rfl⟩
          rw [D2.out]
          go_wp2_with fail
          go_ret
          exact ⟨by rw [HF.out]; rfl, below_after HB.out (new_below _ _)⟩
        | false =>
          cases d3 : nTh y with
          | true =>
            have HF : Hid (okCs rest (-1) cs = false) := Lib.hid (by rw [HE2.out, d1, d2, d3]; rfl)
            have D2 := Lib.hid d2
            have D3 := Lib.hid d3
            clear HE2 d2 d3
            go_wp2_with fail
            refine (HN1.out _).mono ?_
            rintro e w1 ⟨rfl, rfl⟩
            rw [D2.out]
            go_wp2_with fail
            refine (HN2.out _).mono ?_
            rintro e w1 ⟨rfl, rfl⟩
            rw [D3.out]
            go_wp2_with fail
            go_ret
            exact ⟨by rw [HF.out]; rfl, below_after HB.out (new_below _ _)⟩
          | false =>
            cases d4 : y == rest with
            | true =>
              have HF : Hid (okCs rest (-1) cs = false) := Lib.hid (by rw [HE2.out, d1, d2, d3, d4]; rfl)
              have D2 := Lib.hid d2
              have D3 := Lib.hid d3
              clear HE2 d2 d3
              go_wp2_with fail
              refine (HN1.out _).mono ?_
              rintro e w1 ⟨rfl, rfl⟩
              rw [D2.out]
              go_wp2_with fail
              refine (HN2.out _).mono ?_
              rintro e w1 ⟨rfl, rfl⟩
              rw [D3.out]
              go_wp2_with fail
              go_ret
              exact ⟨by rw [HF.out]; rfl, below_after HB.out (new_below _ _)⟩
            | false =>
              have HF : Hid (okCs rest (-1) cs = okCs rest x (cs.drop (i + 1))) := Lib.hid (by rw [HE2.out, d1, d2, d3, d4]; rfl)
              have D2 := Lib.hid d2
              have D3 := Lib.hid d3
              clear HE2 d2 d3
              go_wp2_with fail
              refine (HN1.out _).mono ?_
              rintro e w1 ⟨rfl, rfl⟩
              rw [D2.out]
              go_wp2_with fail
              refine (HN2.out _).mono ?_
              rintro e w1 ⟨rfl, rfl⟩
              rw [D3.out]
              go_wp2_with fail
              go_round
              case rel => exact ⟨i + 1, x, by omega, by go_num, rfl, HF, Lib.hid (below_after HB.out (new_below _ _))⟩
              case measure => simp [intOf]; omega
    · obtain rfl : i = L := by omega
      have t3 : decide ((i : Int) < i) = false := by simp
      have HF : Hid (okCs rest (-1) cs = true) := Lib.hid (by rw [HE.out, List.drop_of_length_le (by rw [HL.out]; exact Nat.le_refl _)]; rfl)
      go_wp2_with fail
      go_ret
      exact ⟨by rw [HF.out]; rfl, HB.out⟩
/-- A number of a sort other than Array. -/
def gdN (s n d : Int) : Bool := fvalid n d && (s == 3 || (d == 1 && (s == 2 || (decide (0 ≤ n) && decide (n ≤ grt s)))))
/-- A value of a sort. -/
def gdV (s : Int) (v : Vl) : Bool := if s = 5 then v.num == 0 && v.den == 0 && !nTh v.rest && okCs v.rest (-1) v.cells else v.cells.isEmpty && v.rest == 0 && gdN s v.num v.den
end Go.Proofs.YtaodebpogibimaaGreat
namespace Go.Proofs.YtaodebpogibimaaGreat
open Go.RowKit

set_option maxHeartbeats 2000000 in
theorem isnum_any (s n d : Int) (hs : okSo s) (h5 : s ≠ 5) (w : World) : Calls Tryz.prog 97 #[.int .i64 s, .agg #[.int .i64 n, .int .i64 d]] w fun e w' => e = .returned (.bool (gdN s n d)) ∧ Below w.heap.size w w' := by
  cases hv : fvalid n d with
  | false =>
    have HC := Lib.hid (fun W => check_no n d W hv)
    have HE : Hid (gdN s n d = false) := Lib.hid (by unfold gdN; rw [hv]; rfl)
    clear hs h5 hv
    go_enter Tryz.func97, Tryz.ntmps97
    go_wp2_with fail
    refine (HC.out _).mono ?_
    rintro e w1 ⟨rfl, hb1⟩
    have HB1 := Lib.hid (below_after (new_below w _) hb1)
    clear hb1
    go_wp2_with fail
    go_ret
    exact ⟨by rw [HE.out]; rfl, HB1.out⟩
  | true =>
    have HC := Lib.hid (fun W => check_yes n d W hv)
    have HE : Hid (gdN s n d = (s == 3 || (d == 1 && (s == 2 || (decide (0 ≤ n) && decide (n ≤ grt s)))))) := Lib.hid (by unfold gdN; rw [hv]; rfl)
    clear hv
    have HN0 := Lib.hid (HB.new w 44 #[.int .i64 n, .int .i64 d])
    by_cases h3 : s = 3
    · subst h3
      clear hs h5
      go_enter Tryz.func97, Tryz.ntmps97
      go_wp2_with fail
      refine (HC.out _).mono ?_
      rintro e w1 ⟨rfl, hb1⟩
      have HB1 := Lib.hid (below_after (new_below w _) hb1)
      clear hb1
      go_wp2_with fail
      go_ret
      exact ⟨by rw [HE.out]; rfl, HB1.out⟩
    · have t3 : (s == 3) = false := by simpa using h3
      by_cases h2 : s = 2
      · subst h2
        clear hs h5 h3
        go_enter Tryz.func97, Tryz.ntmps97
        go_wp2_with fail
        refine (HC.out _).mono ?_
        rintro e w1 ⟨rfl, hb1⟩
        have HB1 := Lib.hid (below_after (new_below w _) hb1)
        have N1 := Lib.hid (HN0.out.below hb1)
        clear hb1
        obtain ⟨c0, c1, _, _⟩ := N1.out.two
        have l1 := N1.out.lt
        go_wp2_with fail
        go_ret
        exact ⟨by rw [HE.out]; simp, HB1.out⟩
      · have t2 : (s == 2) = false := by simpa using h2
        have HG := Lib.hid (fun W => greatest_any s (by unfold okSo at hs; omega) W)
        have HE2 : Hid (gdN s n d = (d == 1 && (decide (0 ≤ n) && decide (n ≤ grt s)))) := Lib.hid (by rw [HE.out, t3, t2]; simp)
        clear hs h5 h3 h2 HE
        generalize grt s = m at *
        cases d1 : d == 1 with
        | false =>
          have HF : Hid (gdN s n d = false) := Lib.hid (by rw [HE2.out, d1]; rfl)
          clear HE2
          go_enter Tryz.func97, Tryz.ntmps97
          go_wp2_with fail
          refine (HC.out _).mono ?_
          rintro e w1 ⟨rfl, hb1⟩
          have HB1 := Lib.hid (below_after (new_below w _) hb1)
          have N1 := Lib.hid (HN0.out.below hb1)
          clear hb1
          obtain ⟨c0, c1, _, _⟩ := N1.out.two
          have l1 := N1.out.lt
          go_wp2_with fail
          go_quiet ((go_at_call 121; exact Calls.quiet_of_same (HG.out _)))
          go_wp2_with fail
          go_ret
          exact ⟨by rw [HF.out]; rfl, below_dn HB1.out _⟩
        | true =>
          cases d2 : decide (0 ≤ n) with
          | false =>
            have HF : Hid (gdN s n d = false) := Lib.hid (by rw [HE2.out, d1, d2]; rfl)
            clear HE2
            go_enter Tryz.func97, Tryz.ntmps97
            go_wp2_with fail
            refine (HC.out _).mono ?_
            rintro e w1 ⟨rfl, hb1⟩
            have HB1 := Lib.hid (below_after (new_below w _) hb1)
            have N1 := Lib.hid (HN0.out.below hb1)
            clear hb1
            obtain ⟨c0, c1, _, _⟩ := N1.out.two
            have l1 := N1.out.lt
            go_wp2_with fail
            go_quiet ((go_at_call 121; exact Calls.quiet_of_same (HG.out _)))
            go_wp2_with fail
            go_ret
            exact ⟨by rw [HF.out]; rfl, below_dn HB1.out _⟩
          | true =>
            have HF : Hid (gdN s n d = decide (n ≤ m)) := Lib.hid (by rw [HE2.out, d1, d2]; simp)
            clear HE2
            go_enter Tryz.func97, Tryz.ntmps97
            go_wp2_with fail
            refine (HC.out _).mono ?_
            rintro e w1 ⟨rfl, hb1⟩
            have HB1 := Lib.hid (below_after (new_below w _) hb1)
            have N1 := Lib.hid (HN0.out.below hb1)
            clear hb1
            obtain ⟨c0, c1, _, _⟩ := N1.out.two
            have l1 := N1.out.lt
            go_wp2_with fail
            go_quiet ((go_at_call 121; exact Calls.quiet_of_same (HG.out _)))
            go_wp2_with fail
            go_ret
            exact ⟨by rw [HF.out]; rfl, below_dn HB1.out _⟩
theorem gdv_5 (v : Vl) : gdV 5 v = (v.num == 0 && v.den == 0 && !nTh v.rest && okCs v.rest (-1) v.cells) := rfl
theorem gdv_n (s : Int) (v : Vl) (h : s ≠ 5) : gdV s v = (v.cells.isEmpty && v.rest == 0 && gdN s v.num v.den) := if_neg h
set_option maxHeartbeats 4000000 in
theorem isvalue_any (s : Int) (v : Vl) (A : Option Addr) (c : Nat) (hs : okSo s) (hl : v.cells.length ≤ maxLen) (w : World) (h : CsAt w A v.cells) :
    Calls Tryz.prog 64 #[.int .i64 s, .agg #[.int .i64 v.num, .int .i64 v.den, .slice A v.cells.length c, .int .i64 v.rest]] w fun e w' => e = .returned (.bool (gdV s v)) ∧ Below w.heap.size w w' := by
  have NEW := Lib.hid (new_below w (.cells #[.int .i64 v.num, .int .i64 v.den, .slice A v.cells.length c, .int .i64 v.rest] 47))
  by_cases h5 : s = 5
  · subst h5
    have HA := Lib.hid (fun W (hb : Below w.heap.size w W) => arecells_any v.cells A c v.rest hl W (h.below hb))
    have HN := Lib.hid (fun W => nothing_any v.rest W)
    have HE : Hid (gdV 5 v = (v.num == 0 && v.den == 0 && !nTh v.rest && okCs v.rest (-1) v.cells)) := Lib.hid (gdv_5 v)
    unfold maxLen at hl
    generalize gdV 5 v = r at *
    generalize okCs v.rest (-1) v.cells = oc at *
    generalize v.cells.length = L at *
    generalize v.num = n at *
    generalize v.den = d at *
    generalize v.rest = z at *
    clear hs h
    cases d1 : n == 0 with
    | false =>
      have HF : Hid (r = false) := Lib.hid (by rw [HE.out, d1]; rfl)
      clear HE
      go_enter Tryz.func64, Tryz.ntmps64
      go_wp2_with fail
      go_ret
      exact ⟨by rw [HF.out]; rfl, NEW.out⟩
    | true =>
      cases d2 : d == 0 with
      | false =>
        have HF : Hid (r = false) := Lib.hid (by rw [HE.out, d1, d2]; rfl)
        clear HE
        go_enter Tryz.func64, Tryz.ntmps64
        go_wp2_with fail
        go_ret
        exact ⟨by rw [HF.out]; rfl, NEW.out⟩
      | true =>
        cases d3 : nTh z with
        | true =>
          have HF : Hid (r = false) := Lib.hid (by rw [HE.out, d1, d2, d3]; rfl)
          have D3 := Lib.hid d3
          clear HE d3
          go_enter Tryz.func64, Tryz.ntmps64
          go_wp2_with fail
          refine (HN.out _).mono ?_
          rintro e w1 ⟨rfl, rfl⟩
          rw [D3.out]
          go_wp2_with fail
          go_ret
          exact ⟨by rw [HF.out]; rfl, NEW.out⟩
        | false =>
          have HF : Hid (r = oc) := Lib.hid (by rw [HE.out, d1, d2, d3]; simp)
          have D3 := Lib.hid d3
          clear HE d3
          go_enter Tryz.func64, Tryz.ntmps64
          go_wp2_with fail
          refine (HN.out _).mono ?_
          rintro e w1 ⟨rfl, rfl⟩
          rw [D3.out]
          go_wp2_with fail
          refine (HA.out _ NEW.out).mono ?_
          rintro e w1 ⟨rfl, hb1⟩
          have HB1 := Lib.hid (below_after NEW.out hb1)
          clear hb1
          go_wp2_with fail
          go_ret
          exact ⟨by rw [HF.out]; rfl, HB1.out⟩
  · have HN := Lib.hid (fun W => isnum_any s v.num v.den hs h5 W)
    have HE : Hid (gdV s v = (decide (v.cells.length = 0) && v.rest == 0 && gdN s v.num v.den)) := Lib.hid (by rw [gdv_n s v h5]; cases v.cells <;> simp)
    have t5 : (s == 5) = false := by simpa using h5
    unfold maxLen at hl
    generalize gdV s v = r at *
    generalize gdN s v.num v.den = g at *
    generalize v.cells.length = L at *
    generalize v.num = n at *
    generalize v.den = d at *
    generalize v.rest = z at *
    clear hs h h5
    by_cases hL : L = 0
    · subst hL
      cases d2 : z == 0 with
      | false =>
        have HF : Hid (r = false) := Lib.hid (by rw [HE.out, d2]; rfl)
        clear HE
        go_enter Tryz.func64, Tryz.ntmps64
        go_wp2_with fail
        go_ret
        exact ⟨by rw [HF.out]; rfl, NEW.out⟩
      | true =>
        have HF : Hid (r = g) := Lib.hid (by rw [HE.out, d2]; simp)
        clear HE
        go_enter Tryz.func64, Tryz.ntmps64
        go_wp2_with fail
        refine (HN.out _).mono ?_
        rintro e w1 ⟨rfl, hb1⟩
        have HB1 := Lib.hid (below_after NEW.out hb1)
        clear hb1
        go_wp2_with fail
        go_ret
        exact ⟨by rw [HF.out]; rfl, HB1.out⟩
    · have d1 : ((L : Int) == 0) = false := by simpa using hL
      have HF : Hid (r = false) := Lib.hid (by rw [HE.out]; simp [hL])
      clear HE hL
      go_enter Tryz.func64, Tryz.ntmps64
      go_wp2_with fail
      go_ret
      exact ⟨by rw [HF.out]; rfl, NEW.out⟩
end Go.Proofs.YtaodebpogibimaaGreat
namespace Go.Proofs.YtaodebpogibimaaGreat
open Go.RowKit
set_option maxRecDepth 100000

/-- The way in which a call that yields a Bool and a fault ends. -/
def GivesB (r : Bool) (c i : Int) (w : World) (e : Ending) (w' : World) : Prop := e = .returned (.tuple #[.bool r, .agg #[.int .i64 c, .int .i64 i]]) ∧ Below w.heap.size w w'
theorem below_more {A b C d : World} (G : Below A.heap.size A b) (hb : Below C.heap.size C d) (hm : Below b.heap.size b C) : Below A.heap.size A d := below_after (below_after G hm) hb
set_option maxHeartbeats 400000 in
theorem of_bool_good (an ad bn bd : Int) (w : World) (k : FuncId) (p q : Value) (r : Bool) (ek : ∀ args w, (callFunc k args).run Tryz.prog w = .ok (.enter k args) w) (ha : fvalid an ad = true) (hb : fvalid bn bd = true)
    (hk : ∀ w1, Below w.heap.size w w1 → Calls Tryz.prog k #[p, q] w1 (GivesB r 0 0 w1)) :
    Calls Tryz.prog 128 #[.agg #[.int .i64 an, .int .i64 ad], .agg #[.int .i64 bn, .int .i64 bd], .func (.func k) #[] #[p, q]] w (GivesB r 0 0 w) := by
  have HK : Hid (∀ w1, Below w.heap.size w w1 → Calls Tryz.prog k #[p, q] w1 (GivesB r 0 0 w1)) := hk
  clear hk
  have i0 : ∀ w, (Instr.index 135 (.agg #[.int .i64 an, .int .i64 ad, .int .i64 bn, .int .i64 bd]) (.int .i64 0)).run Tryz.prog w = .ok (.agg #[.int .i64 an, .int .i64 ad]) w := fun _ => by kernel_rfl
  have i1 : ∀ w, (Instr.index 135 (.agg #[.int .i64 an, .int .i64 ad, .int .i64 bn, .int .i64 bd]) (.int .i64 1)).run Tryz.prog w = .ok (.agg #[.int .i64 bn, .int .i64 bd]) w := fun _ => by kernel_rfl
  go_enter Tryz.func128, Tryz.ntmps128
  go_wp2_with fail
  refine wp_loop_rounds 3 ?_
  rw [rounds_succ]
  go_wp2_with fail
  refine (valid_any _ _ _).mono ?_
  rw [ha]
  rintro e w1 ⟨rfl, hb1⟩
  obtain ⟨hc1, hf1, hl1, hm1⟩ := bfour hb1
  have g1 : Below w.heap.size w w1 := below_after (by go_grown) hb1
  go_wp2_with fail
  rw [rounds_succ]
  go_wp2_with fail
  refine (valid_any _ _ _).mono ?_
  rw [hb]
  rintro e w2 ⟨rfl, hb2⟩
  have hb21 := below_more hb1 hb2 (by go_grown)
  obtain ⟨hc2, hf2, hl2, hm2⟩ := bfour hb2
  obtain ⟨hc21, hf21, hl21, hm21⟩ := bfour hb21
  have g2 : Below w.heap.size w w2 := below_more g1 hb2 (by go_grown)
  clear g1 hc1 hf1 hl1 hm1
  go_wp2_with fail
  rw [rounds_succ]
  go_wp2_with fail
  refine (HK.out _ g2).mono ?_
  rintro e w3 ⟨rfl, hb3⟩
  have hb31 := below_more hb21 hb3 (by go_grown)
  obtain ⟨hc31, hf31, hl31, hm31⟩ := bfour hb31
  have g3 : Below w.heap.size w w3 := below_after g2 hb3
  clear g2 hc2 hf2 hl2 hm2 hc21 hf21 hl21 hm21
  go_wp2_with fail
  refine bodyPost_ret (v := .tuple #[.bool r, .agg #[.int .i64 0, .int .i64 0]]) (by simp [results, Tryz.results128, go_sem, hc31]) rfl ⟨rfl, ?_⟩
  go_grown
set_option maxHeartbeats 400000 in
theorem of_frac_good (an ad bn bd : Int) (w : World) (k : FuncId) (p q : Value) (n d c i : Int) (ek : ∀ args w, (callFunc k args).run Tryz.prog w = .ok (.enter k args) w) (ha : fvalid an ad = true) (hb : fvalid bn bd = true)
    (hk : ∀ w1, Below w.heap.size w w1 → Calls Tryz.prog k #[p, q] w1 (Gives n d c i w1)) :
    Calls Tryz.prog 109 #[.agg #[.int .i64 an, .int .i64 ad], .agg #[.int .i64 bn, .int .i64 bd], .func (.func k) #[] #[p, q]] w (Gives n d c i w) := by
  have HK : Hid (∀ w1, Below w.heap.size w w1 → Calls Tryz.prog k #[p, q] w1 (Gives n d c i w1)) := hk
  clear hk
  have i0 : ∀ w, (Instr.index 135 (.agg #[.int .i64 an, .int .i64 ad, .int .i64 bn, .int .i64 bd]) (.int .i64 0)).run Tryz.prog w = .ok (.agg #[.int .i64 an, .int .i64 ad]) w := fun _ => by kernel_rfl
  have i1 : ∀ w, (Instr.index 135 (.agg #[.int .i64 an, .int .i64 ad, .int .i64 bn, .int .i64 bd]) (.int .i64 1)).run Tryz.prog w = .ok (.agg #[.int .i64 bn, .int .i64 bd]) w := fun _ => by kernel_rfl
  go_enter Tryz.func109, Tryz.ntmps109
  go_wp2_with fail
  refine wp_loop_rounds 3 ?_
  rw [rounds_succ]
  go_wp2_with fail
  refine (valid_any _ _ _).mono ?_
  rw [ha]
  rintro e w1 ⟨rfl, hb1⟩
  obtain ⟨hc1, hf1, hl1, hm1⟩ := bfour hb1
  have g1 : Below w.heap.size w w1 := below_after (by go_grown) hb1
  go_wp2_with fail
  rw [rounds_succ]
  go_wp2_with fail
  refine (valid_any _ _ _).mono ?_
  rw [hb]
  rintro e w2 ⟨rfl, hb2⟩
  have hb21 := below_more hb1 hb2 (by go_grown)
  obtain ⟨hc2, hf2, hl2, hm2⟩ := bfour hb2
  obtain ⟨hc21, hf21, hl21, hm21⟩ := bfour hb21
  have g2 : Below w.heap.size w w2 := below_more g1 hb2 (by go_grown)
  clear g1 hc1 hf1 hl1 hm1
  go_wp2_with fail
  rw [rounds_succ]
  go_wp2_with fail
  refine (HK.out _ g2).mono ?_
  rintro e w3 ⟨rfl, hb3⟩
  have hb31 := below_more hb21 hb3 (by go_grown)
  obtain ⟨hc31, hf31, hl31, hm31⟩ := bfour hb31
  have g3 : Below w.heap.size w w3 := below_after g2 hb3
  clear g2 hc2 hf2 hl2 hm2 hc21 hf21 hl21 hm21
  go_wp2_with fail
  refine bodyPost_ret (v := .tuple #[.agg #[.int .i64 n, .int .i64 d], .agg #[.int .i64 c, .int .i64 i]]) (by simp [results, Tryz.results109, go_sem, hc31]) rfl ⟨rfl, ?_⟩
  go_grown
theorem lt_two (n : Nat) : n < n + 1 + 1 := by omega
theorem mul_bd (x y : Int) (a : -1073741824 ≤ x) (b : x ≤ 1073741824) (c : -1073741824 ≤ y) (d : y ≤ 1073741824) : -1152921504606846976 ≤ x * y ∧ x * y ≤ 1152921504606846976 := by
  have h : (x * y).natAbs ≤ 1073741824 * 1073741824 := by
    rw [Int.natAbs_mul]; exact Nat.mul_le_mul (by omega) (by omega)
  omega
theorem fvalid_bd {n d : Int} (h : fvalid n d = true) : 1 ≤ d ∧ d ≤ 1073741824 ∧ -1073741824 ≤ n ∧ n ≤ 1073741824 ∧ Nat.gcd (mag n) (mag d) = 1 := by
  unfold fvalid at h; exact of_decide_eq_true h
set_option maxHeartbeats 400000 in
theorem add_in (an ad bn bd : Int) (p q : Nat) (w : World) (a1 : -1073741824 ≤ an) (a2 : an ≤ 1073741824) (a3 : -1073741824 ≤ ad) (a4 : ad ≤ 1073741824) (b1 : -1073741824 ≤ bn) (b2 : bn ≤ 1073741824) (b3 : -1073741824 ≤ bd) (b4 : bd ≤ 1073741824)
    (p1 : p < w.heap.size) (q1 : q < w.heap.size) (c1 : w.cell? ⟨p, 0, none⟩ = some (.int .i64 an)) (c2 : w.cell? ⟨p, 1, none⟩ = some (.int .i64 ad)) (c3 : w.cell? ⟨q, 0, none⟩ = some (.int .i64 bn)) (c4 : w.cell? ⟨q, 1, none⟩ = some (.int .i64 bd)) :
    Calls Tryz.prog 112 #[.pointer (some ⟨p, 0, none⟩), .pointer (some ⟨q, 0, none⟩)] w (Gives (madeN (an * bd + bn * ad) (ad * bd)) (madeD (an * bd + bn * ad) (ad * bd)) (madeC (an * bd + bn * ad) (ad * bd)) 0 w) := by
  have p2 : p ≤ w.heap.size := by omega
  have q2 : q ≤ w.heap.size := by omega
  obtain ⟨m0, m1⟩ := mul_bd an bd a1 a2 b3 b4
  obtain ⟨m2, m3⟩ := mul_bd bn ad b1 b2 a3 a4
  obtain ⟨m4, m5⟩ := mul_bd ad bd a3 a4 b3 b4
  go_enter Tryz.func112, Tryz.ntmps112
  go_wp2_with fail
  refine (make_any (an * bd + bn * ad) (ad * bd) (by omega) (by omega) (by omega) (by omega) _).mono ?_
  rintro e w1 ⟨rfl, hb1⟩
  obtain ⟨hc1, hf1, hl1, hm1⟩ := bfour hb1
  have g1 : Below w.heap.size w w1 := below_after (by go_grown) hb1
  go_wp2_with fail
  refine bodyPost_ret (v := .tuple #[.agg #[.int .i64 (madeN (an * bd + bn * ad) (ad * bd)), .int .i64 (madeD (an * bd + bn * ad) (ad * bd))], .agg #[.int .i64 (madeC (an * bd + bn * ad) (ad * bd)), .int .i64 0]]) (by simp [results, Tryz.results112, go_sem, hc1, lt_two]) rfl ⟨rfl, ?_⟩
  have z := g1.size
  go_grown
theorem enter26 (args : Array Value) (w : World) : (callFunc 112 args).run Tryz.prog w = .ok (.enter 112 args) w := by kernel_rfl
set_option maxHeartbeats 400000 in
theorem add_good (an ad bn bd : Int) (w : World) (ha : fvalid an ad = true) (hb : fvalid bn bd = true) :
    Calls Tryz.prog 81 #[.agg #[.int .i64 an, .int .i64 ad], .agg #[.int .i64 bn, .int .i64 bd]] w (Gives (madeN (an * bd + bn * ad) (ad * bd)) (madeD (an * bd + bn * ad) (ad * bd)) (madeC (an * bd + bn * ad) (ad * bd)) 0 w) := by
  go_enter Tryz.func81, Tryz.ntmps81
  go_wp2_with fail
  have A := fvalid_bd ha
  have B := fvalid_bd hb
  refine (of_frac_good an ad bn bd _ 112 _ _ (madeN (an * bd + bn * ad) (ad * bd)) (madeD (an * bd + bn * ad) (ad * bd)) (madeC (an * bd + bn * ad) (ad * bd)) 0 enter26 ha hb (fun w1 g => add_in an ad bn bd _ _ w1 (by omega) (by omega) (by omega) (by omega) (by omega) (by omega) (by omega) (by omega) (Nat.lt_of_lt_of_le (by simp; omega) g.size) (Nat.lt_of_lt_of_le (by simp) g.size) (by rw [(bcell g).1 _ _ (by simp; omega)]; simp [go_sem]) (by rw [(bcell g).1 _ _ (by simp; omega)]; simp [go_sem]) (by rw [(bcell g).1 _ _ (by simp)]; simp [go_sem]) (by rw [(bcell g).1 _ _ (by simp)]; simp [go_sem]))).mono ?_
  clear A B ha hb
  rintro e w1 ⟨rfl, hb1⟩
  obtain ⟨hc1, hf1, hl1, hm1⟩ := bfour hb1
  have g1 : Below w.heap.size w w1 := below_after (by go_grown) hb1
  go_wp2_with fail
  refine bodyPost_ret (v := .tuple #[.agg #[.int .i64 (madeN (an * bd + bn * ad) (ad * bd)), .int .i64 (madeD (an * bd + bn * ad) (ad * bd))], .agg #[.int .i64 (madeC (an * bd + bn * ad) (ad * bd)), .int .i64 0]]) (by simp [results, Tryz.results81, go_sem, hc1]) rfl ⟨rfl, ?_⟩
  have z := g1.size
  go_grown
set_option maxHeartbeats 400000 in
theorem times_in (an ad bn bd : Int) (p q : Nat) (w : World) (a1 : -1073741824 ≤ an) (a2 : an ≤ 1073741824) (a3 : -1073741824 ≤ ad) (a4 : ad ≤ 1073741824) (b1 : -1073741824 ≤ bn) (b2 : bn ≤ 1073741824) (b3 : -1073741824 ≤ bd) (b4 : bd ≤ 1073741824)
    (p1 : p < w.heap.size) (q1 : q < w.heap.size) (c1 : w.cell? ⟨p, 0, none⟩ = some (.int .i64 an)) (c2 : w.cell? ⟨p, 1, none⟩ = some (.int .i64 ad)) (c3 : w.cell? ⟨q, 0, none⟩ = some (.int .i64 bn)) (c4 : w.cell? ⟨q, 1, none⟩ = some (.int .i64 bd)) :
    Calls Tryz.prog 110 #[.pointer (some ⟨p, 0, none⟩), .pointer (some ⟨q, 0, none⟩)] w (Gives (madeN (an * bn) (ad * bd)) (madeD (an * bn) (ad * bd)) (madeC (an * bn) (ad * bd)) 0 w) := by
  have p2 : p ≤ w.heap.size := by omega
  have q2 : q ≤ w.heap.size := by omega
  obtain ⟨m0, m1⟩ := mul_bd an bn a1 a2 b1 b2
  obtain ⟨m2, m3⟩ := mul_bd ad bd a3 a4 b3 b4
  go_enter Tryz.func110, Tryz.ntmps110
  go_wp2_with fail
  refine (make_any (an * bn) (ad * bd) (by omega) (by omega) (by omega) (by omega) _).mono ?_
  rintro e w1 ⟨rfl, hb1⟩
  obtain ⟨hc1, hf1, hl1, hm1⟩ := bfour hb1
  have g1 : Below w.heap.size w w1 := below_after (by go_grown) hb1
  go_wp2_with fail
  refine bodyPost_ret (v := .tuple #[.agg #[.int .i64 (madeN (an * bn) (ad * bd)), .int .i64 (madeD (an * bn) (ad * bd))], .agg #[.int .i64 (madeC (an * bn) (ad * bd)), .int .i64 0]]) (by simp [results, Tryz.results110, go_sem, hc1, lt_two]) rfl ⟨rfl, ?_⟩
  have z := g1.size
  go_grown
theorem enter28 (args : Array Value) (w : World) : (callFunc 110 args).run Tryz.prog w = .ok (.enter 110 args) w := by kernel_rfl
set_option maxHeartbeats 400000 in
theorem times_good (an ad bn bd : Int) (w : World) (ha : fvalid an ad = true) (hb : fvalid bn bd = true) :
    Calls Tryz.prog 80 #[.agg #[.int .i64 an, .int .i64 ad], .agg #[.int .i64 bn, .int .i64 bd]] w (Gives (madeN (an * bn) (ad * bd)) (madeD (an * bn) (ad * bd)) (madeC (an * bn) (ad * bd)) 0 w) := by
  go_enter Tryz.func80, Tryz.ntmps80
  go_wp2_with fail
  have A := fvalid_bd ha
  have B := fvalid_bd hb
  refine (of_frac_good an ad bn bd _ 110 _ _ (madeN (an * bn) (ad * bd)) (madeD (an * bn) (ad * bd)) (madeC (an * bn) (ad * bd)) 0 enter28 ha hb (fun w1 g => times_in an ad bn bd _ _ w1 (by omega) (by omega) (by omega) (by omega) (by omega) (by omega) (by omega) (by omega) (Nat.lt_of_lt_of_le (by simp; omega) g.size) (Nat.lt_of_lt_of_le (by simp) g.size) (by rw [(bcell g).1 _ _ (by simp; omega)]; simp [go_sem]) (by rw [(bcell g).1 _ _ (by simp; omega)]; simp [go_sem]) (by rw [(bcell g).1 _ _ (by simp)]; simp [go_sem]) (by rw [(bcell g).1 _ _ (by simp)]; simp [go_sem]))).mono ?_
  clear A B ha hb
  rintro e w1 ⟨rfl, hb1⟩
  obtain ⟨hc1, hf1, hl1, hm1⟩ := bfour hb1
  have g1 : Below w.heap.size w w1 := below_after (by go_grown) hb1
  go_wp2_with fail
  refine bodyPost_ret (v := .tuple #[.agg #[.int .i64 (madeN (an * bn) (ad * bd)), .int .i64 (madeD (an * bn) (ad * bd))], .agg #[.int .i64 (madeC (an * bn) (ad * bd)), .int .i64 0]]) (by simp [results, Tryz.results80, go_sem, hc1]) rfl ⟨rfl, ?_⟩
  have z := g1.size
  go_grown
set_option maxHeartbeats 400000 in
theorem less_in (an ad bn bd : Int) (p q : Nat) (w : World) (a1 : -1073741824 ≤ an) (a2 : an ≤ 1073741824) (a3 : -1073741824 ≤ ad) (a4 : ad ≤ 1073741824) (b1 : -1073741824 ≤ bn) (b2 : bn ≤ 1073741824) (b3 : -1073741824 ≤ bd) (b4 : bd ≤ 1073741824)
    (p1 : p < w.heap.size) (q1 : q < w.heap.size) (c1 : w.cell? ⟨p, 0, none⟩ = some (.int .i64 an)) (c2 : w.cell? ⟨p, 1, none⟩ = some (.int .i64 ad)) (c3 : w.cell? ⟨q, 0, none⟩ = some (.int .i64 bn)) (c4 : w.cell? ⟨q, 1, none⟩ = some (.int .i64 bd)) :
    Calls Tryz.prog 129 #[.pointer (some ⟨p, 0, none⟩), .pointer (some ⟨q, 0, none⟩)] w (GivesB (decide (an * bd < bn * ad)) 0 0 w) := by
  obtain ⟨m0, m1⟩ := mul_bd an bd a1 a2 b3 b4
  obtain ⟨m2, m3⟩ := mul_bd bn ad b1 b2 a3 a4
  by_cases hlt : an * bd < bn * ad
  · have hd : decide (an * bd < bn * ad) = true := by simpa using hlt
    rw [hd]
    go_enter Tryz.func129, Tryz.ntmps129
    go_wp2
    refine bodyPost_ret (v := .tuple #[.bool true, .agg #[.int .i64 0, .int .i64 0]]) (by simp [results, Tryz.results129, go_sem]) rfl ⟨rfl, ?_⟩
    go_grown
  · have hd : decide (an * bd < bn * ad) = false := by simpa using hlt
    rw [hd]
    go_enter Tryz.func129, Tryz.ntmps129
    go_wp2
    refine bodyPost_ret (v := .tuple #[.bool false, .agg #[.int .i64 0, .int .i64 0]]) (by simp [results, Tryz.results129, go_sem]) rfl ⟨rfl, ?_⟩
    go_grown
theorem enter31 (args : Array Value) (w : World) : (callFunc 129 args).run Tryz.prog w = .ok (.enter 129 args) w := by kernel_rfl
set_option maxHeartbeats 400000 in
theorem less_good' (an ad bn bd : Int) (w : World) (r : Bool) (hr : decide (an * bd < bn * ad) = r) (ha : fvalid an ad = true) (hb : fvalid bn bd = true) :
    Calls Tryz.prog 117 #[.agg #[.int .i64 an, .int .i64 ad], .agg #[.int .i64 bn, .int .i64 bd]] w (GivesB r 0 0 w) := by
  have A := fvalid_bd ha
  have B := fvalid_bd hb
  go_enter Tryz.func117, Tryz.ntmps117
  go_wp2_with fail
  refine (of_bool_good an ad bn bd _ 129 _ _ r enter31 ha hb (fun w1 g => hr ▸ less_in an ad bn bd _ _ w1 (by omega) (by omega) (by omega) (by omega) (by omega) (by omega) (by omega) (by omega) (Nat.lt_of_lt_of_le (by simp; omega) g.size) (Nat.lt_of_lt_of_le (by simp) g.size) (by rw [(bcell g).1 _ _ (by simp; omega)]; simp [go_sem]) (by rw [(bcell g).1 _ _ (by simp; omega)]; simp [go_sem]) (by rw [(bcell g).1 _ _ (by simp)]; simp [go_sem]) (by rw [(bcell g).1 _ _ (by simp)]; simp [go_sem]))).mono ?_
  clear A B ha hb hr
  rintro e w1 ⟨rfl, hb1⟩
  obtain ⟨hc1, hf1, hl1, hm1⟩ := bfour hb1
  have g1 : Below w.heap.size w w1 := below_after (by go_grown) hb1
  go_wp2_with fail
  refine bodyPost_ret (v := .tuple #[.bool r, .agg #[.int .i64 0, .int .i64 0]]) (by simp [results, Tryz.results117, go_sem, hc1]) rfl ⟨rfl, ?_⟩
  have z := g1.size
  go_grown
theorem less_good (an ad bn bd : Int) (w : World) (ha : fvalid an ad = true) (hb : fvalid bn bd = true) :
    Calls Tryz.prog 117 #[.agg #[.int .i64 an, .int .i64 ad], .agg #[.int .i64 bn, .int .i64 bd]] w (GivesB (decide (an * bd < bn * ad)) 0 0 w) := less_good' an ad bn bd w _ rfl ha hb
end Go.Proofs.YtaodebpogibimaaGreat
namespace Go.Proofs.YtaodebpogibimaaGreat
open Go.RowKit

/-- A row as an argument. -/
def enV (q : En) (Aa : Option Addr) (ca : Nat) (Ac : Option Addr) (cc : Nat) : Value := .agg #[.slice Aa q.args.length ca, .int .i64 q.too.num, .int .i64 q.too.den, .slice Ac q.too.cells.length cc, .int .i64 q.too.rest]
/-- What a row leads to in memory. -/
def enI (w : World) (q : En) (Aa : Option Addr) (ca : Nat) (Ac : Option Addr) (cc : Nat) : Prop := (q.args.length ≤ ca ∧ ca ≤ maxLen ∧ Is w Aa q.args) ∧ q.too.cells.length ≤ cc ∧ cc ≤ maxLen ∧ CsAt w Ac q.too.cells
theorem enI.below {w w' : World} {q : En} {Aa Ac : Option Addr} {ca cc : Nat} (h : enI w q Aa ca Ac cc) (hb : Below w.heap.size w w') : enI w' q Aa ca Ac cc := ⟨⟨h.1.1, h.1.2.1, h.1.2.2.below hb⟩, h.2.1, h.2.2.1, h.2.2.2.below hb⟩
/-- What a search through a list yields. -/
def Found (n : Nat) (p : Nat → Bool) (I : Nat → World → Prop) (k : Int) (w : World) : Prop :=
  (∃ i, i < n ∧ p i = true ∧ (∀ j, j < i → p j = false) ∧ k = i ∧ I (i + 1) w) ∨ ((∀ j, j < n → p j = false) ∧ k = -1 ∧ I n w)
set_option maxRecDepth 100000 in
set_option maxHeartbeats 2000000 in
theorem indexen_any {fid : Nat} (hc : Enters fid) (es : List En) (A : Option Addr) (c : Nat) (caps : Array Value) (p : Nat → Bool) (I : Nat → World → Prop) (hl : es.length ≤ maxLen) (hA : ∀ i W, I i W → EsAt W A es)
    (H : ∀ i W Aa ca Ac cc, i < es.length → I i W → enI W (en es i) Aa ca Ac cc → Calls Tryz.prog fid (#[enV (en es i) Aa ca Ac cc] ++ caps) W fun e w' => e = .returned (.bool (p i)) ∧ I (i + 1) w')
    (w : World) (hw : I 0 w) :
    Calls Tryz.prog 78 #[.slice A es.length c, .func (.func fid) #[] caps] w fun e w' => ∃ k : Int, e = .returned (.int .i64 k) ∧ Hid (Found es.length p I k w') := by
  have HA := Lib.hid hA
  have HH := Lib.hid H
  have HC := Lib.hid hc
  have HW := Lib.hid hw
  unfold maxLen at hl
  generalize hL : es.length = L at *
  have HL := Lib.hid hL
  clear hA H hc hw hL
  go_enter Tryz.func78, Tryz.ntmps78
  go_wp2_with fail
  go_loopw [5, 8] (fun _ k wr => ∃ i : Nat, i ≤ L ∧ k = .int .i64 i ∧ Hid (∀ j, j < i → p j = false) ∧ Hid (I i wr)) (fun _ k _ => L - (intOf k).toNat)
  case atStart => exact ⟨0, by omega, rfl, Lib.hid (fun j hj => absurd hj (by omega)), HW⟩
  case round =>
    obtain ⟨i, hi, rfl, HP, HX⟩ := hrel
    by_cases hlt : i < L
    · obtain ⟨b, o, rfl, hb, ⟨⟨Aa, ca, c0, ha1, ha2, ha3⟩, c1, c2, c4, Ac, cc, c3, hc1, hc2, hc3⟩⟩ := es_at (i := i) (HA.out _ _ HX.out) (by rw [HL.out]; exact hlt)
      have t3 : decide ((i : Int) < L) = true := by simpa using hlt
      have HX2 := Lib.hid (HH.out i wr Aa ca Ac cc hlt HX.out ⟨⟨ha1, ha2, ha3⟩, hc1, hc2, hc3⟩)
      unfold enV at HX2
      clear ha1 ha2 ha3 hc1 hc2 hc3
      generalize (en es i).args.length = al at *
      generalize (en es i).too.cells.length = cl at *
      generalize (en es i).too.num = vn at *
      generalize (en es i).too.den = vd at *
      generalize (en es i).too.rest = vr at *
      go_wp2_with fail
      rw [HC.out, Oper.upon_enter]
      refine HX2.out.mono ?_
      rintro e w1 ⟨rfl, hx1⟩
      have X1 := Lib.hid hx1
      clear hx1
      cases hq : p i with
      | false =>
        have HQ := Lib.hid hq
        clear hq
        go_wp2_with fail
        go_round
        case rel => exact ⟨i + 1, by omega, by go_num, Lib.hid (fun j hj => by
          rcases Nat.lt_or_ge j i with z | z
          · exact HP.out j z
          · obtain rfl : j = i := by omega
            exact HQ.out), X1⟩
        case measure => simp [intOf]; omega
      | true =>
        have HQ := Lib.hid hq
        clear hq
        go_wp2_with fail
        go_ret
        exact ⟨i, rfl, Lib.hid (.inl ⟨i, hlt, HQ.out, HP.out, rfl, X1.out⟩)⟩
    · obtain rfl : i = L := by omega
      have t3 : decide ((i : Int) < i) = false := by simp
      go_wp2_with fail
      go_ret
      exact ⟨-1, rfl, Lib.hid (.inr ⟨HP.out, rfl, HX.out⟩)⟩
/-- Is there one? -/
def Held (n : Nat) (p : Nat → Bool) (I : Nat → World → Prop) (r : Bool) (w : World) : Prop :=
  (∃ i, i < n ∧ p i = true ∧ (∀ j, j < i → p j = false) ∧ r = true ∧ I (i + 1) w) ∨ ((∀ j, j < n → p j = false) ∧ r = false ∧ I n w)
theorem conten_any {fid : Nat} (hc : Enters fid) (es : List En) (A : Option Addr) (c : Nat) (caps : Array Value) (p : Nat → Bool) (I : Nat → World → Prop) (hl : es.length ≤ maxLen) (hA : ∀ i W, I i W → EsAt W A es)
    (H : ∀ i W Aa ca Ac cc, i < es.length → I i W → enI W (en es i) Aa ca Ac cc → Calls Tryz.prog fid (#[enV (en es i) Aa ca Ac cc] ++ caps) W fun e w' => e = .returned (.bool (p i)) ∧ I (i + 1) w')
    (w : World) (hw : I 0 w) :
    Calls Tryz.prog 59 #[.slice A es.length c, .func (.func fid) #[] caps] w fun e w' => ∃ r : Bool, e = .returned (.bool r) ∧ Hid (Held es.length p I r w') := by
  have HX := Lib.hid (indexen_any hc es A c caps p I hl hA H w hw)
  clear hc hl hA H hw
  generalize es.length = L at *
  go_enter Tryz.func59, Tryz.ntmps59
  go_wp2_with fail
  refine HX.out.mono ?_
  rintro e w1 ⟨k, rfl, hk⟩
  have HK : Hid (Held L p I (decide (0 ≤ k)) w1) := Lib.hid (by
    rcases hk.out with ⟨i, h1, h2, h3, h4, h5⟩ | ⟨h1, h2, h3⟩
    · exact .inl ⟨i, h1, h2, h3, by subst h4; simp, h5⟩
    · exact .inr ⟨h1, by subst h2; rfl, h3⟩)
  clear hk
  go_wp2_with fail
  go_ret
  exact ⟨_, rfl, HK⟩
set_option maxRecDepth 100000 in
set_option maxHeartbeats 2000000 in
theorem indexint_any {fid : Nat} (hc : Enters fid) (xs : List Int) (A : Option Addr) (c : Nat) (caps : Array Value) (p : Int → Bool) (C : World → Prop) (hC : ∀ W W', C W → Below W.heap.size W W' → C W') (hl : xs.length ≤ maxLen)
    (H : ∀ i W, i < xs.length → C W → Calls Tryz.prog fid (#[.int .i64 (nth xs i)] ++ caps) W fun e w' => e = .returned (.bool (p (nth xs i))) ∧ Below W.heap.size W w')
    (w : World) (h : Is w A xs) (hw : C w) :
    Calls Tryz.prog 57 #[.slice A xs.length c, .func (.func fid) #[] caps] w fun e w' => ∃ k : Int, e = .returned (.int .i64 k) ∧ Hid (decide (0 ≤ k) = xs.any p) ∧ Below w.heap.size w w' := by
  have HA := Lib.hid h
  have HH := Lib.hid H
  have HC := Lib.hid hC
  have HW := Lib.hid hw
  have HCC := Lib.hid hc
  unfold maxLen at hl
  generalize hL : xs.length = L at *
  have HL := Lib.hid hL
  clear h H hC hw hL hc
  go_enter Tryz.func57, Tryz.ntmps57
  go_wp2_with fail
  go_loopw [5, 8] (fun _ k wr => ∃ i : Nat, i ≤ L ∧ k = .int .i64 i ∧ Hid (∀ j, j < i → p (nth xs j) = false) ∧ Hid (C wr) ∧ Hid (Below w.heap.size w wr)) (fun _ k _ => L - (intOf k).toNat)
  case atStart => exact ⟨0, by omega, rfl, Lib.hid (fun j hj => absurd hj (by omega)), HW, Lib.hid (Below.refl _ _)⟩
  case round =>
    obtain ⟨i, hi, rfl, HP, HX, HB⟩ := hrel
    by_cases hlt : i < L
    · obtain ⟨b, o, rfl, hb, c0⟩ := is_at (i := i) (HA.out.below HB.out) (by rw [HL.out]; exact hlt)
      have t3 : decide ((i : Int) < L) = true := by simpa using hlt
      have HX2 := Lib.hid (HH.out i wr hlt HX.out)
      have HXI : Hid (nth xs i = nth xs i) := Lib.hid rfl
      go_wp2_with fail
      rw [HCC.out, Oper.upon_enter]
      refine HX2.out.mono ?_
      rintro e w1 ⟨rfl, hb1⟩
      have G1 : Hid (Below w.heap.size w w1) := bw_below (Nat.le_refl _) HB.out hb1
      have X1 : Hid (C w1) := HC.out _ _ HX.out hb1
      clear hb1
      cases hq : p (nth xs i) with
      | false =>
        have HQ := Lib.hid hq
        clear hq
        go_wp2_with fail
        go_round
        case rel => exact ⟨i + 1, by omega, by go_num, Lib.hid (fun j hj => by
          rcases Nat.lt_or_ge j i with z | z
          · exact HP.out j z
          · obtain rfl : j = i := by omega
            exact HQ.out), X1, G1⟩
        case measure => simp [intOf]; omega
      | true =>
        have HQ := Lib.hid hq
        clear hq
        go_wp2_with fail
        go_ret
        exact ⟨_, rfl, Lib.hid (by
          have : xs.any p = true := List.any_eq_true.2 ⟨nth xs i, by rw [nth_of (by rw [HL.out]; exact hlt)]; exact List.getElem_mem _, HQ.out⟩
          rw [this]; simp), G1.out⟩
    · obtain rfl : i = L := by omega
      have t3 : decide ((i : Int) < i) = false := by simp
      go_wp2_with fail
      go_ret
      exact ⟨_, rfl, Lib.hid (by
        have : xs.any p = false := List.any_eq_false.2 (fun x hx => by
          obtain ⟨j, hj, rfl⟩ := List.getElem_of_mem hx
          rw [← nth_of hj, HP.out j (by rw [← HL.out]; exact hj)]
          simp)
        rw [this]; simp), HB.out⟩
theorem contint_any {fid : Nat} (hc : Enters fid) (xs : List Int) (A : Option Addr) (c : Nat) (caps : Array Value) (p : Int → Bool) (C : World → Prop) (hC : ∀ W W', C W → Below W.heap.size W W' → C W') (hl : xs.length ≤ maxLen)
    (H : ∀ i W, i < xs.length → C W → Calls Tryz.prog fid (#[.int .i64 (nth xs i)] ++ caps) W fun e w' => e = .returned (.bool (p (nth xs i))) ∧ Below W.heap.size W w')
    (w : World) (h : Is w A xs) (hw : C w) :
    Calls Tryz.prog 20 #[.slice A xs.length c, .func (.func fid) #[] caps] w fun e w' => e = .returned (.bool (xs.any p)) ∧ Below w.heap.size w w' := by
  have HX := Lib.hid (indexint_any hc xs A c caps p C hC hl H w h hw)
  clear h H hC hw hl hc
  generalize xs.length = L at *
  go_enter Tryz.func20, Tryz.ntmps20
  go_wp2_with fail
  refine HX.out.mono ?_
  rintro e w1 ⟨k, rfl, hk, hb1⟩
  have HB1 := Lib.hid hb1
  clear hb1
  go_wp2_with fail
  rw [hk.out]
  go_ret
  exact ⟨rfl, HB1.out⟩
end Go.Proofs.YtaodebpogibimaaGreat
