/-
  Worlds: is it a value of a sort?
-/
import Derived.Test.YtjjjgffpmghfgaaVal
import Derived.Test.YtjjjgffpmghfgaaAskB
import Derived.Test.YtjjjgffpmghfgaaFracB
namespace Go.Proofs.Ytjjjgffpmghfgaa
open Go.RowKit

/-- No thing's number. -/
def nTh (z : Int) : Bool := decide (z < 0) || decide (1000 < z)
theorem nothing_any (z : Int) (w : World) : Calls Try.prog 54 #[.int .i64 z] w fun e w' => e = .returned (.bool (nTh z)) ∧ w' = w := by
  by_cases h1 : z < 0
  · have d1 : decide (z < 0) = true := by simpa using h1
    rw [show nTh z = true by unfold nTh; rw [d1]; rfl]
    clear h1
    go_enter Try.func54, Try.ntmps54
    go_wp2_with fail
    go_ret
    exact ⟨rfl, rfl⟩
  · have d1 : decide (z < 0) = false := by simpa using h1
    rw [show nTh z = decide (1000 < z) by unfold nTh; rw [d1]; rfl]
    clear h1
    go_enter Try.func54, Try.ntmps54
    go_wp2_with fail
    go_ret
    exact ⟨rfl, rfl⟩
/-- How many values a sort of words has. -/
def mds (s : Int) : Int := 2 ^ (s - 10).toNat
theorem mds_cases {s : Int} (h : 11 ≤ s ∧ s ≤ 18) : s = 11 ∧ mds s = 2 ∨ s = 12 ∧ mds s = 4 ∨ s = 13 ∧ mds s = 8 ∨ s = 14 ∧ mds s = 16 ∨ s = 15 ∧ mds s = 32 ∨ s = 16 ∧ mds s = 64 ∨ s = 17 ∧ mds s = 128 ∨ s = 18 ∧ mds s = 256 := by
  have : s = 11 ∨ s = 12 ∨ s = 13 ∨ s = 14 ∨ s = 15 ∨ s = 16 ∨ s = 17 ∨ s = 18 := by omega
  rcases this with rfl | rfl | rfl | rfl | rfl | rfl | rfl | rfl <;> simp [mds] <;> decide
theorem modulus_any (s : Int) (h : 11 ≤ s ∧ s ≤ 18) (w : World) : Calls Try.prog 87 #[.int .i64 s] w fun e w' => e = .returned (.int .i64 (mds s)) ∧ w' = w := by
  rcases mds_cases h with ⟨rfl, h2⟩ | ⟨rfl, h2⟩ | ⟨rfl, h2⟩ | ⟨rfl, h2⟩ | ⟨rfl, h2⟩ | ⟨rfl, h2⟩ | ⟨rfl, h2⟩ | ⟨rfl, h2⟩
  all_goals
    rw [h2]
    clear h h2
    go_enter Try.func87, Try.ntmps87
    go_wp2_with fail
    go_ret
    exact ⟨rfl, rfl⟩
/-- The sorts. -/
def okSo (s : Int) : Prop := (1 ≤ s ∧ s ≤ 5) ∨ (11 ≤ s ∧ s ≤ 18)
/-- The greatest number of Bools, things and words. -/
def grt (s : Int) : Int := if s = 1 then 1 else if s = 4 then 1000 else mds s - 1
theorem greatest_any (s : Int) (h : s = 1 ∨ s = 4 ∨ (11 ≤ s ∧ s ≤ 18)) (w : World) : Calls Try.prog 115 #[.int .i64 s] w fun e w' => e = .returned (.int .i64 (grt s)) ∧ w' = w := by
  rcases h with rfl | rfl | h
  · go_enter Try.func115, Try.ntmps115
    go_wp2_with fail
    go_ret
    exact ⟨rfl, rfl⟩
  · go_enter Try.func115, Try.ntmps115
    go_wp2_with fail
    go_ret
    exact ⟨rfl, rfl⟩
  · have t1 : (s == 1) = false := by simp; omega
    have t4 : (s == 4) = false := by simp; omega
    have HM := Lib.hid (modulus_any s h w)
    have hm : 2 ≤ mds s ∧ mds s ≤ 256 := by rcases mds_cases h with ⟨_, h2⟩ | ⟨_, h2⟩ | ⟨_, h2⟩ | ⟨_, h2⟩ | ⟨_, h2⟩ | ⟨_, h2⟩ | ⟨_, h2⟩ | ⟨_, h2⟩ <;> omega
    obtain ⟨m1, m2⟩ := hm
    have HG : Hid (grt s = mds s - 1) := Lib.hid (by unfold grt; rw [if_neg (by omega), if_neg (by omega)])
    clear h
    generalize mds s = m at *
    go_enter Try.func115, Try.ntmps115
    go_wp2_with fail
    refine HM.out.mono ?_
    rintro e w1 ⟨rfl, rfl⟩
    go_wp2_with fail
    go_ret
    exact ⟨by rw [HG.out]; rfl, rfl⟩
/-- Cells in their form. -/
def okCs (rest : Int) : Int → List (Int × Int) → Bool
  | _, [] => true
  | last, c :: r => !decide (c.1 ≤ last) && !nTh c.1 && !nTh c.2 && !(c.2 == rest) && okCs rest c.1 r
theorem drop_cn {cs : List (Int × Int)} {i : Nat} (h : i < cs.length) : cs.drop i = cn cs i :: cs.drop (i + 1) := by
  rw [List.drop_eq_getElem_cons h]
  simp [cn, h]
theorem wf64_iff {z : Int} : wf64 z ↔ -9223372036854775808 ≤ z ∧ z ≤ 9223372036854775807 := by
  exact ⟨fun h => Go.bounds_i64 h, fun h => WalkArith.wf_i64 h⟩
set_option maxHeartbeats 2000000 in
theorem arecells_any (cs : List (Int × Int)) (A : Option Addr) (c : Nat) (rest : Int) (hl : cs.length ≤ maxLen) (w : World) (h : CsAt w A cs) :
    Calls Try.prog 91 #[.slice A cs.length c, .int .i64 rest] w fun e w' => e = .returned (.bool (okCs rest (-1) cs)) ∧ Below w.heap.size w w' := by
  have HA := Lib.hid h
  unfold maxLen at hl
  generalize hL : cs.length = L at *
  have HL := Lib.hid hL
  clear h hL
  go_enter Try.func91, Try.ntmps91
  go_wp2_with fail
  go_loopw [5, 10] (fun l k wr => ∃ (i : Nat) (last : Int), i ≤ L ∧ k = .int .i64 i ∧ l = .int .i64 last ∧ Hid (okCs rest (-1) cs = okCs rest last (cs.drop i)) ∧ Hid (Below w.heap.size w wr)) (fun _ k _ => L - (intOf k).toNat)
  case atStart => exact ⟨0, -1, by omega, rfl, rfl, Lib.hid rfl, Below.refl _ _⟩
  case round =>
    obtain ⟨i, last, hi, rfl, rfl, HE, HB⟩ := hrel
    by_cases hlt : i < L
    · obtain ⟨b, o, rfl, hb, c0, c1⟩ := cs_at (i := i) (HA.out.below HB.out) (by rw [HL.out]; exact hlt)
      have t3 : decide ((i : Int) < L) = true := by simpa using hlt
      have HE2 : Hid (okCs rest (-1) cs = (!decide ((cn cs i).1 ≤ last) && !nTh (cn cs i).1 && !nTh (cn cs i).2 && !((cn cs i).2 == rest) && okCs rest (cn cs i).1 (cs.drop (i + 1)))) := Lib.hid (by rw [HE.out, drop_cn (by rw [HL.out]; exact hlt)]; rfl)
      clear HE
      generalize (cn cs i).1 = x at *
      generalize (cn cs i).2 = y at *
      have HN1 := Lib.hid (fun W => nothing_any x W)
      have HN2 := Lib.hid (fun W => nothing_any y W)
      cases d1 : decide (x ≤ last) with
      | true =>
        have HF : Hid (okCs rest (-1) cs = false) := Lib.hid (by rw [HE2.out, d1]; rfl)
        clear HE2
        go_wp2_with fail
        go_ret
        exact ⟨by rw [HF.out]; rfl, below_after HB.out (new_below _ _)⟩
      | false =>
        cases d2 : nTh x with
        | true =>
          have HF : Hid (okCs rest (-1) cs = false) := Lib.hid (by rw [HE2.out, d1, d2]; rfl)
          have D2 := Lib.hid d2
          clear HE2 d2
          go_wp2_with fail
          refine (HN1.out _).mono ?_
          rintro e w1 ⟨rfl, rfl⟩
          rw [D2.out]
          go_wp2_with fail
          go_ret
          exact ⟨by rw [HF.out]; rfl, below_after HB.out (new_below _ _)⟩
        | false =>
          cases d3 : nTh y with
          | true =>
            have HF : Hid (okCs rest (-1) cs = false) := Lib.hid (by rw [HE2.out, d1, d2, d3]; rfl)
            have D2 := Lib.hid d2
            have D3 := Lib.hid d3
            clear HE2 d2 d3
            go_wp2_with fail
            refine (HN1.out _).mono ?_
            rintro e w1 ⟨rfl, rfl⟩
            rw [D2.out]
            go_wp2_with fail
            refine (HN2.out _).mono ?_
            rintro e w1 ⟨rfl, rfl⟩
            rw [D3.out]
            go_wp2_with fail
            go_ret
            exact ⟨by rw [HF.out]; rfl, below_after HB.out (new_below _ _)⟩
          | false =>
            cases d4 : y == rest with
            | true =>
              have HF : Hid (okCs rest (-1) cs = false) := Lib.hid (by rw [HE2.out, d1, d2, d3, d4]; rfl)
              have D2 := Lib.hid d2
              have D3 := Lib.hid d3
              clear HE2 d2 d3
              go_wp2_with fail
              refine (HN1.out _).mono ?_
              rintro e w1 ⟨rfl, rfl⟩
              rw [D2.out]
              go_wp2_with fail
              refine (HN2.out _).mono ?_
              rintro e w1 ⟨rfl, rfl⟩
              rw [D3.out]
              go_wp2_with fail
              go_ret
              exact ⟨by rw [HF.out]; rfl, below_after HB.out (new_below _ _)⟩
            | false =>
              have HF : Hid (okCs rest (-1) cs = okCs rest x (cs.drop (i + 1))) := Lib.hid (by rw [HE2.out, d1, d2, d3, d4]; rfl)
              have D2 := Lib.hid d2
              have D3 := Lib.hid d3
              clear HE2 d2 d3
              go_wp2_with fail
              refine (HN1.out _).mono ?_
              rintro e w1 ⟨rfl, rfl⟩
              rw [D2.out]
              go_wp2_with fail
              refine (HN2.out _).mono ?_
              rintro e w1 ⟨rfl, rfl⟩
              rw [D3.out]
              go_wp2_with fail
              go_round
              case rel => exact ⟨i + 1, x, by omega, by go_num, rfl, HF, Lib.hid (below_after HB.out (new_below _ _))⟩
              case measure => simp [intOf]; omega
    · obtain rfl : i = L := by omega
      have t3 : decide ((i : Int) < i) = false := by simp
      have HF : Hid (okCs rest (-1) cs = true) := Lib.hid (by rw [HE.out, List.drop_of_length_le (by rw [HL.out]; exact Nat.le_refl _)]; rfl)
      go_wp2_with fail
      go_ret
      exact ⟨by rw [HF.out]; rfl, HB.out⟩
/-- A number of a sort other than Array. -/
def gdN (s n d : Int) : Bool := fvalid n d && (s == 3 || (d == 1 && (s == 2 || (decide (0 ≤ n) && decide (n ≤ grt s)))))
/-- A value of a sort. -/
def gdV (s : Int) (v : Vl) : Bool := if s = 5 then v.num == 0 && v.den == 0 && !nTh v.rest && okCs v.rest (-1) v.cells else v.cells.isEmpty && v.rest == 0 && gdN s v.num v.den
end Go.Proofs.Ytjjjgffpmghfgaa
