/-
  Worlds: is it a value of a sort? Numbers, arrays.
-/
import Derived.Test.YtjjjgffpmghfgaaMeaA
namespace Go.Proofs.Ytjjjgffpmghfgaa
open Go.RowKit

set_option maxHeartbeats 2000000 in
theorem isnum_any (s n d : Int) (hs : okSo s) (h5 : s ≠ 5) (w : World) : Calls Try.prog 92 #[.int .i64 s, .agg #[.int .i64 n, .int .i64 d]] w fun e w' => e = .returned (.bool (gdN s n d)) ∧ Below w.heap.size w w' := by
  cases hv : fvalid n d with
  | false =>
    have HC := Lib.hid (fun W => check_no n d W hv)
    have HE : Hid (gdN s n d = false) := Lib.hid (by unfold gdN; rw [hv]; rfl)
    clear hs h5 hv
    go_enter Try.func92, Try.ntmps92
    go_wp2_with fail
    refine (HC.out _).mono ?_
    rintro e w1 ⟨rfl, hb1⟩
    have HB1 := Lib.hid (below_after (new_below w _) hb1)
    clear hb1
    go_wp2_with fail
    go_ret
    exact ⟨by rw [HE.out]; rfl, HB1.out⟩
  | true =>
    have HC := Lib.hid (fun W => check_yes n d W hv)
    have HE : Hid (gdN s n d = (s == 3 || (d == 1 && (s == 2 || (decide (0 ≤ n) && decide (n ≤ grt s)))))) := Lib.hid (by unfold gdN; rw [hv]; rfl)
    clear hv
    have HN0 := Lib.hid (HB.new w 48 #[.int .i64 n, .int .i64 d])
    by_cases h3 : s = 3
    · subst h3
      clear hs h5
      go_enter Try.func92, Try.ntmps92
      go_wp2_with fail
      refine (HC.out _).mono ?_
      rintro e w1 ⟨rfl, hb1⟩
      have HB1 := Lib.hid (below_after (new_below w _) hb1)
      clear hb1
      go_wp2_with fail
      go_ret
      exact ⟨by rw [HE.out]; rfl, HB1.out⟩
    · have t3 : (s == 3) = false := by simpa using h3
      by_cases h2 : s = 2
      · subst h2
        clear hs h5 h3
        go_enter Try.func92, Try.ntmps92
        go_wp2_with fail
        refine (HC.out _).mono ?_
        rintro e w1 ⟨rfl, hb1⟩
        have HB1 := Lib.hid (below_after (new_below w _) hb1)
        have N1 := Lib.hid (HN0.out.below hb1)
        clear hb1
        obtain ⟨c0, c1, _, _⟩ := N1.out.two
        have l1 := N1.out.lt
        go_wp2_with fail
        go_ret
        exact ⟨by rw [HE.out]; simp, HB1.out⟩
      · have t2 : (s == 2) = false := by simpa using h2
        have HG := Lib.hid (fun W => greatest_any s (by unfold okSo at hs; omega) W)
        have HE2 : Hid (gdN s n d = (d == 1 && (decide (0 ≤ n) && decide (n ≤ grt s)))) := Lib.hid (by rw [HE.out, t3, t2]; simp)
        clear hs h5 h3 h2 HE
        generalize grt s = m at *
        cases d1 : d == 1 with
        | false =>
          have HF : Hid (gdN s n d = false) := Lib.hid (by rw [HE2.out, d1]; rfl)
          clear HE2
          go_enter Try.func92, Try.ntmps92
          go_wp2_with fail
          refine (HC.out _).mono ?_
          rintro e w1 ⟨rfl, hb1⟩
          have HB1 := Lib.hid (below_after (new_below w _) hb1)
          have N1 := Lib.hid (HN0.out.below hb1)
          clear hb1
          obtain ⟨c0, c1, _, _⟩ := N1.out.two
          have l1 := N1.out.lt
          go_wp2_with fail
          go_quiet ((go_at_call 115; exact Calls.quiet_of_same (HG.out _)))
          go_wp2_with fail
          go_ret
          exact ⟨by rw [HF.out]; rfl, below_dn HB1.out _⟩
        | true =>
          cases d2 : decide (0 ≤ n) with
          | false =>
            have HF : Hid (gdN s n d = false) := Lib.hid (by rw [HE2.out, d1, d2]; rfl)
            clear HE2
            go_enter Try.func92, Try.ntmps92
            go_wp2_with fail
            refine (HC.out _).mono ?_
            rintro e w1 ⟨rfl, hb1⟩
            have HB1 := Lib.hid (below_after (new_below w _) hb1)
            have N1 := Lib.hid (HN0.out.below hb1)
            clear hb1
            obtain ⟨c0, c1, _, _⟩ := N1.out.two
            have l1 := N1.out.lt
            go_wp2_with fail
            go_quiet ((go_at_call 115; exact Calls.quiet_of_same (HG.out _)))
            go_wp2_with fail
            go_ret
            exact ⟨by rw [HF.out]; rfl, below_dn HB1.out _⟩
          | true =>
            have HF : Hid (gdN s n d = decide (n ≤ m)) := Lib.hid (by rw [HE2.out, d1, d2]; simp)
            clear HE2
            go_enter Try.func92, Try.ntmps92
            go_wp2_with fail
            refine (HC.out _).mono ?_
            rintro e w1 ⟨rfl, hb1⟩
            have HB1 := Lib.hid (below_after (new_below w _) hb1)
            have N1 := Lib.hid (HN0.out.below hb1)
            clear hb1
            obtain ⟨c0, c1, _, _⟩ := N1.out.two
            have l1 := N1.out.lt
            go_wp2_with fail
            go_quiet ((go_at_call 115; exact Calls.quiet_of_same (HG.out _)))
            go_wp2_with fail
            go_ret
            exact ⟨by rw [HF.out]; rfl, below_dn HB1.out _⟩
theorem gdv_5 (v : Vl) : gdV 5 v = (v.num == 0 && v.den == 0 && !nTh v.rest && okCs v.rest (-1) v.cells) := rfl
theorem gdv_n (s : Int) (v : Vl) (h : s ≠ 5) : gdV s v = (v.cells.isEmpty && v.rest == 0 && gdN s v.num v.den) := if_neg h
set_option maxHeartbeats 4000000 in
theorem isvalue_any (s : Int) (v : Vl) (A : Option Addr) (c : Nat) (hs : okSo s) (hl : v.cells.length ≤ maxLen) (w : World) (h : CsAt w A v.cells) :
    Calls Try.prog 56 #[.int .i64 s, .agg #[.int .i64 v.num, .int .i64 v.den, .slice A v.cells.length c, .int .i64 v.rest]] w fun e w' => e = .returned (.bool (gdV s v)) ∧ Below w.heap.size w w' := by
  have NEW := Lib.hid (new_below w (.cells #[.int .i64 v.num, .int .i64 v.den, .slice A v.cells.length c, .int .i64 v.rest] 51))
  by_cases h5 : s = 5
  · subst h5
    have HA := Lib.hid (fun W (hb : Below w.heap.size w W) => arecells_any v.cells A c v.rest hl W (h.below hb))
    have HN := Lib.hid (fun W => nothing_any v.rest W)
    have HE : Hid (gdV 5 v = (v.num == 0 && v.den == 0 && !nTh v.rest && okCs v.rest (-1) v.cells)) := Lib.hid (gdv_5 v)
    unfold maxLen at hl
    generalize gdV 5 v = r at *
    generalize okCs v.rest (-1) v.cells = oc at *
    generalize v.cells.length = L at *
    generalize v.num = n at *
    generalize v.den = d at *
    generalize v.rest = z at *
    clear hs h
    cases d1 : n == 0 with
    | false =>
      have HF : Hid (r = false) := Lib.hid (by rw [HE.out, d1]; rfl)
      clear HE
      go_enter Try.func56, Try.ntmps56
      go_wp2_with fail
      go_ret
      exact ⟨by rw [HF.out]; rfl, NEW.out⟩
    | true =>
      cases d2 : d == 0 with
      | false =>
        have HF : Hid (r = false) := Lib.hid (by rw [HE.out, d1, d2]; rfl)
        clear HE
        go_enter Try.func56, Try.ntmps56
        go_wp2_with fail
        go_ret
        exact ⟨by rw [HF.out]; rfl, NEW.out⟩
      | true =>
        cases d3 : nTh z with
        | true =>
          have HF : Hid (r = false) := Lib.hid (by rw [HE.out, d1, d2, d3]; rfl)
          have D3 := Lib.hid d3
          clear HE d3
          go_enter Try.func56, Try.ntmps56
          go_wp2_with fail
          refine (HN.out _).mono ?_
          rintro e w1 ⟨rfl, rfl⟩
          rw [D3.out]
          go_wp2_with fail
          go_ret
          exact ⟨by rw [HF.out]; rfl, NEW.out⟩
        | false =>
          have HF : Hid (r = oc) := Lib.hid (by rw [HE.out, d1, d2, d3]; simp)
          have D3 := Lib.hid d3
          clear HE d3
          go_enter Try.func56, Try.ntmps56
          go_wp2_with fail
          refine (HN.out _).mono ?_
          rintro e w1 ⟨rfl, rfl⟩
          rw [D3.out]
          go_wp2_with fail
          refine (HA.out _ NEW.out).mono ?_
          rintro e w1 ⟨rfl, hb1⟩
          have HB1 := Lib.hid (below_after NEW.out hb1)
          clear hb1
          go_wp2_with fail
          go_ret
          exact ⟨by rw [HF.out]; rfl, HB1.out⟩
  · have HN := Lib.hid (fun W => isnum_any s v.num v.den hs h5 W)
    have HE : Hid (gdV s v = (decide (v.cells.length = 0) && v.rest == 0 && gdN s v.num v.den)) := Lib.hid (by rw [gdv_n s v h5]; cases v.cells <;> simp)
    have t5 : (s == 5) = false := by simpa using h5
    unfold maxLen at hl
    generalize gdV s v = r at *
    generalize gdN s v.num v.den = g at *
    generalize v.cells.length = L at *
    generalize v.num = n at *
    generalize v.den = d at *
    generalize v.rest = z at *
    clear hs h h5
    by_cases hL : L = 0
    · subst hL
      cases d2 : z == 0 with
      | false =>
        have HF : Hid (r = false) := Lib.hid (by rw [HE.out, d2]; rfl)
        clear HE
        go_enter Try.func56, Try.ntmps56
        go_wp2_with fail
        go_ret
        exact ⟨by rw [HF.out]; rfl, NEW.out⟩
      | true =>
        have HF : Hid (r = g) := Lib.hid (by rw [HE.out, d2]; simp)
        clear HE
        go_enter Try.func56, Try.ntmps56
        go_wp2_with fail
        refine (HN.out _).mono ?_
        rintro e w1 ⟨rfl, hb1⟩
        have HB1 := Lib.hid (below_after NEW.out hb1)
        clear hb1
        go_wp2_with fail
        go_ret
        exact ⟨by rw [HF.out]; rfl, HB1.out⟩
    · have d1 : ((L : Int) == 0) = false := by simpa using hL
      have HF : Hid (r = false) := Lib.hid (by rw [HE.out]; simp [hL])
      clear HE hL
      go_enter Try.func56, Try.ntmps56
      go_wp2_with fail
      go_ret
      exact ⟨by rw [HF.out]; rfl, NEW.out⟩
end Go.Proofs.Ytjjjgffpmghfgaa
