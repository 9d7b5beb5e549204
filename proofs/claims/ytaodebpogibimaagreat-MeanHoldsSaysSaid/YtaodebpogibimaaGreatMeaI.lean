/-
  Worlds, by the reference: values of a sort.
-/
import Derived.Test.YtaodebpogibimaaGreatG09
namespace Go.Proofs.YtaodebpogibimaaGreat
open Go.RowKit

/-- What stands before a cell. -/
def lastC (cs : List (Int × Int)) (i : Nat) : Int := if i = 0 then -1 else (cn cs (i - 1)).1
theorem lastC_succ (cs : List (Int × Int)) (i : Nat) : lastC cs (i + 1) = (cn cs i).1 := by simp [lastC]
theorem okCs_step {rest last : Int} {cs : List (Int × Int)} {i : Nat} (h : i < cs.length) : okCs rest last (cs.drop i) = (!decide ((cn cs i).1 ≤ last) && !nTh (cn cs i).1 && !nTh (cn cs i).2 && !((cn cs i).2 == rest) && okCs rest (cn cs i).1 (cs.drop (i + 1))) := by rw [drop_cn h]; rfl
set_option maxRecDepth 100000 in
set_option maxHeartbeats 8000000 in
theorem goodarray_any (v : Vl) (A : Option Addr) (c : Nat) (hl : v.cells.length ≤ maxLen) (w : World) (h : CsAt w A v.cells) :
    Calls Tryz.prog 118 #[.agg #[.int .i64 v.num, .int .i64 v.den, .slice A v.cells.length c, .int .i64 v.rest]] w fun e w' => e = .returned (.bool (gdV 5 v)) ∧ Below w.heap.size w w' := by
  have HA := Lib.hid h
  have NEW := Lib.hid (new_below w (.cells #[.int .i64 v.num, .int .i64 v.den, .slice A v.cells.length c, .int .i64 v.rest] 47))
  have HV0 := Lib.hid (HB.new w 47 #[.int .i64 v.num, .int .i64 v.den, .slice A v.cells.length c, .int .i64 v.rest])
  have HE : Hid (gdV 5 v = (v.num == 0 && v.den == 0 && !nTh v.rest && okCs v.rest (-1) v.cells)) := Lib.hid (gdv_5 v)
  have HR := Lib.hid (fun W => isthingR_any v.rest W)
  unfold maxLen at hl
  generalize gdV 5 v = r at *
  generalize hcs : v.cells = cs at *
  generalize hL : cs.length = L at *
  have HL := Lib.hid hL
  generalize v.num = n at *
  generalize v.den = d at *
  generalize v.rest = z at *
  clear h hL hcs
  cases d1 : n == 0 with
  | false =>
    have t1 : (n != 0) = true := by simp at d1 ⊢; exact d1
    have HF : Hid (r = false) := Lib.hid (by rw [HE.out, d1]; rfl)
    clear HE d1
    go_enter Tryz.func118, Tryz.ntmps118
    go_wp2_with fail
    go_ret
    exact ⟨by rw [HF.out]; rfl, NEW.out⟩
  | true =>
    have t1 : (n != 0) = false := by simp at d1 ⊢; exact d1
    cases d2 : d == 0 with
    | false =>
      have t2 : (d != 0) = true := by simp at d2 ⊢; exact d2
      have HF : Hid (r = false) := Lib.hid (by rw [HE.out, d1, d2]; rfl)
      clear HE d1 d2
      go_enter Tryz.func118, Tryz.ntmps118
      go_wp2_with fail
      go_ret
      exact ⟨by rw [HF.out]; rfl, NEW.out⟩
    | true =>
      have t2 : (d != 0) = false := by simp at d2 ⊢; exact d2
      cases d3 : nTh z with
      | true =>
        have HF : Hid (r = false) := Lib.hid (by rw [HE.out, d1, d2, d3]; rfl)
        have D3 := Lib.hid d3
        clear HE d1 d2 d3
        go_enter Tryz.func118, Tryz.ntmps118
        go_wp2_with fail
        refine (HR.out _).mono ?_
        rintro e w1 ⟨rfl, rfl⟩
        rw [D3.out]
        go_wp2_with fail
        go_ret
        exact ⟨by rw [HF.out]; rfl, NEW.out⟩
      | false =>
        have HF : Hid (r = okCs z (-1) cs) := Lib.hid (by rw [HE.out, d1, d2, d3]; simp)
        have D3 := Lib.hid d3
        clear HE d1 d2 d3
        go_enter Tryz.func118, Tryz.ntmps118
        go_wp2_with fail
        refine (HR.out _).mono ?_
        rintro e w1 ⟨rfl, rfl⟩
        rw [D3.out]
        go_wp2_with fail
        go_loopw [3] (fun k wr => ∃ i : Nat, i ≤ L ∧ k = .int .i64 i ∧ Hid (r = okCs z (lastC cs i) (cs.drop i)) ∧ Hid (Below w.heap.size w wr) ∧ Hid (HB wr w.heap.size 47 #[.int .i64 n, .int .i64 d, .slice A L c, .int .i64 z])) (fun k _ => L - (intOf k).toNat)
        case atStart => exact ⟨0, by omega, rfl, HF, NEW, HV0⟩
        case round =>
          obtain ⟨i, hi, rfl, HP, HB1, HV1⟩ := hrel
          obtain ⟨v0, v1, v2, v3, _⟩ := HV1.out.four
          have lv := HV1.out.lt
          by_cases hlt : i < L
          · have t3 : decide ((i : Int) < L) = true := by simpa using hlt
            have HC := Lib.hid (HA.out.below HB1.out)
            obtain ⟨b, o, hAe, hb, c0, c1⟩ := cs_at (i := i) HC.out (by rw [HL.out]; exact hlt)
            subst hAe
            have HS : Hid (r = (!decide ((cn cs i).1 ≤ lastC cs i) && !nTh (cn cs i).1 && !nTh (cn cs i).2 && !((cn cs i).2 == z) && okCs z (cn cs i).1 (cs.drop (i + 1)))) := Lib.hid (by rw [HP.out]; exact okCs_step (by rw [HL.out]; exact hlt))
            have HT : Hid (r = okCs z (cn cs i).1 (cs.drop (i + 1)) → r = okCs z (lastC cs (i + 1)) (cs.drop (i + 1))) := Lib.hid (fun h => by rw [lastC_succ]; exact h)
            by_cases h0 : i = 0
            · subst h0
              have H0 : Hid (lastC cs 0 = -1) := Lib.hid rfl
              clear hi
              generalize okCs z (cn cs 0).1 (cs.drop (0 + 1)) = nx at *
              generalize (cn cs 0).1 = x at *
              generalize (cn cs 0).2 = y at *
              rw [Nat.zero_mul, Nat.add_zero] at c0 c1
              have N1 := Lib.hid (fun W => isthingR_any x W)
              have N2 := Lib.hid (fun W => isthingR_any y W)
              cases d4 : nTh x with
              | true =>
                have Q1 : Hid (∀ W, Calls Tryz.prog 86 #[.int .i64 x] W fun e w' => e = .returned (.bool false) ∧ w' = W) := Lib.hid (fun W => by have := N1.out W; rw [d4] at this; exact this)
                have Q2 := N2
                have HZ : Hid (r = false) := Lib.hid (by rw [HS.out, d4]; simp)
                clear HS
                go_wp2_with fail
                go_quiet ((first | (go_at_call 86; exact Calls.quiet_of_same (Q1.out _)) | (go_at_call 86; exact Calls.quiet_of_same (Q2.out _))))
                go_wp2_with fail
                go_ret
                exact ⟨by rw [HZ.out]; rfl, below_dn (below_after HB1.out (new_below _ _)) _⟩
              | false =>
                have Q1 : Hid (∀ W, Calls Tryz.prog 86 #[.int .i64 x] W fun e w' => e = .returned (.bool true) ∧ w' = W) := Lib.hid (fun W => by have := N1.out W; rw [d4] at this; exact this)
                have X0 : Hid (decide (x ≤ -1) = false) := Lib.hid (by unfold nTh at d4; simp at d4 ⊢; omega)
                cases d5 : nTh y with
                | true =>
                  have Q2 : Hid (∀ W, Calls Tryz.prog 86 #[.int .i64 y] W fun e w' => e = .returned (.bool false) ∧ w' = W) := Lib.hid (fun W => by have := N2.out W; rw [d5] at this; exact this)
                  have HZ : Hid (r = false) := Lib.hid (by rw [HS.out, d5]; simp)
                  clear HS
                  go_wp2_with fail
                  go_quiet ((first | (go_at_call 86; exact Calls.quiet_of_same (Q1.out _)) | (go_at_call 86; exact Calls.quiet_of_same (Q2.out _))))
                  go_wp2_with fail
                  go_ret
                  exact ⟨by rw [HZ.out]; rfl, below_dn (below_after HB1.out (new_below _ _)) _⟩
                | false =>
                  have Q2 : Hid (∀ W, Calls Tryz.prog 86 #[.int .i64 y] W fun e w' => e = .returned (.bool true) ∧ w' = W) := Lib.hid (fun W => by have := N2.out W; rw [d5] at this; exact this)
                  cases d6 : y == z with
                  | true =>
                    have HZ : Hid (r = false) := Lib.hid (by rw [HS.out, d6]; simp)
                    clear HS
                    go_wp2_with fail
                    go_quiet ((first | (go_at_call 86; exact Calls.quiet_of_same (Q1.out _)) | (go_at_call 86; exact Calls.quiet_of_same (Q2.out _))))
                    go_wp2_with fail
                    go_ret
                    exact ⟨by rw [HZ.out]; rfl, below_dn (below_after HB1.out (new_below _ _)) _⟩
                  | false =>
                    have HZ : Hid (r = nx) := Lib.hid (by rw [HS.out, d4, d5, d6, H0.out, X0.out]; simp)
                    clear HS
                    go_wp2_with fail
                    go_quiet ((first | (go_at_call 86; exact Calls.quiet_of_same (Q1.out _)) | (go_at_call 86; exact Calls.quiet_of_same (Q2.out _))))
                    go_wp2_with fail
                    go_round
                    case rel => exact ⟨1, by omega, by go_num, HT.out HZ.out, Lib.hid (below_dn (below_after HB1.out (new_below _ _)) _), Lib.hid ((HV1.out.alloc _).drewN _)⟩
                    case measure => simp [intOf]; omega
            · obtain ⟨j, rfl⟩ : ∃ j, i = j + 1 := ⟨i - 1, by omega⟩
              obtain ⟨b', o', hAe, _, p0, _⟩ := cs_at (i := j) HC.out (by rw [HL.out]; omega)
              injection hAe with hAe
              injection hAe with e1 e2
              subst e1 e2
              have H0 : Hid (lastC cs (j + 1) = (cn cs j).1) := Lib.hid (lastC_succ cs j)
              have e3 : ((j + 1 : Nat) : Int) - 1 = j := by omega
              have HE3 := Lib.hid e3
              clear e3 h0
              generalize okCs z (cn cs (j + 1)).1 (cs.drop (j + 1 + 1)) = nx at *
              generalize (cn cs (j + 1)).1 = x at *
              generalize (cn cs (j + 1)).2 = y at *
              generalize (cn cs j).1 = pv at *
              have N1 := Lib.hid (fun W => isthingR_any x W)
              have N2 := Lib.hid (fun W => isthingR_any y W)
              cases d4 : nTh x with
              | true =>
                have Q1 : Hid (∀ W, Calls Tryz.prog 86 #[.int .i64 x] W fun e w' => e = .returned (.bool false) ∧ w' = W) := Lib.hid (fun W => by have := N1.out W; rw [d4] at this; exact this)
                have Q2 := N2
                have HZ : Hid (r = false) := Lib.hid (by rw [HS.out, d4]; simp)
                clear HS
                go_wp2_with fail
                go_quiet ((first | (go_at_call 86; exact Calls.quiet_of_same (Q1.out _)) | (go_at_call 86; exact Calls.quiet_of_same (Q2.out _))))
                go_wp2_with fail
                go_ret
                exact ⟨by rw [HZ.out]; rfl, below_dn (below_after HB1.out (new_below _ _)) _⟩
              | false =>
                have Q1 : Hid (∀ W, Calls Tryz.prog 86 #[.int .i64 x] W fun e w' => e = .returned (.bool true) ∧ w' = W) := Lib.hid (fun W => by have := N1.out W; rw [d4] at this; exact this)
                cases d5 : nTh y with
                | true =>
                  have Q2 : Hid (∀ W, Calls Tryz.prog 86 #[.int .i64 y] W fun e w' => e = .returned (.bool false) ∧ w' = W) := Lib.hid (fun W => by have := N2.out W; rw [d5] at this; exact this)
                  have HZ : Hid (r = false) := Lib.hid (by rw [HS.out, d5]; simp)
                  clear HS
                  go_wp2_with fail
                  go_quiet ((first | (go_at_call 86; exact Calls.quiet_of_same (Q1.out _)) | (go_at_call 86; exact Calls.quiet_of_same (Q2.out _))))
                  go_wp2_with fail
                  go_ret
                  exact ⟨by rw [HZ.out]; rfl, below_dn (below_after HB1.out (new_below _ _)) _⟩
                | false =>
                  have Q2 : Hid (∀ W, Calls Tryz.prog 86 #[.int .i64 y] W fun e w' => e = .returned (.bool true) ∧ w' = W) := Lib.hid (fun W => by have := N2.out W; rw [d5] at this; exact this)
                  cases d6 : y == z with
                  | true =>
                    have HZ : Hid (r = false) := Lib.hid (by rw [HS.out, d6]; simp)
                    clear HS
                    go_wp2_with fail
                    go_quiet ((first | (go_at_call 86; exact Calls.quiet_of_same (Q1.out _)) | (go_at_call 86; exact Calls.quiet_of_same (Q2.out _))))
                    go_wp2_with fail
                    go_ret
                    exact ⟨by rw [HZ.out]; rfl, below_dn (below_after HB1.out (new_below _ _)) _⟩
                  | false =>
                    cases d7 : decide (x ≤ pv) with
                    | true =>
                      have HZ : Hid (r = false) := Lib.hid (by rw [HS.out, H0.out, d7]; simp)
                      clear HS
                      go_wp2_with fail
                      go_quiet ((first | (go_at_call 86; exact Calls.quiet_of_same (Q1.out _)) | (go_at_call 86; exact Calls.quiet_of_same (Q2.out _))))
                      go_wp2_with fail
                      go_ret
                      exact ⟨by rw [HZ.out]; rfl, below_dn (below_after HB1.out (new_below _ _)) _⟩
                    | false =>
                      have HZ : Hid (r = nx) := Lib.hid (by rw [HS.out, d4, d5, d6, H0.out, d7]; simp)
                      clear HS
                      go_wp2_with fail
                      go_quiet ((first | (go_at_call 86; exact Calls.quiet_of_same (Q1.out _)) | (go_at_call 86; exact Calls.quiet_of_same (Q2.out _))))
                      go_wp2_with fail
                      go_round
                      case rel => exact ⟨j + 1 + 1, by omega, by go_num, HT.out HZ.out, Lib.hid (below_dn (below_after HB1.out (new_below _ _)) _), Lib.hid ((HV1.out.alloc _).drewN _)⟩
                      case measure => simp [intOf]; omega
          · obtain rfl : i = L := by omega
            have t3 : decide ((i : Int) < i) = false := by simp
            have HZ : Hid (r = true) := Lib.hid (by rw [HP.out, List.drop_of_length_le (by rw [HL.out]; exact Nat.le_refl _)]; rfl)
            go_wp2_with fail
            go_ret
            exact ⟨by rw [HZ.out]; rfl, HB1.out⟩
end Go.Proofs.YtaodebpogibimaaGreat
