/-
  Asks: the sort of a node, as the program tells it.
-/
import Derived.Test.YtjjjgffpmghfgaaAskG
namespace Go.Proofs.Ytjjjgffpmghfgaa
open Go.RowKit

/-- A sort, if it is allowed. -/
def whn (b : Bool) (s : Int) : Int := if b then s else 0
theorem whn_any (b : Bool) (s : Int) (w : World) : Calls Try.prog 73 #[.bool b, .int .i64 s] w fun e w' => e = .returned (.int .i64 (whn b s)) ∧ w = w' := when_any b s w
/-- The sort of a number, a sum or a product. -/
def numS (op d : Int) (ks : List Int) : Int := if (op ≠ 11 ∧ d ≠ 1) ∨ ks.all sIn = false then 3 else 2
/-- The sort of a node, by its kids' sorts; 0: one may not stand there. -/
def srt (op d ds : Int) (ks : List Int) : Int :=
  if op ≤ 6 then whn (ks.all sBo) 1
  else if op = 7 then whn (sBo (nth ks 0) && (nth ks 1 == nth ks 2) && (nth ks 1 != 5)) (nth ks 1)
  else if op = 8 then whn (ks.all sNu || ks.all sTh || sSw ks) 1
  else if op = 9 then whn (ks.all sTh) ds
  else if op ≤ 12 then whn (ks.all sNu) (numS op d ks)
  else if op ≤ 14 then whn (ks.all sNu) 1
  else if op = 15 then 10 + d
  else if op ≤ 21 ∨ op = 23 then whn (sSw ks) (nth ks 0)
  else if op = 22 then whn (sSw ks) 1
  else if op = 24 then whn ((nth ks 0 == 5) && sTh (nth ks 1)) 4
  else whn ((nth ks 0 == 5) && (sTh (nth ks 1) && sTh (nth ks 2))) 5
/-- How many kids an operator has; -1: any number. -/
def kcN (op : Int) : Int := if op ≤ 2 ∨ op = 10 ∨ op = 15 then 0 else if op = 3 ∨ op = 12 ∨ op = 16 ∨ op = 23 then 1 else if op = 7 ∨ op = 25 then 3 else if op = 4 ∨ op = 5 ∨ op = 11 then -1 else 2
theorem ag5 {w : World} {g : Nat} {a b c d e : Value} (h : HB w g 37 #[a, b, c, d, e]) : w.cell? ⟨g, 0, none⟩ = some a ∧ w.cell? ⟨g, 1, none⟩ = some b ∧ w.cell? ⟨g, 2, none⟩ = some c ∧ w.cell? ⟨g, 3, none⟩ = some d ∧ w.cell? ⟨g, 4, none⟩ = some e := h.five
set_option maxHeartbeats 1000000 in
theorem number_any (op n d : Int) (nm : ByteArray) (A0 : Option Addr) (k0 c0 : Nat) (ks : List Int) (A : Option Addr) (c : Nat) (hl : ks.length ≤ maxLen) (w : World) (h : Is w A ks) :
    Calls Try.prog 77 #[.agg #[.int .i64 op, .slice A0 k0 c0, .int .i64 n, .int .i64 d, .string nm], .slice A ks.length c] w fun e w' => e = .returned (.int .i64 (numS op d ks)) ∧ Below w.heap.size w w' := by
  have HV := Lib.hid (fun (W : World) (hW : Is W A ks) => everyint_any ks A c hl W hW)
  have HA := Lib.hid (h.below (new_below w (.cells #[.int .i64 op, .slice A0 k0 c0, .int .i64 n, .int .i64 d, .string nm] 37)))
  clear h hl
  generalize ks.length = L at *
  by_cases h1 : op ≠ 11 ∧ d ≠ 1
  · have d1 : (op != 11) = true := by simpa using h1.1
    have d2 : (d != 1) = true := by simpa using h1.2
    rw [show numS op d ks = 3 by unfold numS; rw [if_pos (.inl h1)]]
    clear h1
    go_enter Try.func77, Try.ntmps77
    go_wp2_with fail
    go_ret
    exact ⟨rfl, new_below _ _⟩
  · have HE : numS op d ks = if ks.all sIn = false then 3 else 2 := by unfold numS; simp only [h1, false_or]
    cases hq : ks.all sIn with
    | true =>
      have HQ := Lib.hid hq
      rw [HE, hq, if_neg (by decide)]
      clear HE hq
      by_cases h2 : op = 11
      · have d1 : (op != 11) = false := by simpa using h2
        clear h1 h2
        go_enter Try.func77, Try.ntmps77
        go_wp2_with fail
        refine (HV.out _ HA.out).mono ?_
        rintro e w1 ⟨rfl, hb1⟩
        have HB1 := Lib.hid (bw_below (Nat.le_refl _) (new_below w _) hb1)
        clear hb1
        rw [HQ.out]
        go_wp2_with fail
        go_ret
        exact ⟨rfl, HB1.out⟩
      · have d1 : (op != 11) = true := by simpa using h2
        have d2 : (d != 1) = false := by simp at h1; simpa using h1 h2
        clear h1 h2
        go_enter Try.func77, Try.ntmps77
        go_wp2_with fail
        refine (HV.out _ HA.out).mono ?_
        rintro e w1 ⟨rfl, hb1⟩
        have HB1 := Lib.hid (bw_below (Nat.le_refl _) (new_below w _) hb1)
        clear hb1
        rw [HQ.out]
        go_wp2_with fail
        go_ret
        exact ⟨rfl, HB1.out⟩
    | false =>
      have HQ := Lib.hid hq
      rw [HE, hq, if_pos rfl]
      clear HE hq
      by_cases h2 : op = 11
      · have d1 : (op != 11) = false := by simpa using h2
        clear h1 h2
        go_enter Try.func77, Try.ntmps77
        go_wp2_with fail
        refine (HV.out _ HA.out).mono ?_
        rintro e w1 ⟨rfl, hb1⟩
        have HB1 := Lib.hid (bw_below (Nat.le_refl _) (new_below w _) hb1)
        clear hb1
        rw [HQ.out]
        go_wp2_with fail
        go_ret
        exact ⟨rfl, HB1.out⟩
      · have d1 : (op != 11) = true := by simpa using h2
        have d2 : (d != 1) = false := by simp at h1; simpa using h1 h2
        clear h1 h2
        go_enter Try.func77, Try.ntmps77
        go_wp2_with fail
        refine (HV.out _ HA.out).mono ?_
        rintro e w1 ⟨rfl, hb1⟩
        have HB1 := Lib.hid (bw_below (Nat.le_refl _) (new_below w _) hb1)
        clear hb1
        rw [HQ.out]
        go_wp2_with fail
        go_ret
        exact ⟨rfl, HB1.out⟩
end Go.Proofs.Ytjjjgffpmghfgaa
