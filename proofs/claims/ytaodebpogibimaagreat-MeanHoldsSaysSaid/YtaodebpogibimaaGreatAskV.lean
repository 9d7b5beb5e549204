/-
  Asks: the letters that the reference goes by.
-/
import Derived.Test.YtaodebpogibimaaGreatG06
namespace Go.Proofs.YtaodebpogibimaaGreat
open Go.RowKit

/-- The letters of an operator's kids. -/
def wtB (op : Int) : ByteArray :=
  if op = 3 then ⟨#[98]⟩ else
  if op = 4 then ⟨#[98, 42]⟩ else
  if op = 5 then ⟨#[98, 42]⟩ else
  if op = 6 then ⟨#[98, 98]⟩ else
  if op = 7 then ⟨#[98, 120, 121]⟩ else
  if op = 8 then ⟨#[63, 63]⟩ else
  if op = 11 then ⟨#[110, 42]⟩ else
  if op = 12 then ⟨#[110]⟩ else
  if op = 13 then ⟨#[110, 110]⟩ else
  if op = 14 then ⟨#[110, 110]⟩ else
  if op = 16 then ⟨#[119]⟩ else
  if op = 17 then ⟨#[119, 119]⟩ else
  if op = 18 then ⟨#[119, 119]⟩ else
  if op = 19 then ⟨#[119, 119]⟩ else
  if op = 20 then ⟨#[119, 119]⟩ else
  if op = 21 then ⟨#[119, 119]⟩ else
  if op = 22 then ⟨#[119, 119]⟩ else
  if op = 23 then ⟨#[119]⟩ else
  if op = 24 then ⟨#[97, 116]⟩ else
  if op = 25 then ⟨#[97, 116, 116]⟩ else
  ⟨#[]⟩
/-- May a kid of a sort stand for a letter? -/
def ftC (c s : Int) : Bool := if c = 98 then sBo s else if c = 110 then sNu s else if c = 116 then sTh s else if c = 97 then s == 5 else if c = 119 then decide (0 < wBits s) else true
set_option maxHeartbeats 4000000 in
theorem wants_any (op : Int) (h1 : 1 ≤ op) (h2 : op ≤ 25) (w : World) : Calls Tryz.prog 90 #[.int .i64 op] w fun e w' => e = .returned (.string (wtB op)) ∧ Below w.heap.size w w' := by
  rcases op_cases h1 h2 with rfl | rfl | rfl | rfl | rfl | rfl | rfl | rfl | rfl | rfl | rfl | rfl | rfl | rfl | rfl | rfl | rfl | rfl | rfl | rfl | rfl | rfl | rfl | rfl | rfl
  · rw [show wtB 1 = ⟨#[]⟩ by decide]
    clear h1 h2
    go_enter Tryz.func90, Tryz.ntmps90
    go_wp2_with fail
    go_ret
    exact ⟨rfl, new_below _ _⟩
  · rw [show wtB 2 = ⟨#[]⟩ by decide]
    clear h1 h2
    go_enter Tryz.func90, Tryz.ntmps90
    go_wp2_with fail
    go_ret
    exact ⟨rfl, new_below _ _⟩
  · rw [show wtB 3 = ⟨#[98]⟩ by decide]
    clear h1 h2
    go_enter Tryz.func90, Tryz.ntmps90
    go_wp2_with fail
    go_ret
    exact ⟨rfl, new_below _ _⟩
  · rw [show wtB 4 = ⟨#[98, 42]⟩ by decide]
    clear h1 h2
    go_enter Tryz.func90, Tryz.ntmps90
    go_wp2_with fail
    go_ret
    exact ⟨rfl, new_below _ _⟩
  · rw [show wtB 5 = ⟨#[98, 42]⟩ by decide]
    clear h1 h2
    go_enter Tryz.func90, Tryz.ntmps90
    go_wp2_with fail
    go_ret
    exact ⟨rfl, new_below _ _⟩
  · rw [show wtB 6 = ⟨#[98, 98]⟩ by decide]
    clear h1 h2
    go_enter Tryz.func90, Tryz.ntmps90
    go_wp2_with fail
    go_ret
    exact ⟨rfl, new_below _ _⟩
  · rw [show wtB 7 = ⟨#[98, 120, 121]⟩ by decide]
    clear h1 h2
    go_enter Tryz.func90, Tryz.ntmps90
    go_wp2_with fail
    go_ret
    exact ⟨rfl, new_below _ _⟩
  · rw [show wtB 8 = ⟨#[63, 63]⟩ by decide]
    clear h1 h2
    go_enter Tryz.func90, Tryz.ntmps90
    go_wp2_with fail
    go_ret
    exact ⟨rfl, new_below _ _⟩
  · rw [show wtB 9 = ⟨#[]⟩ by decide]
    clear h1 h2
    go_enter Tryz.func90, Tryz.ntmps90
    go_wp2_with fail
    go_ret
    exact ⟨rfl, new_below _ _⟩
  · rw [show wtB 10 = ⟨#[]⟩ by decide]
    clear h1 h2
    go_enter Tryz.func90, Tryz.ntmps90
    go_wp2_with fail
    go_ret
    exact ⟨rfl, new_below _ _⟩
  · rw [show wtB 11 = ⟨#[110, 42]⟩ by decide]
    clear h1 h2
    go_enter Tryz.func90, Tryz.ntmps90
    go_wp2_with fail
    go_ret
    exact ⟨rfl, new_below _ _⟩
  · rw [show wtB 12 = ⟨#[110]⟩ by decide]
    clear h1 h2
    go_enter Tryz.func90, Tryz.ntmps90
    go_wp2_with fail
    go_ret
    exact ⟨rfl, new_below _ _⟩
  · rw [show wtB 13 = ⟨#[110, 110]⟩ by decide]
    clear h1 h2
    go_enter Tryz.func90, Tryz.ntmps90
    go_wp2_with fail
    go_ret
    exact ⟨rfl, new_below _ _⟩
  · rw [show wtB 14 = ⟨#[110, 110]⟩ by decide]
    clear h1 h2
    go_enter Tryz.func90, Tryz.ntmps90
    go_wp2_with fail
    go_ret
    exact ⟨rfl, new_below _ _⟩
  · rw [show wtB 15 = ⟨#[]⟩ by decide]
    clear h1 h2
    go_enter Tryz.func90, Tryz.ntmps90
    go_wp2_with fail
    go_ret
    exact ⟨rfl, new_below _ _⟩
  · rw [show wtB 16 = ⟨#[119]⟩ by decide]
    clear h1 h2
    go_enter Tryz.func90, Tryz.ntmps90
    go_wp2_with fail
    go_ret
    exact ⟨rfl, new_below _ _⟩
  · rw [show wtB 17 = ⟨#[119, 119]⟩ by decide]
    clear h1 h2
    go_enter Tryz.func90, Tryz.ntmps90
    go_wp2_with fail
    go_ret
    exact ⟨rfl, new_below _ _⟩
  · rw [show wtB 18 = ⟨#[119, 119]⟩ by decide]
    clear h1 h2
    go_enter Tryz.func90, Tryz.ntmps90
    go_wp2_with fail
    go_ret
    exact ⟨rfl, new_below _ _⟩
  · rw [show wtB 19 = ⟨#[119, 119]⟩ by decide]
    clear h1 h2
    go_enter Tryz.func90, Tryz.ntmps90
    go_wp2_with fail
    go_ret
    exact ⟨rfl, new_below _ _⟩
  · rw [show wtB 20 = ⟨#[119, 119]⟩ by decide]
    clear h1 h2
    go_enter Tryz.func90, Tryz.ntmps90
    go_wp2_with fail
    go_ret
    exact ⟨rfl, new_below _ _⟩
  · rw [show wtB 21 = ⟨#[119, 119]⟩ by decide]
    clear h1 h2
    go_enter Tryz.func90, Tryz.ntmps90
    go_wp2_with fail
    go_ret
    exact ⟨rfl, new_below _ _⟩
  · rw [show wtB 22 = ⟨#[119, 119]⟩ by decide]
    clear h1 h2
    go_enter Tryz.func90, Tryz.ntmps90
    go_wp2_with fail
    go_ret
    exact ⟨rfl, new_below _ _⟩
  · rw [show wtB 23 = ⟨#[119]⟩ by decide]
    clear h1 h2
    go_enter Tryz.func90, Tryz.ntmps90
    go_wp2_with fail
    go_ret
    exact ⟨rfl, new_below _ _⟩
  · rw [show wtB 24 = ⟨#[97, 116]⟩ by decide]
    clear h1 h2
    go_enter Tryz.func90, Tryz.ntmps90
    go_wp2_with fail
    go_ret
    exact ⟨rfl, new_below _ _⟩
  · rw [show wtB 25 = ⟨#[97, 116, 116]⟩ by decide]
    clear h1 h2
    go_enter Tryz.func90, Tryz.ntmps90
    go_wp2_with fail
    go_ret
    exact ⟨rfl, new_below _ _⟩
set_option maxHeartbeats 1000000 in
theorem fits_any (c s : Int) (w : World) : Calls Tryz.prog 92 #[.int .u8 c, .int .i64 s] w fun e w' => e = .returned (.bool (ftC c s)) ∧ w = w' := by
  unfold ftC
  by_cases h0 : c = 98
  · rw [if_pos h0]
    subst h0
    go_enter Tryz.func92, Tryz.ntmps92
    go_wp2_with fail
    go_ret
    exact ⟨rfl, rfl⟩
  · rw [if_neg h0]
    have d0 : (c == 98) = false := by simpa using h0
    by_cases h1 : c = 110
    · rw [if_pos h1]
      subst h1
      go_enter Tryz.func92, Tryz.ntmps92
      go_wp2_with fail
      refine (isnumber_any s _).mono ?_
      rintro e w1 ⟨rfl, rfl⟩
      go_wp2_with fail
      go_ret
      exact ⟨rfl, rfl⟩
    · rw [if_neg h1]
      have d1 : (c == 110) = false := by simpa using h1
      by_cases h2 : c = 116
      · rw [if_pos h2]
        subst h2
        go_enter Tryz.func92, Tryz.ntmps92
        go_wp2_with fail
        go_ret
        exact ⟨rfl, rfl⟩
      · rw [if_neg h2]
        have d2 : (c == 116) = false := by simpa using h2
        by_cases h3 : c = 97
        · rw [if_pos h3]
          subst h3
          go_enter Tryz.func92, Tryz.ntmps92
          go_wp2_with fail
          go_ret
          exact ⟨rfl, rfl⟩
        · rw [if_neg h3]
          have d3 : (c == 97) = false := by simpa using h3
          by_cases h4 : c = 119
          · rw [if_pos h4]
            subst h4
            go_enter Tryz.func92, Tryz.ntmps92
            go_wp2_with fail
            refine (wordbits_any s _).mono ?_
            rintro e w1 ⟨rfl, rfl⟩
            go_wp2_with fail
            go_ret
            exact ⟨rfl, rfl⟩
          · rw [if_neg h4]
            have d4 : (c == 119) = false := by simpa using h4
            clear h0 h1 h2 h3 h4
            go_enter Tryz.func92, Tryz.ntmps92
            go_wp2_with fail
            go_ret
            exact ⟨rfl, rfl⟩
end Go.Proofs.YtaodebpogibimaaGreat
