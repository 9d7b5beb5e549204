/-
  Values of nodes: the last Bools of an ask; the values of nodes behind it.
-/
import Derived.Test.YtcpeddogckillaaGreatMevH
namespace Go.Proofs.YtcpeddogckillaaGreat
open Go.RowKit

/-- The last two places of Bools. -/
def LbI (ss : List Int) (i : Nat) (x y : Int) : Prop := (x = -1 ∧ y = -1) ∨ (0 ≤ y ∧ y < i ∧ nth ss y.toNat = 1 ∧ (x = -1 ∨ (0 ≤ x ∧ x < y ∧ nth ss x.toNat = 1)))
theorem lb_step {ss : List Int} {i : Nat} {x y : Int} (h : LbI ss i x y) : (nth ss i = 1 → LbI ss (i + 1) y i) ∧ LbI ss (i + 1) x y := by
  unfold LbI at *
  constructor
  · intro hi
    refine .inr ⟨by omega, by omega, by simpa using hi, ?_⟩
    rcases h with ⟨_, h⟩ | ⟨h1, h2, h3, _⟩
    · exact .inl h
    · exact .inr ⟨h1, h2, h3⟩
  · rcases h with h | ⟨h1, h2, h3, h4⟩
    · exact .inl h
    · exact .inr ⟨h1, by omega, h3, h4⟩
def LbQ (ss : List Int) (nl : Nat) (w : World) (e : Ending) (w' : World) : Prop := ∃ x y : Int, e = .returned (.tuple #[.int .i64 x, .int .i64 y, .bool (decide (0 ≤ x))]) ∧ Hid (LbI ss nl x y) ∧ Below w.heap.size w w'
set_option maxRecDepth 100000 in
set_option maxHeartbeats 4000000 in
theorem lastbools_any (ss : List Int) (Ad An Ah : Option Addr) (dl dc nl nc hl hc : Nat) (hsl : ss.length = nl) (hnl : nl ≤ 200) (w : World) (HS : ∀ W, Below w.heap.size w W → Calls Tryz.prog 15 #[.agg #[.slice Ad dl dc, .slice An nl nc, .slice Ah hl hc]] W (GivesS ss 0 0 W)) :
    Calls Tryz.prog 17 #[.agg #[.slice Ad dl dc, .slice An nl nc, .slice Ah hl hc]] w (LbQ ss nl w) := by
  have XS := Lib.hid HS
  have HSL := Lib.hid hsl
  have B0 := Lib.hid (new_below w (.cells #[.slice Ad dl dc, .slice An nl nc, .slice Ah hl hc] 26))
  have N0 := Lib.hid (HB.new w 26 #[.slice Ad dl dc, .slice An nl nc, .slice Ah hl hc])
  clear HS hsl
  unfold GivesS at XS
  generalize hQ : LbQ ss nl w = Q0 at *
  have HQ0 := Lib.hid (fun e w' (z : LbQ ss nl w e w') => (show Q0 e w' by rw [← hQ]; exact z))
  clear hQ
  go_enter Tryz.func17, Tryz.ntmps17
  go_wp2_with fail
  refine (XS.out _ B0.out).mono ?_
  rintro e w1 ⟨S, sc, rfl, is1, l1, m1, hb1⟩
  rw [HSL.out] at l1 ⊢
  have N1 := Lib.hid ((N0.out.below hb1).alloc (.cells #[.int .i64 0, .int .i64 0] 30))
  have R1 := Lib.hid (HB.new w1 30 #[.int .i64 0, .int .i64 0])
  have B1 := Lib.hid (below_after (below_after B0.out hb1) (new_below w1 (.cells #[.int .i64 0, .int .i64 0] 30)))
  have I1 := Lib.hid (is1.is.below (new_below w1 (.cells #[.int .i64 0, .int .i64 0] 30)))
  clear is1 hb1 XS N0 B0
  obtain ⟨a0, a1, a2, -⟩ := N1.out.three
  obtain ⟨r0, r1, -⟩ := R1.out.two
  go_wp2_with fail
  go_loopw [7, 8, 9] (fun vx vy k wr => ∃ (i : Nat) (x y : Int), i ≤ nl ∧ k = .int .i64 i ∧ vx = .int .i64 x ∧ vy = .int .i64 y ∧ Hid (LbI ss i x y) ∧ wr = w1.alloc (.cells #[.int .i64 0, .int .i64 0] 30)) (fun _ _ k _ => nl - (intOf k).toNat)
  case atStart => exact ⟨0, -1, -1, by omega, rfl, rfl, rfl, Lib.hid (.inl ⟨rfl, rfl⟩), rfl⟩
  case round =>
    obtain ⟨i, x, y, hi, rfl, rfl, rfl, HL, rfl⟩ := hrel
    by_cases hlt : i < nl
    · have t3 : decide ((i : Int) < nl) = true := by simpa using hlt
      obtain ⟨b, o, rfl, hb, s0⟩ := is_at (i := i) I1.out (by rw [HSL.out]; exact hlt)
      obtain ⟨g1, g2⟩ := lb_step HL.out
      have G1 := Lib.hid g1
      have G2 := Lib.hid g2
      have l0 : (i : Int) < nl := by omega
      clear g1 g2
      by_cases hs : nth ss i = 1
      · have G3 := Lib.hid (G1.out hs)
        rw [hs] at s0
        clear hs
        go_wp2_with fail
        go_round
        case rel => exact ⟨i + 1, y, i, by omega, by go_num, rfl, rfl, G3, trivial⟩
        case measure => simp [intOf]; omega
      · have ts : (nth ss i == 1) = false := by simpa using hs
        clear hs
        go_wp2_with fail
        go_round
        case rel => exact ⟨i + 1, x, y, by omega, by go_num, rfl, rfl, G2, trivial⟩
        case measure => simp [intOf]; omega
    · obtain rfl : i = nl := by omega
      have t3 : decide ((i : Int) < i) = false := by simp
      have FIN := Lib.hid (HQ0.out _ _ ⟨x, y, rfl, HL, B1.out⟩)
      clear HQ0
      by_cases hx : 0 ≤ x
      · have tx : decide (0 ≤ x) = true := by simpa using hx
        rw [tx] at FIN
        go_wp2_with fail
        first | exact FIN.out | exact bodyPost_ret (v := .tuple #[.int .i64 x, .int .i64 y, .bool true]) (by simp [results, Tryz.results17, go_sem]) rfl FIN.out | (go_ret3; exact FIN.out)
      · have tx : decide (0 ≤ x) = false := by simpa using hx
        rw [tx] at FIN
        go_wp2_with fail
        first | exact FIN.out | exact bodyPost_ret (v := .tuple #[.int .i64 x, .int .i64 y, .bool false]) (by simp [results, Tryz.results17, go_sem]) rfl FIN.out | (go_ret3; exact FIN.out)
-- the values, each by those of its kids
theorem vals_pre {ev : Nat → List Vl → Vl × Int} : ∀ {n : Nat} {vs : List Vl}, valsE ev n = .ok vs → ∀ k, k ≤ n → valsE ev k = .ok (vs.take k) := by
  intro n
  induction n with
  | zero =>
    intro vs h k hk
    obtain rfl : k = 0 := by omega
    injection h with h
    subst h
    rfl
  | succ n ih =>
    intro vs h k hk
    rw [valsE_succ] at h
    cases hp : valsE ev n with
    | error e => rw [hp] at h; cases h
    | ok us =>
      rw [hp] at h
      dsimp only at h
      split at h
      · rename_i h0
        injection h with h
        subst h
        have hl := valsE_len hp
        rcases Nat.lt_or_ge k (n + 1) with z | z
        · rw [List.take_append_of_le_length (by omega)]
          exact ih hp k (by omega)
        · obtain rfl : k = n + 1 := by omega
          rw [List.take_of_length_le (by rw [List.length_append, hl]; exact Nat.le_refl _), valsE_succ, hp]
          dsimp only
          rw [if_pos h0]
      · cases h
theorem vals_at {ev : Nat → List Vl → Vl × Int} {n : Nat} {vs : List Vl} (h : valsE ev n = .ok vs) {i : Nat} (hi : i < n) : vn vs i = (ev i (vs.take i)).1 := by
  have h1 := vals_pre h (i + 1) (by omega)
  rw [valsE_succ, vals_pre h i (by omega)] at h1
  dsimp only at h1
  split at h1
  · injection h1 with h1
    have hl := valsE_len h
    have e : vn (vs.take i ++ [(ev i (vs.take i)).1]) i = vn (vs.take (i + 1)) i := by rw [h1]
    have e1 : vn (vs.take i ++ [(ev i (vs.take i)).1]) i = (ev i (vs.take i)).1 := by
      unfold vn
      rw [List.getD_eq_getElem?_getD, List.getElem?_append_right (by rw [List.length_take]; omega), List.length_take]
      simp [Nat.min_eq_left (by omega : i ≤ vs.length)]
    have e2 : vn (vs.take (i + 1)) i = vn vs i := by
      unfold vn
      rw [List.getD_eq_getElem?_getD, List.getD_eq_getElem?_getD, List.getElem?_take_of_lt (by omega)]
    rw [e1, e2] at e
    exact e.symm
  · cases h1
theorem node_val {qs : List Dc} {ns : List Nd} {ms : List Mg} {n : Nat} {vs : List Vl} (h : valsE (evOf qs ns ms) n = .ok vs) {i : Nat} (hi : i < n) (hk : ∀ k ∈ (nn ns i).kids, 0 ≤ k ∧ k < i) :
    vn vs i = (evV (nn ns i).op (nth (srtL qs ns ns.length) i) (nn ns i).n (nn ns i).d (mn ms (fdI qs (nn ns i).name)) ((nn ns i).kids.map fun k => vn vs k.toNat)).1 := by
  rw [vals_at h hi]
  unfold evOf
  have e : kidsV ns i (vs.take i) = (nn ns i).kids.map fun k => vn vs k.toNat := by
    unfold kidsV
    apply List.map_congr_left
    intro k hk'
    have := hk k hk'
    unfold vn
    rw [List.getD_eq_getElem?_getD, List.getD_eq_getElem?_getD, List.getElem?_take_of_lt (by omega)]
  rw [e]
/-- A Bool's value. -/
theorem bool_val {v : Vl} (h : gdV 1 v = true) : v = whV 0 ∨ v = whV 1 := by
  obtain ⟨a, b, c⟩ := (gdv_w (by decide)).1 h
  obtain ⟨_, d⟩ := gdn_iff.1 c
  obtain ⟨n, dd, cs, r⟩ := v
  dsimp only at a b d
  subst a b
  rcases d with d | ⟨rfl, d | ⟨d1, d2⟩⟩
  · exact absurd d (by decide)
  · exact absurd d (by decide)
  · have e : grt 1 = 1 := rfl
    rw [e] at d2
    have : n = 0 ∨ n = 1 := by omega
    rcases this with rfl | rfl
    · exact .inl rfl
    · exact .inr rfl
theorem nn_of_app {ns ls : List Nd} {j : Nat} : nn (ns ++ ls) (ns.length + j) = nn ls j := by
  unfold nn
  rw [List.getD_eq_getElem?_getD, List.getD_eq_getElem?_getD, List.getElem?_append_right (by omega)]
  congr 2
  omega
theorem nth_of_app {xs ys : List Int} {j : Nat} : nth (xs ++ ys) (xs.length + j) = nth ys j := by
  unfold nth
  rw [List.getD_eq_getElem?_getD, List.getD_eq_getElem?_getD, List.getElem?_append_right (by omega)]
  congr 2
  omega
end Go.Proofs.YtcpeddogckillaaGreat
