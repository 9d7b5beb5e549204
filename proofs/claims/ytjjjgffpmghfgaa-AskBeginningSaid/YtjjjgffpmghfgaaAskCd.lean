/-
  Asks that are made of raw numbers: leaves.
-/
import Derived.Test.YtjjjgffpmghfgaaAskCc
namespace Go.Proofs.Ytjjjgffpmghfgaa
open Go.RowKit

/-- What the maker has in memory is nodes that may be, of these sorts. -/
def Mo (Y : Nat → Prop) (base g : Nat) (nv sv : Value) (w : World) (ss : List Int) : Prop := ∃ ps : List (Nd × Value), Mk Y base g nv sv w ps ss ∧ Ok (ps.map (·.1)) ss
theorem Mk.mv {Y : Nat → Prop} {base g : Nat} {nv sv : Value} {w w' : World} {ps : List (Nd × Value)} {ss : List Int} (h : Mk Y base g nv sv w ps ss) (k : Below w.heap.size w w') : Mk Y base g nv sv w' ps ss :=
  ⟨h.1, h.2.1.below k, own_below h.2.2.1 k, own_below h.2.2.2.1 k, fun p hp => ⟨(h.2.2.2.2 p hp).1, (h.2.2.2.2 p hp).2.mv (base := w.heap.size) (mv_below (Nat.le_refl _) k)⟩⟩
theorem Mo.mv {Y : Nat → Prop} {base g : Nat} {nv sv : Value} {w w' : World} {ss : List Int} (h : Mo Y base g nv sv w ss) (k : Below w.heap.size w w') : Mo Y base g nv sv w' ss := by
  obtain ⟨ps, h1, h2⟩ := h
  exact ⟨ps, h1.mv k, h2⟩
/-- The maker has nodes of these sorts more. -/
def More (Y : Nat → Prop) (base g : Nat) (nv sv : Value) (w : World) (ss more : List Int) (w' : World) : Prop :=
  ∃ nv' sv', Mo Y base g nv' sv' w' (ss ++ more) ∧ Mv base (Mb g nv sv) w (Mb g nv' sv') w'
theorem put_mo {Y : Nat → Prop} {base g : Nat} {nv sv kv : Value} {ss : List Int} (q : Nd) (s : Int) {w W : World} (hl : ss.length ≤ 1000000) (hM : Mo Y base g nv sv w ss) (hW : Below w.heap.size w W) (hk : Kat W (MbY Y g nv sv) kv q.kids) (hnm : q.name.size ≤ maxLen) (hq : ndC dqs q ss.length ss = 0 ∧ ndT dqs q ss = s) :
    Calls Try.prog 33 #[.pointer (some ⟨g, 0, none⟩), .agg #[.int .i64 q.op, kv, .int .i64 q.n, .int .i64 q.d, .string q.name], .int .i64 s] W fun e w' => e = .returned (.int .i64 ss.length) ∧ Hid (More Y base g nv sv w ss [s] w') := by
  have hbw : base ≤ w.heap.size := by
    obtain ⟨ps, h1, _⟩ := hM
    have := h1.2.1.lt
    have := h1.1
    omega
  obtain ⟨ps, h1, h2⟩ := hM.mv hW
  have hlen := ok_len h2
  rw [List.length_map] at hlen
  refine (put_any Y base g nv sv kv ps ss q s W (by omega) hl h1 hk hnm).mono ?_
  rintro e w' ⟨rfl, nv', sv', h3, h4⟩
  refine ⟨by rw [hlen], nv', sv', ⟨_, h3, ?_⟩, (mv_below hbw hW).trans h4⟩
  rw [List.map_append]
  exact ok_put h2 hq.1 hq.2
theorem pick_rng (a : Int) (n : Nat) (h1 : 1 ≤ n) (h2 : n ≤ 1000) (w : World) : Calls Try.prog 9 #[.int .i64 a, .int .i64 n] w fun e w' => ∃ r : Int, e = .returned (.int .i64 r) ∧ 0 ≤ r ∧ r < n ∧ w' = w :=
  (picked_any a n h1 h2 w).mono fun _ _ h => ⟨a % n, h.1, Int.emod_nonneg _ (by omega), Int.emod_lt_of_pos _ (by omega), h.2⟩
theorem nm_len (a : UInt8) : (⟨#[a]⟩ : ByteArray).size ≤ maxLen := by unfold maxLen; simp [ByteArray.size]
set_option maxHeartbeats 8000000 in
theorem leaf_any (Y : Nat → Prop) (base g : Nat) (nv sv : Value) (ss : List Int) (sort n : Int) (w : World) (hs : sort = 1 ∨ sort = 2 ∨ sort = 3 ∨ sort = 4 ∨ sort = 5 ∨ sort = 13) (hl : ss.length ≤ 1000000) (hM : Mo Y base g nv sv w ss) :
    Calls Try.prog 66 #[.pointer (some ⟨g, 0, none⟩), .int .i64 sort, .int .i64 n] w fun e w' => e = .returned (.int .i64 ss.length) ∧ Hid (More Y base g nv sv w ss [sort] w') := by
  have HP4 : Hid (∀ a W, Calls Try.prog 9 #[.int .i64 a, .int .i64 4] W fun e w' => ∃ r : Int, e = .returned (.int .i64 r) ∧ 0 ≤ r ∧ r < 4 ∧ w' = W) := Lib.hid (fun a W => pick_rng a 4 (by decide) (by decide) W)
  have HP2 : Hid (∀ a W, Calls Try.prog 9 #[.int .i64 a, .int .i64 2] W fun e w' => ∃ r : Int, e = .returned (.int .i64 r) ∧ 0 ≤ r ∧ r < 2 ∧ w' = W) := Lib.hid (fun a W => pick_rng a 2 (by decide) (by decide) W)
  have HP7 : Hid (∀ a W, Calls Try.prog 9 #[.int .i64 a, .int .i64 7] W fun e w' => ∃ r : Int, e = .returned (.int .i64 r) ∧ 0 ≤ r ∧ r < 7 ∧ w' = W) := Lib.hid (fun a W => pick_rng a 7 (by decide) (by decide) W)
  have HP8 : Hid (∀ a W, Calls Try.prog 9 #[.int .i64 a, .int .i64 8] W fun e w' => ∃ r : Int, e = .returned (.int .i64 r) ∧ 0 ≤ r ∧ r < 8 ∧ w' = W) := Lib.hid (fun a W => pick_rng a 8 (by decide) (by decide) W)
  have HPUT : Hid (∀ (W : World) (op k d : Int) (nm : ByteArray) (s : Int), Below w.heap.size w W → nm.size ≤ maxLen → (ndC dqs ⟨op, [], k, d, nm⟩ ss.length ss = 0 ∧ ndT dqs ⟨op, [], k, d, nm⟩ ss = s) → Calls Try.prog 33 #[.pointer (some ⟨g, 0, none⟩), .agg #[.int .i64 op, .slice none 0 0, .int .i64 k, .int .i64 d, .string nm], .int .i64 s] W fun e w' => e = .returned (.int .i64 ss.length) ∧ Hid (More Y base g nv sv w ss [s] w')) :=
    Lib.hid (fun W op k d nm s hW hnm hq => put_mo (kv := .slice none 0 0) ⟨op, [], k, d, nm⟩ s hl hM hW (kat_nil _ _) hnm hq)
  clear hM
  rcases hs with rfl | rfl | rfl | rfl | rfl | rfl
  all_goals
    go_enter Try.func66, Try.ntmps66
    go_wp2_with fail
    refine (HP4.out _ _).mono ?_
    rintro e w1 ⟨r, rfl, r0, r1, rfl⟩
    have r2 : r = 0 ∨ r = 1 ∨ r = 2 ∨ r = 3 := by omega
    clear r0 r1
    rcases r2 with rfl | rfl | rfl | rfl
    all_goals
      go_wp2_with fail
      try
        first
          | (with_reducible refine (HP2.out _ _).mono ?_)
          | (with_reducible refine (HP4.out _ _).mono ?_)
          | (with_reducible refine (HP7.out _ _).mono ?_)
          | (with_reducible refine (HP8.out _ _).mono ?_)
        rintro e w2 ⟨q, rfl, q0, q1, rfl⟩
        go_wp2_with fail
      refine (HPUT.out _ _ _ _ _ _ ?_ ?_ ?_).mono ?_
      · first | exact new_below _ _ | exact Below.refl _ _
      · first | exact nm_len _ | exact Nat.zero_le _
      · first | exact nd_name nm_p (by decide) | exact nd_name nm_q (by decide) | exact nd_name nm_x (by decide) | exact nd_name nm_y (by decide) | exact nd_name nm_r (by decide) | exact nd_name nm_a (by decide) | exact nd_name nm_b (by decide) | exact nd_name nm_c (by decide) | exact nd_name nm_m (by decide) | exact nd_name nm_v (by decide) | exact nd_name nm_w (by decide) | exact nd_tf q ⟨q0, q1⟩ | exact nd_int q ⟨q0, q1⟩ | exact nd_real q ⟨q0, q1⟩ | exact nd_word q ⟨q0, q1⟩
      · rintro e w3 ⟨rfl, H⟩
        go_wp2_with fail
        go_ret
        exact ⟨rfl, H⟩
end Go.Proofs.Ytjjjgffpmghfgaa
