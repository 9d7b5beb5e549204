/-
  Words: the law WordsRing.
-/
import Derived.Test.YtibpgcdaommjeaaDoorWorK
namespace Go.Proofs.YtibpgcdaommjeaaDoor
open Go.RowKit

set_option maxRecDepth 100000 in
theorem two_pow_wrap {k : Nat} (h : k ≤ 8) : IntKind.i64.wrap ((2 : Int) ^ k) = (2 : Int) ^ k := by
  have h8 : (2 : Nat) ^ k ≤ 2 ^ 8 := Nat.pow_le_pow_right (by decide) h
  have h9 : (2 : Int) ^ k ≤ 256 := by exact_mod_cast h8
  have h0 : 0 ≤ (2 : Int) ^ k := Int.pow_nonneg (by decide)
  exact IntWalk.i64_in _ (by omega)
theorem bool_eq {a b : Int} (h : a = b) : (a == b) = true ∧ (a != b) = false := by subst h; simp
set_option maxRecDepth 100000 in
set_option maxHeartbeats 4000000 in
theorem ring_bad1 (z a b c : Int) (h : z < 1 ∨ 8 < z) (w : World) (ht : TabW w) : Calls Tryd.prog 5 #[.int .i64 z, .int .i64 a, .int .i64 b, .int .i64 c] w fun e w' => e = .returned (.bool true) ∧ Below w.heap.size w w' := by
  have end_ : ∀ (d1 : Bool) (d2 : Bool), decide (z < 1) = d1 → decide (8 < z) = d2 → (d1 || d2) = true := fun d1 d2 h1 h2 => by
    subst h1 h2; simpa using h
  cases d1 : decide (z < 1) with
  | true =>
    clear end_ h
    go_enter Tryd.func5, Tryd.ntmps5
    go_wp2_with fail
    refine (fact_any w ht).mono ?_
    rintro e w1 ⟨rfl, hb⟩
    have G1 := Lib.hid hb
    clear hb
    go_wp2_with fail
    go_ret
    exact ⟨rfl, G1.out⟩
  | false =>
    have d2 : decide (8 < z) = true := by simpa using end_ _ _ d1 rfl
    clear end_ h
    go_enter Tryd.func5, Tryd.ntmps5
    go_wp2_with fail
    refine (fact_any w ht).mono ?_
    rintro e w1 ⟨rfl, hb⟩
    have G1 := Lib.hid hb
    clear hb
    go_wp2_with fail
    go_ret
    exact ⟨rfl, G1.out⟩
set_option maxRecDepth 100000 in
set_option maxHeartbeats 4000000 in
theorem ring_bad2 (k : Nat) (a b c : Int) (k1 : 1 ≤ k) (k8 : k ≤ 8) (h : a < 0 ∨ b < 0 ∨ c < 0 ∨ 2 ^ k ≤ a ∨ 2 ^ k ≤ b ∨ 2 ^ k ≤ c) (w : World) (ht : TabW w) : Calls Tryd.prog 5 #[.int .i64 (k : Int), .int .i64 a, .int .i64 b, .int .i64 c] w fun e w' => e = .returned (.bool true) ∧ Below w.heap.size w w' := by
  have d1 : decide ((k : Int) < 1) = false := by simp; omega
  have d2 : decide (8 < (k : Int)) = false := by simp; omega
  have q0 := two_pow_wrap k8
  have q2 : min k 64 = k := by omega
  by_cases e0 : a < 0
  · have f0 : decide (a < 0) = true := by simpa using e0
    clear h e0
    go_enter Tryd.func5, Tryd.ntmps5
    go_wp2_with fail
    refine (fact_any w ht).mono ?_
    rintro e w1 ⟨rfl, hb⟩
    have G1 := Lib.hid hb
    clear hb
    go_wp2_with fail
    go_ret
    exact ⟨rfl, G1.out⟩
  have f0 : decide (a < 0) = false := by simpa using e0
  by_cases e1 : b < 0
  · have f1 : decide (b < 0) = true := by simpa using e1
    clear h e1
    go_enter Tryd.func5, Tryd.ntmps5
    go_wp2_with fail
    refine (fact_any w ht).mono ?_
    rintro e w1 ⟨rfl, hb⟩
    have G1 := Lib.hid hb
    clear hb
    go_wp2_with fail
    go_ret
    exact ⟨rfl, G1.out⟩
  have f1 : decide (b < 0) = false := by simpa using e1
  by_cases e2 : c < 0
  · have f2 : decide (c < 0) = true := by simpa using e2
    clear h e2
    go_enter Tryd.func5, Tryd.ntmps5
    go_wp2_with fail
    refine (fact_any w ht).mono ?_
    rintro e w1 ⟨rfl, hb⟩
    have G1 := Lib.hid hb
    clear hb
    go_wp2_with fail
    go_ret
    exact ⟨rfl, G1.out⟩
  have f2 : decide (c < 0) = false := by simpa using e2
  by_cases e3 : (2 : Int) ^ k ≤ a
  · have f3 : decide ((2 : Int) ^ k ≤ a) = true := by simpa using e3
    clear h e3
    go_enter Tryd.func5, Tryd.ntmps5
    go_wp2_with fail
    refine (fact_any w ht).mono ?_
    rintro e w1 ⟨rfl, hb⟩
    have G1 := Lib.hid hb
    clear hb
    go_wp2_with fail
    go_ret
    exact ⟨rfl, G1.out⟩
  have f3 : decide ((2 : Int) ^ k ≤ a) = false := by simpa using e3
  by_cases e4 : (2 : Int) ^ k ≤ b
  · have f4 : decide ((2 : Int) ^ k ≤ b) = true := by simpa using e4
    clear h e4
    go_enter Tryd.func5, Tryd.ntmps5
    go_wp2_with fail
    refine (fact_any w ht).mono ?_
    rintro e w1 ⟨rfl, hb⟩
    have G1 := Lib.hid hb
    clear hb
    go_wp2_with fail
    go_ret
    exact ⟨rfl, G1.out⟩
  have f4 : decide ((2 : Int) ^ k ≤ b) = false := by simpa using e4
  have f5 : decide ((2 : Int) ^ k ≤ c) = true := by
    have : (2 : Int) ^ k ≤ c := by
      rcases h with h | h | h | h | h | h
      · exact absurd h e0
      · exact absurd h e1
      · exact absurd h e2
      · exact absurd h e3
      · exact absurd h e4
      · exact h
    simpa using this
  clear h e0 e1 e2 e3 e4
  go_enter Tryd.func5, Tryd.ntmps5
  go_wp2_with fail
  refine (fact_any w ht).mono ?_
  rintro e w1 ⟨rfl, hb⟩
  have G1 := Lib.hid hb
  clear hb
  go_wp2_with fail
  go_ret
  exact ⟨rfl, G1.out⟩
set_option maxRecDepth 100000 in
set_option maxHeartbeats 4000000 in
theorem ring_good (k : Nat) (a b c M : Int) (h : Wb k M) (a0 : 0 ≤ a) (a1 : a < M) (b0 : 0 ≤ b) (b1 : b < M) (c0 : 0 ≤ c) (c1 : c < M) (w : World) (ht : TabW w) : Calls Tryd.prog 5 #[.int .i64 (k : Int), .int .i64 a, .int .i64 b, .int .i64 c] w fun e w' => e = .returned (.bool true) ∧ Below w.heap.size w w' := by
  obtain ⟨k', hk', k1, k8, hp⟩ := wb_pow h
  obtain rfl : k = k' := by omega
  obtain ⟨r1, r2, r3, r4, r5, r6⟩ := ring_ok h a0 a1 b0 b1 c0 c1
  have X := Lib.hid (fun op x y W (ho : (Lit.int .i64 op).wf = true) (hW : Below w.heap.size w W) => wordtwo_any op k M x y ho (fun _ => h) W (ht.below hW))
  have N := Lib.hid (fun W (hW : Below w.heap.size w W) => by
    have := do_any 16 k M 0 [a] _ 1 rfl (fun _ => h) (by unfold maxLen; simp) _ (is_one W a) ((ht.below hW).below (new_below W _))
    rw [(wf_one h (.inl ⟨rfl, rfl⟩) a0 a1).1, (wf_one (n := 0) h (.inl ⟨rfl, rfl⟩) a0 a1).2, show ([a] : List Int).length = 1 from rfl] at this
    exact this)
  have HT := Lib.hid ht
  have d1 : decide ((k : Int) < 1) = false := by simp; omega
  have d2 : decide (8 < (k : Int)) = false := by simp; omega
  have f0 : decide (a < 0) = false := by simp; omega
  have f1 : decide (b < 0) = false := by simp; omega
  have f2 : decide (c < 0) = false := by simp; omega
  have f3 : decide ((2 : Int) ^ k ≤ a) = false := by simp; omega
  have f4 : decide ((2 : Int) ^ k ≤ b) = false := by simp; omega
  have f5 : decide ((2 : Int) ^ k ≤ c) = false := by simp; omega
  have q0 := two_pow_wrap k8
  have q2 : min k 64 = k := by omega
  obtain ⟨_, s1⟩ := bool_eq r1
  obtain ⟨_, s2⟩ := bool_eq r2
  obtain ⟨_, s3⟩ := bool_eq r3
  obtain ⟨_, s4⟩ := bool_eq r4
  obtain ⟨s5, _⟩ := bool_eq r5
  obtain ⟨s6, _⟩ := bool_eq r6
  clear h a0 a1 b0 b1 c0 c1 k1 hp hk' r1 r2 r3 r4 r5 r6 ht
  generalize doR 16 k M [a] 0 = n at *
  go_enter Tryd.func5, Tryd.ntmps5
  go_wp2_with fail
  refine (fact_any w HT.out).mono ?_
  rintro e w1 ⟨rfl, hb⟩
  have G1 := Lib.hid hb
  clear hb
  go_wp2_with fail
  refine (X.out _ _ _ _ rfl G1.out).mono ?_
  rintro e w2 ⟨rfl, hb⟩
  have G2 := Lib.hid (bw_below (Nat.le_refl _) G1.out hb)
  clear hb G1
  go_wp2_with fail
  refine (X.out _ _ _ _ rfl G2.out).mono ?_
  rintro e w3 ⟨rfl, hb⟩
  have G3 := Lib.hid (bw_below (Nat.le_refl _) G2.out hb)
  clear hb G2
  go_wp2_with fail
  refine (X.out _ _ _ _ rfl G3.out).mono ?_
  rintro e w4 ⟨rfl, hb⟩
  have G4 := Lib.hid (bw_below (Nat.le_refl _) G3.out hb)
  clear hb G3
  go_wp2_with fail
  refine (X.out _ _ _ _ rfl G4.out).mono ?_
  rintro e w5 ⟨rfl, hb⟩
  have G5 := Lib.hid (bw_below (Nat.le_refl _) G4.out hb)
  clear hb G4
  go_wp2_with fail
  refine (X.out _ _ _ _ rfl G5.out).mono ?_
  rintro e w6 ⟨rfl, hb⟩
  have G6 := Lib.hid (bw_below (Nat.le_refl _) G5.out hb)
  clear hb G5
  go_wp2_with fail
  refine (N.out _ G6.out).mono ?_
  rintro e w7 ⟨rfl, hb⟩
  have H7 := Lib.hid ((bw_below (Nat.le_refl _) (G6.out.alloc G6.out.size (.cells #[.int .i64 a] 3)) hb))
  have G7 := Lib.hid (H7.out.alloc H7.out.size (.cells #[.int .i64 0, .int .i64 0] 24))
  clear hb G6 H7
  go_wp2_with fail
  refine (X.out _ _ _ _ rfl G7.out).mono ?_
  rintro e w8 ⟨rfl, hb⟩
  have G8 := Lib.hid (bw_below (Nat.le_refl _) G7.out hb)
  clear hb G7
  go_wp2_with fail
  refine (X.out _ _ _ _ rfl G8.out).mono ?_
  rintro e w9 ⟨rfl, hb⟩
  have G9 := Lib.hid (bw_below (Nat.le_refl _) G8.out hb)
  clear hb G8
  go_wp2_with fail
  refine (X.out _ _ _ _ rfl G9.out).mono ?_
  rintro e w10 ⟨rfl, hb⟩
  have G10 := Lib.hid (bw_below (Nat.le_refl _) G9.out hb)
  clear hb G9
  go_wp2_with fail
  refine (X.out _ _ _ _ rfl G10.out).mono ?_
  rintro e w11 ⟨rfl, hb⟩
  have G11 := Lib.hid (bw_below (Nat.le_refl _) G10.out hb)
  clear hb G10
  go_wp2_with fail
  refine (X.out _ _ _ _ rfl G11.out).mono ?_
  rintro e w12 ⟨rfl, hb⟩
  have G12 := Lib.hid (bw_below (Nat.le_refl _) G11.out hb)
  clear hb G11
  go_wp2_with fail
  refine (X.out _ _ _ _ rfl G12.out).mono ?_
  rintro e w13 ⟨rfl, hb⟩
  have G13 := Lib.hid (bw_below (Nat.le_refl _) G12.out hb)
  clear hb G12
  go_wp2_with fail
  refine (X.out _ _ _ _ rfl G13.out).mono ?_
  rintro e w14 ⟨rfl, hb⟩
  have G14 := Lib.hid (bw_below (Nat.le_refl _) G13.out hb)
  clear hb G13
  go_wp2_with fail
  refine (X.out _ _ _ _ rfl G14.out).mono ?_
  rintro e w15 ⟨rfl, hb⟩
  have G15 := Lib.hid (bw_below (Nat.le_refl _) G14.out hb)
  clear hb G14
  go_wp2_with fail
  refine (X.out _ _ _ _ rfl G15.out).mono ?_
  rintro e w16 ⟨rfl, hb⟩
  have G16 := Lib.hid (bw_below (Nat.le_refl _) G15.out hb)
  clear hb G15
  go_wp2_with fail
  refine (X.out _ _ _ _ rfl G16.out).mono ?_
  rintro e w17 ⟨rfl, hb⟩
  have G17 := Lib.hid (bw_below (Nat.le_refl _) G16.out hb)
  clear hb G16
  go_wp2_with fail
  go_ret
  exact ⟨rfl, G17.out⟩
theorem wordsring_any (z a b c : Int) (w : World) (ht : TabW w) : Calls Tryd.prog 5 #[.int .i64 z, .int .i64 a, .int .i64 b, .int .i64 c] w fun e w' => e = .returned (.bool true) ∧ Below w.heap.size w w' := by
  by_cases h : z < 1 ∨ 8 < z
  · exact ring_bad1 z a b c h w ht
  · obtain ⟨M, hM⟩ := wb_of (z := z) (by omega) (by omega)
    obtain ⟨k, rfl, k1, k8, hp⟩ := wb_pow hM
    by_cases h2 : a < 0 ∨ b < 0 ∨ c < 0 ∨ 2 ^ k ≤ a ∨ 2 ^ k ≤ b ∨ 2 ^ k ≤ c
    · exact ring_bad2 k a b c k1 k8 h2 w ht
    · exact ring_good k a b c M hM (by omega) (by omega) (by omega) (by omega) (by omega) (by omega) w ht
end Go.Proofs.YtibpgcdaommjeaaDoor
