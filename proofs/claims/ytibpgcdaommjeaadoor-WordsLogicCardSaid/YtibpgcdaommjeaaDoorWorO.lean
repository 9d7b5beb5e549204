/-
  Words: the law WordsLogic.
-/
import Derived.Test.YtibpgcdaommjeaaDoorWorL
import Derived.Test.YtibpgcdaommjeaaDoorWorN
namespace Go.Proofs.YtibpgcdaommjeaaDoor
open Go.RowKit

set_option maxRecDepth 100000 in
set_option maxHeartbeats 4000000 in
theorem logic_bad1 (z a b : Int) (h : z < 1 ∨ 8 < z) (w : World) (ht : TabW w) : Calls Tryd.prog 6 #[.int .i64 z, .int .i64 a, .int .i64 b] w fun e w' => e = .returned (.bool true) ∧ Below w.heap.size w w' := by
  have end_ : ∀ (d1 : Bool) (d2 : Bool), decide (z < 1) = d1 → decide (8 < z) = d2 → (d1 || d2) = true := fun d1 d2 h1 h2 => by
    subst h1 h2; simpa using h
  cases d1 : decide (z < 1) with
  | true =>
    clear end_ h
    go_enter Tryd.func6, Tryd.ntmps6
    go_wp2_with fail
    refine (fact_any w ht).mono ?_
    rintro e w1 ⟨rfl, hb⟩
    have G1 := Lib.hid hb
    clear hb
    go_wp2_with fail
    go_ret
    exact ⟨rfl, G1.out⟩
  | false =>
    have d2 : decide (8 < z) = true := by simpa using end_ _ _ d1 rfl
    clear end_ h
    go_enter Tryd.func6, Tryd.ntmps6
    go_wp2_with fail
    refine (fact_any w ht).mono ?_
    rintro e w1 ⟨rfl, hb⟩
    have G1 := Lib.hid hb
    clear hb
    go_wp2_with fail
    go_ret
    exact ⟨rfl, G1.out⟩
set_option maxRecDepth 100000 in
set_option maxHeartbeats 4000000 in
theorem logic_bad2 (k : Nat) (a b : Int) (k1 : 1 ≤ k) (k8 : k ≤ 8) (h : a < 0 ∨ b < 0 ∨ 2 ^ k ≤ a ∨ 2 ^ k ≤ b) (w : World) (ht : TabW w) : Calls Tryd.prog 6 #[.int .i64 (k : Int), .int .i64 a, .int .i64 b] w fun e w' => e = .returned (.bool true) ∧ Below w.heap.size w w' := by
  have d1 : decide ((k : Int) < 1) = false := by simp; omega
  have d2 : decide (8 < (k : Int)) = false := by simp; omega
  have q0 := two_pow_wrap k8
  have q2 : min k 64 = k := by omega
  by_cases e0 : a < 0
  · have f0 : decide (a < 0) = true := by simpa using e0
    clear h e0
    go_enter Tryd.func6, Tryd.ntmps6
    go_wp2_with fail
    refine (fact_any w ht).mono ?_
    rintro e w1 ⟨rfl, hb⟩
    have G1 := Lib.hid hb
    clear hb
    go_wp2_with fail
    go_ret
    exact ⟨rfl, G1.out⟩
  have f0 : decide (a < 0) = false := by simpa using e0
  by_cases e1 : b < 0
  · have f1 : decide (b < 0) = true := by simpa using e1
    clear h e1
    go_enter Tryd.func6, Tryd.ntmps6
    go_wp2_with fail
    refine (fact_any w ht).mono ?_
    rintro e w1 ⟨rfl, hb⟩
    have G1 := Lib.hid hb
    clear hb
    go_wp2_with fail
    go_ret
    exact ⟨rfl, G1.out⟩
  have f1 : decide (b < 0) = false := by simpa using e1
  by_cases e2 : (2 : Int) ^ k ≤ a
  · have f2 : decide ((2 : Int) ^ k ≤ a) = true := by simpa using e2
    clear h e2
    go_enter Tryd.func6, Tryd.ntmps6
    go_wp2_with fail
    refine (fact_any w ht).mono ?_
    rintro e w1 ⟨rfl, hb⟩
    have G1 := Lib.hid hb
    clear hb
    go_wp2_with fail
    go_ret
    exact ⟨rfl, G1.out⟩
  have f2 : decide ((2 : Int) ^ k ≤ a) = false := by simpa using e2
  have f3 : decide ((2 : Int) ^ k ≤ b) = true := by
    have : (2 : Int) ^ k ≤ b := by
      rcases h with h | h | h | h
      · exact absurd h e0
      · exact absurd h e1
      · exact absurd h e2
      · exact h
    simpa using this
  clear h e0 e1 e2
  go_enter Tryd.func6, Tryd.ntmps6
  go_wp2_with fail
  refine (fact_any w ht).mono ?_
  rintro e w1 ⟨rfl, hb⟩
  have G1 := Lib.hid hb
  clear hb
  go_wp2_with fail
  go_ret
  exact ⟨rfl, G1.out⟩
set_option maxRecDepth 100000 in
set_option maxHeartbeats 4000000 in
theorem logic_good (k a b : Nat) (M : Int) (h : Wb k M) (hM : M = ((2 ^ k : Nat) : Int)) (ha : a < 2 ^ k) (hb : b < 2 ^ k) (w : World) (ht : TabW w) : Calls Tryd.prog 6 #[.int .i64 (k : Int), .int .i64 (a : Int), .int .i64 (b : Int)] w fun e w' => e = .returned (.bool true) ∧ Below w.heap.size w w' := by
  obtain ⟨k', hk', k1, k8, hpM⟩ := wb_pow h
  obtain rfl : k = k' := by omega
  obtain ⟨r1, r2, c1, c2, c3, c4⟩ := logic_ok h hM k8 ha hb
  have L1 := Lib.hid (tw_less h hM k8 ha hb)
  have L2 := Lib.hid (tw_less h hM k8 hb ha)
  have X := Lib.hid (fun op x y W (ho : (Lit.int .i64 op).wf = true) (hW : Below w.heap.size w W) => wordtwo_any op k M x y ho (fun _ => h) W (ht.below hW))
  have N := Lib.hid (fun (x : Int) W (g : Nat) (hg : W.heap.size = g) (h1 : wfC 16 k M [x] 0 = 0) (h2 : wfA 16 k M [x] = 0) (hW : Below w.heap.size w W) => by
    have := do_any 16 k M 0 [x] _ 1 rfl (fun _ => h) (by unfold maxLen; simp) _ (is_one W x) ((ht.below hW).below (new_below W _))
    rw [h1, h2, show ([x] : List Int).length = 1 from rfl, hg] at this
    exact this)
  have S := Lib.hid (fun (x : Int) W (g : Nat) (hg : W.heap.size = g) (h1 : wfC 23 k M [x] 1 = 0) (h2 : wfA 23 k M [x] = 0) (hW : Below w.heap.size w W) => by
    have := do_any 23 k M 1 [x] _ 1 rfl (fun _ => h) (by unfold maxLen; simp) _ (is_one W x) ((ht.below hW).below (new_below W _))
    rw [h1, h2, show ([x] : List Int).length = 1 from rfl, hg] at this
    exact this)
  have wa := wf_one (n := 0) h (.inl ⟨rfl, rfl⟩) (a := (a : Int)) (by omega) (by omega)
  have wb := wf_one (n := 0) h (.inl ⟨rfl, rfl⟩) (a := (b : Int)) (by omega) (by omega)
  have NA := Lib.hid (fun W g hg hW => N.out a W g hg wa.1 wa.2 hW)
  have NB := Lib.hid (fun W g hg hW => N.out b W g hg wb.1 wb.2 hW)
  have NC := Lib.hid (fun W g hg hW => N.out _ W g hg c1 c2 hW)
  have SC := Lib.hid (fun W g hg hW => S.out _ W g hg c3 c4 hW)
  have HT := Lib.hid ht
  have d1 : decide ((k : Int) < 1) = false := by simp; omega
  have d2 : decide (8 < (k : Int)) = false := by simp; omega
  have f0 : decide ((a : Int) < 0) = false := by simp
  have f1 : decide ((b : Int) < 0) = false := by simp
  have hp : ((2 ^ k : Nat) : Int) = (2 : Int) ^ k := by push_cast; rfl
  have f2 : decide ((2 : Int) ^ k ≤ (a : Int)) = false := by rw [← hp]; simp only [decide_eq_false_iff_not]; omega
  have f3 : decide ((2 : Int) ^ k ≤ (b : Int)) = false := by rw [← hp]; simp only [decide_eq_false_iff_not]; omega
  have q0 := two_pow_wrap k8
  have q2 : min k 64 = k := by omega
  obtain ⟨_, s1⟩ := bool_eq r1
  obtain ⟨_, s2⟩ := bool_eq r2
  clear h hM ha hb k1 hk' hp hpM r1 r2 ht c1 c2 c3 c4 wa wb N S
  generalize doR 16 k M [twF 17 k M a b] 0 = nc at *
  generalize doR 23 k M [twF 17 k M a b] 1 = sc at *
  generalize doR 16 k M [(a : Int)] 0 = na at *
  generalize doR 16 k M [(b : Int)] 0 = nb at *
  go_enter Tryd.func6, Tryd.ntmps6
  go_wp2_with fail
  refine (fact_any w HT.out).mono ?_
  rintro e w1 ⟨rfl, hb⟩
  have G1 := Lib.hid hb
  clear hb
  go_wp2_with fail
  refine (NA.out _ _ (by first | rfl | simp) G1.out).mono ?_
  rintro e w2 ⟨rfl, hb⟩
  have H2 := Lib.hid (bw_below (Nat.le_refl _) (G1.out.alloc G1.out.size (.cells #[.int .i64 a] 3)) hb)
  have G2 := Lib.hid (H2.out.alloc H2.out.size (.cells #[.int .i64 0, .int .i64 0] 24))
  have R2_2 := Lib.hid (HB.new w2 24 #[.int .i64 0, .int .i64 0])
  clear hb G1 H2 
  go_wp2_with fail
  refine (NB.out _ _ (by first | rfl | simp) G2.out).mono ?_
  rintro e w3 ⟨rfl, hb⟩
  have H3 := Lib.hid (bw_below (Nat.le_refl _) (G2.out.alloc G2.out.size (.cells #[.int .i64 b] 3)) hb)
  have G3 := Lib.hid (H3.out.alloc H3.out.size (.cells #[.int .i64 0, .int .i64 0] 24))
  have R2_3 := Lib.hid (((R2_2.out.alloc (.cells #[.int .i64 b] 3)).below hb).alloc (.cells #[.int .i64 0, .int .i64 0] 24))
  have R3_3 := Lib.hid (HB.new w3 24 #[.int .i64 0, .int .i64 0])
  clear hb G2 H3 R2_2
  go_wp2_with fail
  refine (X.out _ _ _ _ rfl G3.out).mono ?_
  rintro e w4 ⟨rfl, hb⟩
  have G4 := Lib.hid (bw_below (Nat.le_refl _) G3.out hb)
  have R2_4 := Lib.hid (R2_3.out.below hb)
  have R3_4 := Lib.hid (R3_3.out.below hb)
  clear hb G3 R2_3 R3_3
  go_wp2_with fail
  refine (NC.out _ _ (by first | rfl | simp) G4.out).mono ?_
  rintro e w5 ⟨rfl, hb⟩
  have H5 := Lib.hid (bw_below (Nat.le_refl _) (G4.out.alloc G4.out.size (.cells #[.int .i64 (twF 17 k M a b)] 3)) hb)
  have G5 := Lib.hid (H5.out.alloc H5.out.size (.cells #[.int .i64 0, .int .i64 0] 24))
  have R2_5 := Lib.hid (((R2_4.out.alloc (.cells #[.int .i64 (twF 17 k M a b)] 3)).below hb).alloc (.cells #[.int .i64 0, .int .i64 0] 24))
  have R3_5 := Lib.hid (((R3_4.out.alloc (.cells #[.int .i64 (twF 17 k M a b)] 3)).below hb).alloc (.cells #[.int .i64 0, .int .i64 0] 24))
  have R5_5 := Lib.hid (HB.new w5 24 #[.int .i64 0, .int .i64 0])
  clear hb G4 H5 R2_4 R3_4
  go_wp2_with fail
  refine (SC.out _ _ (by first | rfl | simp) G5.out).mono ?_
  rintro e w6 ⟨rfl, hb⟩
  have H6 := Lib.hid (bw_below (Nat.le_refl _) (G5.out.alloc G5.out.size (.cells #[.int .i64 (twF 17 k M a b)] 3)) hb)
  have G6 := Lib.hid (H6.out.alloc H6.out.size (.cells #[.int .i64 0, .int .i64 0] 24))
  have R2_6 := Lib.hid (((R2_5.out.alloc (.cells #[.int .i64 (twF 17 k M a b)] 3)).below hb).alloc (.cells #[.int .i64 0, .int .i64 0] 24))
  have R3_6 := Lib.hid (((R3_5.out.alloc (.cells #[.int .i64 (twF 17 k M a b)] 3)).below hb).alloc (.cells #[.int .i64 0, .int .i64 0] 24))
  have R5_6 := Lib.hid (((R5_5.out.alloc (.cells #[.int .i64 (twF 17 k M a b)] 3)).below hb).alloc (.cells #[.int .i64 0, .int .i64 0] 24))
  have R6_6 := Lib.hid (HB.new w6 24 #[.int .i64 0, .int .i64 0])
  clear hb G5 H6 R2_5 R3_5 R5_5
  obtain ⟨r20, r21, _, _⟩ := R2_6.out.two
  have l2 := R2_6.out.lt
  obtain ⟨r30, r31, _, _⟩ := R3_6.out.two
  have l3 := R3_6.out.lt
  obtain ⟨r50, r51, _, _⟩ := R5_6.out.two
  have l5 := R5_6.out.lt
  obtain ⟨r60, r61, _, _⟩ := R6_6.out.two
  have l6 := R6_6.out.lt
  go_wp2_with fail
  refine (X.out _ _ _ _ rfl G6.out).mono ?_
  rintro e w7 ⟨rfl, hb⟩
  have G7 := Lib.hid (bw_below (Nat.le_refl _) G6.out hb)
  clear hb G6
  go_wp2_with fail
  refine (X.out _ _ _ _ rfl G7.out).mono ?_
  rintro e w8 ⟨rfl, hb⟩
  have G8 := Lib.hid (bw_below (Nat.le_refl _) G7.out hb)
  clear hb G7
  go_wp2_with fail
  refine (X.out _ _ _ _ rfl G8.out).mono ?_
  rintro e w9 ⟨rfl, hb⟩
  have G9 := Lib.hid (bw_below (Nat.le_refl _) G8.out hb)
  clear hb G8
  go_wp2_with fail
  refine (X.out _ _ _ _ rfl G9.out).mono ?_
  rintro e w10 ⟨rfl, hb⟩
  have G10 := Lib.hid (bw_below (Nat.le_refl _) G9.out hb)
  clear hb G9
  go_wp2_with fail
  have tri : a < b ∨ b < a ∨ a = b := by omega
  rcases tri with z | z | z
  · skip
    have E1 : Hid (twF 22 k M a b = 1) := Lib.hid (by rw [L1.out]; exact if_pos z)
    have E2 : Hid (twF 22 k M b a = 0) := Lib.hid (by rw [L2.out]; exact if_neg (by omega))
    clear z L1 L2
    refine (X.out _ _ _ _ rfl G10.out).mono ?_
    rintro e w11 ⟨rfl, hb⟩
    have G11 := Lib.hid (bw_below (Nat.le_refl _) G10.out hb)
    clear hb G10
    rw [E1.out]
    go_wp2_with fail
    refine (X.out _ _ _ _ rfl G11.out).mono ?_
    rintro e w12 ⟨rfl, hb⟩
    have G12 := Lib.hid (bw_below (Nat.le_refl _) G11.out hb)
    clear hb G11
    rw [E2.out]
    go_wp2_with fail
    go_ret
    exact ⟨rfl, G12.out⟩
  · skip
    have E1 : Hid (twF 22 k M a b = 0) := Lib.hid (by rw [L1.out]; exact if_neg (by omega))
    have E2 : Hid (twF 22 k M b a = 1) := Lib.hid (by rw [L2.out]; exact if_pos z)
    clear z L1 L2
    refine (X.out _ _ _ _ rfl G10.out).mono ?_
    rintro e w11 ⟨rfl, hb⟩
    have G11 := Lib.hid (bw_below (Nat.le_refl _) G10.out hb)
    clear hb G10
    rw [E1.out]
    go_wp2_with fail
    refine (X.out _ _ _ _ rfl G11.out).mono ?_
    rintro e w12 ⟨rfl, hb⟩
    have G12 := Lib.hid (bw_below (Nat.le_refl _) G11.out hb)
    clear hb G11
    rw [E2.out]
    go_wp2_with fail
    go_ret
    exact ⟨rfl, G12.out⟩
  · skip
    have E1 : Hid (twF 22 k M a b = 0) := Lib.hid (by rw [L1.out]; exact if_neg (by omega))
    have E2 : Hid (twF 22 k M b a = 0) := Lib.hid (by rw [L2.out]; exact if_neg (by omega))
    have z2 : ((a : Int) == (b : Int)) = true := by simp; omega
    clear z L1 L2
    refine (X.out _ _ _ _ rfl G10.out).mono ?_
    rintro e w11 ⟨rfl, hb⟩
    have G11 := Lib.hid (bw_below (Nat.le_refl _) G10.out hb)
    clear hb G10
    rw [E1.out]
    go_wp2_with fail
    refine (X.out _ _ _ _ rfl G11.out).mono ?_
    rintro e w12 ⟨rfl, hb⟩
    have G12 := Lib.hid (bw_below (Nat.le_refl _) G11.out hb)
    clear hb G11
    rw [E2.out]
    go_wp2_with fail
    refine (X.out _ _ _ _ rfl G12.out).mono ?_
    rintro e w13 ⟨rfl, hb⟩
    have G13 := Lib.hid (bw_below (Nat.le_refl _) G12.out hb)
    clear hb G12
    rw [E1.out]
    go_wp2_with fail
    go_ret
    exact ⟨rfl, G13.out⟩
theorem wordslogic_any (z a b : Int) (w : World) (ht : TabW w) : Calls Tryd.prog 6 #[.int .i64 z, .int .i64 a, .int .i64 b] w fun e w' => e = .returned (.bool true) ∧ Below w.heap.size w w' := by
  by_cases h : z < 1 ∨ 8 < z
  · exact logic_bad1 z a b h w ht
  · obtain ⟨M, hM⟩ := wb_of (z := z) (by omega) (by omega)
    obtain ⟨k, rfl, k1, k8, hp⟩ := wb_pow hM
    by_cases h2 : a < 0 ∨ b < 0 ∨ 2 ^ k ≤ a ∨ 2 ^ k ≤ b
    · exact logic_bad2 k a b k1 k8 h2 w ht
    · obtain ⟨a', rfl⟩ := Int.eq_ofNat_of_zero_le (a := a) (by omega)
      obtain ⟨b', rfl⟩ := Int.eq_ofNat_of_zero_le (a := b) (by omega)
      have e : ((2 ^ k : Nat) : Int) = (2 : Int) ^ k := by push_cast; rfl
      exact logic_good k a' b' M hM (by omega) (by omega) (by omega) w ht
end Go.Proofs.YtibpgcdaommjeaaDoor
