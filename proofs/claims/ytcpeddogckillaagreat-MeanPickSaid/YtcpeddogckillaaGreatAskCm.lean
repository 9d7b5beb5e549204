/-
  Asks that are made of raw numbers: nodes that grow, case by case: choices, numbers, words.
-/
import Derived.Test.YtcpeddogckillaaGreatAskCl
namespace Go.Proofs.YtcpeddogckillaaGreat
open Go.RowKit

set_option maxRecDepth 100000 in
set_option maxHeartbeats 4000000 in
theorem grow5 (base g : Nat) (nv sv : Value) (ss : List Int) (a b c : Int) (w : World) (ha : a % 22 = 5) (hl : ss.length ≤ 890) (hM : Mo No base g nv sv w ss) :
    Calls Tryz.prog 23 #[.pointer (some ⟨g, 0, none⟩), .int .i64 a, .int .i64 b, .int .i64 c, .int .i64 0] w (GrowQ base g nv sv w ss) := by
  have HP22 : Hid (Calls Tryz.prog 25 #[.int .i64 a, .int .i64 22] w fun e w' => e = .returned (.int .i64 5) ∧ w' = w) := Lib.hid (by
    have := picked_any a 22 (by decide) (by decide) w
    rw [show ((22 : Nat) : Int) = 22 from rfl, ha] at this
    exact this)
  have HPK : Hid (∀ x (n : Nat) W, 1 ≤ n → n ≤ 1000 → Calls Tryz.prog 25 #[.int .i64 x, .int .i64 n] W fun e w' => ∃ r : Int, e = .returned (.int .i64 r) ∧ 0 ≤ r ∧ r < n ∧ w' = W) := Lib.hid (fun x n W h1 h2 => pick_rng x n h1 h2 W)
  have HP4 : Hid (∀ x W, Calls Tryz.prog 25 #[.int .i64 x, .int .i64 4] W fun e w' => ∃ r : Int, e = .returned (.int .i64 r) ∧ 0 ≤ r ∧ r < 4 ∧ w' = W) := Lib.hid (fun x W => pick_rng x 4 (by decide) (by decide) W)
  have X1 := Lib.hid (fun back => mknumber_any No base g nv sv ss back 1 w (by omega) hM)
  clear hM ha
  go_enter Tryz.func23, Tryz.ntmps23
  go_wp2_with fail
  refine HP22.out.mono ?_
  rintro e w1 ⟨rfl, rfl⟩
  go_wp2_with fail
  refine (HP4.out _ _).mono ?_
  rintro e w2 ⟨d, rfl, d0, d1, rfl⟩
  go_wp2_with fail
  refine (X1.out _).mono ?_
  rintro e w3 ⟨q1, hq1, j1, m1, rfl, hm1, hj1, hs1, hl1⟩
  obtain ⟨nv1, sv1, hM1, hV1⟩ := hm1.out
  have HL1 := Lib.hid hl1
  have HV1 := Lib.hid hV1
  have HQ1 := Lib.hid hq1
  have K1 := Lib.hid (And.intro hj1 hs1)
  have X2 := Lib.hid (fun back => mknumber_any No base g nv1 sv1 (ss ++ m1) back 1 w3 (by have := HL1.out; simp; omega) hM1)
  clear hm1 hV1 hM1 hj1 hs1 hl1 X1 hq1
  go_wp2_with fail
  refine (X2.out _).mono ?_
  rintro e w4 ⟨q2, hq2, j2, m2, rfl, hm2, hj2, hs2, hl2⟩
  obtain ⟨nv2, sv2, hM2, hV2⟩ := hm2.out
  have HL2 := Lib.hid hl2
  have HV2 := Lib.hid (HV1.out.trans hV2)
  have HQ2 := Lib.hid hq2
  have k1_1 := K1.out
  have k1_2 := old_kid (m := m2) k1_1.1 k1_1.2
  have XP := Lib.hid ((put_new (q := ⟨8, [(j1 : Int), (j2 : Int)], 0, 0, ⟨#[]⟩⟩) (s := 1) (by have := HL1.out; have := HL2.out; simp; omega) hM2 (by simp) (Nat.zero_le _) (nd_plain 8 [(j1 : Int), (j2 : Int)] 1 (by decide) (by simp) (by simp [kcN]) (mem2 k1_2.1 hj2) (by rw [kso2 k1_2.2 hs2]; rcases HQ1.out with rfl | rfl <;> rcases HQ2.out with rfl | rfl <;> decide) (by decide))))
  clear hm2 hV2 hM2 hj2 hs2 hl2 X2 hq2 k1_2 k1_1
  go_wp2_with fail
  refine (XP.out).mono ?_
  rintro e wz ⟨rfl, hmz⟩
  have HZ : Hid (More No base g nv sv w2 ss (m1 ++ m2 ++ [1]) wz) := Lib.hid (by
    obtain ⟨nvz, svz, h1, h2⟩ := hmz.out
    exact ⟨nvz, svz, by simpa [List.append_assoc] using h1, HV2.out.trans h2⟩)
  clear hmz XP
  go_wp2_with fail
  first | go_end0 | refine bodyPost_ret (results_none rfl _ _ _) rfl ?_
  exact ⟨rfl, _, HZ, by have := HL1.out; have := HL2.out; simp; omega⟩
set_option maxRecDepth 100000 in
set_option maxHeartbeats 4000000 in
theorem grow12 (base g : Nat) (nv sv : Value) (ss : List Int) (a b c : Int) (w : World) (ha : a % 22 = 12) (hl : ss.length ≤ 890) (hM : Mo No base g nv sv w ss) :
    Calls Tryz.prog 23 #[.pointer (some ⟨g, 0, none⟩), .int .i64 a, .int .i64 b, .int .i64 c, .int .i64 0] w (GrowQ base g nv sv w ss) := by
  have HP22 : Hid (Calls Tryz.prog 25 #[.int .i64 a, .int .i64 22] w fun e w' => e = .returned (.int .i64 12) ∧ w' = w) := Lib.hid (by
    have := picked_any a 22 (by decide) (by decide) w
    rw [show ((22 : Nat) : Int) = 22 from rfl, ha] at this
    exact this)
  have HPK : Hid (∀ x (n : Nat) W, 1 ≤ n → n ≤ 1000 → Calls Tryz.prog 25 #[.int .i64 x, .int .i64 n] W fun e w' => ∃ r : Int, e = .returned (.int .i64 r) ∧ 0 ≤ r ∧ r < n ∧ w' = W) := Lib.hid (fun x n W h1 h2 => pick_rng x n h1 h2 W)
  have HP4 : Hid (∀ x W, Calls Tryz.prog 25 #[.int .i64 x, .int .i64 4] W fun e w' => ∃ r : Int, e = .returned (.int .i64 r) ∧ 0 ≤ r ∧ r < 4 ∧ w' = W) := Lib.hid (fun x W => pick_rng x 4 (by decide) (by decide) W)
  have X1 := Lib.hid (fun back => mknumber_any No base g nv sv ss back 1 w (by omega) hM)
  clear hM ha
  go_enter Tryz.func23, Tryz.ntmps23
  go_wp2_with fail
  refine HP22.out.mono ?_
  rintro e w1 ⟨rfl, rfl⟩
  go_wp2_with fail
  refine (HP4.out _ _).mono ?_
  rintro e w2 ⟨d, rfl, d0, d1, rfl⟩
  go_wp2_with fail
  refine (X1.out _).mono ?_
  rintro e w3 ⟨q1, hq1, j1, m1, rfl, hm1, hj1, hs1, hl1⟩
  obtain ⟨nv1, sv1, hM1, hV1⟩ := hm1.out
  have HL1 := Lib.hid hl1
  have HV1 := Lib.hid hV1
  have HQ1 := Lib.hid hq1
  have K1 := Lib.hid (And.intro hj1 hs1)
  have X2 := Lib.hid (fun back => mknumber_any No base g nv1 sv1 (ss ++ m1) back 1 w3 (by have := HL1.out; simp; omega) hM1)
  clear hm1 hV1 hM1 hj1 hs1 hl1 X1 hq1
  go_wp2_with fail
  refine (X2.out _).mono ?_
  rintro e w4 ⟨q2, hq2, j2, m2, rfl, hm2, hj2, hs2, hl2⟩
  obtain ⟨nv2, sv2, hM2, hV2⟩ := hm2.out
  have HL2 := Lib.hid hl2
  have HV2 := Lib.hid (HV1.out.trans hV2)
  have HQ2 := Lib.hid hq2
  have k1_1 := K1.out
  have k1_2 := old_kid (m := m2) k1_1.1 k1_1.2
  have XP := Lib.hid ((put_new (q := ⟨13, [(j1 : Int), (j2 : Int)], 0, 0, ⟨#[]⟩⟩) (s := 1) (by have := HL1.out; have := HL2.out; simp; omega) hM2 (by simp) (Nat.zero_le _) (nd_plain 13 [(j1 : Int), (j2 : Int)] 1 (by decide) (by simp) (by simp [kcN]) (mem2 k1_2.1 hj2) (by rw [kso2 k1_2.2 hs2]; rcases HQ1.out with rfl | rfl <;> rcases HQ2.out with rfl | rfl <;> decide) (by decide))))
  clear hm2 hV2 hM2 hj2 hs2 hl2 X2 hq2 k1_2 k1_1
  go_wp2_with fail
  refine (XP.out).mono ?_
  rintro e wz ⟨rfl, hmz⟩
  have HZ : Hid (More No base g nv sv w2 ss (m1 ++ m2 ++ [1]) wz) := Lib.hid (by
    obtain ⟨nvz, svz, h1, h2⟩ := hmz.out
    exact ⟨nvz, svz, by simpa [List.append_assoc] using h1, HV2.out.trans h2⟩)
  clear hmz XP
  go_wp2_with fail
  first | go_end0 | refine bodyPost_ret (results_none rfl _ _ _) rfl ?_
  exact ⟨rfl, _, HZ, by have := HL1.out; have := HL2.out; simp; omega⟩
set_option maxRecDepth 100000 in
set_option maxHeartbeats 4000000 in
theorem grow13 (base g : Nat) (nv sv : Value) (ss : List Int) (a b c : Int) (w : World) (ha : a % 22 = 13) (hl : ss.length ≤ 890) (hM : Mo No base g nv sv w ss) :
    Calls Tryz.prog 23 #[.pointer (some ⟨g, 0, none⟩), .int .i64 a, .int .i64 b, .int .i64 c, .int .i64 0] w (GrowQ base g nv sv w ss) := by
  have HP22 : Hid (Calls Tryz.prog 25 #[.int .i64 a, .int .i64 22] w fun e w' => e = .returned (.int .i64 13) ∧ w' = w) := Lib.hid (by
    have := picked_any a 22 (by decide) (by decide) w
    rw [show ((22 : Nat) : Int) = 22 from rfl, ha] at this
    exact this)
  have HPK : Hid (∀ x (n : Nat) W, 1 ≤ n → n ≤ 1000 → Calls Tryz.prog 25 #[.int .i64 x, .int .i64 n] W fun e w' => ∃ r : Int, e = .returned (.int .i64 r) ∧ 0 ≤ r ∧ r < n ∧ w' = W) := Lib.hid (fun x n W h1 h2 => pick_rng x n h1 h2 W)
  have HP4 : Hid (∀ x W, Calls Tryz.prog 25 #[.int .i64 x, .int .i64 4] W fun e w' => ∃ r : Int, e = .returned (.int .i64 r) ∧ 0 ≤ r ∧ r < 4 ∧ w' = W) := Lib.hid (fun x W => pick_rng x 4 (by decide) (by decide) W)
  have X1 := Lib.hid (fun back => mknumber_any No base g nv sv ss back 1 w (by omega) hM)
  clear hM ha
  go_enter Tryz.func23, Tryz.ntmps23
  go_wp2_with fail
  refine HP22.out.mono ?_
  rintro e w1 ⟨rfl, rfl⟩
  go_wp2_with fail
  refine (HP4.out _ _).mono ?_
  rintro e w2 ⟨d, rfl, d0, d1, rfl⟩
  go_wp2_with fail
  refine (X1.out _).mono ?_
  rintro e w3 ⟨q1, hq1, j1, m1, rfl, hm1, hj1, hs1, hl1⟩
  obtain ⟨nv1, sv1, hM1, hV1⟩ := hm1.out
  have HL1 := Lib.hid hl1
  have HV1 := Lib.hid hV1
  have HQ1 := Lib.hid hq1
  have K1 := Lib.hid (And.intro hj1 hs1)
  have X2 := Lib.hid (fun back => mknumber_any No base g nv1 sv1 (ss ++ m1) back 1 w3 (by have := HL1.out; simp; omega) hM1)
  clear hm1 hV1 hM1 hj1 hs1 hl1 X1 hq1
  go_wp2_with fail
  refine (X2.out _).mono ?_
  rintro e w4 ⟨q2, hq2, j2, m2, rfl, hm2, hj2, hs2, hl2⟩
  obtain ⟨nv2, sv2, hM2, hV2⟩ := hm2.out
  have HL2 := Lib.hid hl2
  have HV2 := Lib.hid (HV1.out.trans hV2)
  have HQ2 := Lib.hid hq2
  have k1_1 := K1.out
  have k1_2 := old_kid (m := m2) k1_1.1 k1_1.2
  have XP := Lib.hid ((put_new (q := ⟨14, [(j1 : Int), (j2 : Int)], 0, 0, ⟨#[]⟩⟩) (s := 1) (by have := HL1.out; have := HL2.out; simp; omega) hM2 (by simp) (Nat.zero_le _) (nd_plain 14 [(j1 : Int), (j2 : Int)] 1 (by decide) (by simp) (by simp [kcN]) (mem2 k1_2.1 hj2) (by rw [kso2 k1_2.2 hs2]; rcases HQ1.out with rfl | rfl <;> rcases HQ2.out with rfl | rfl <;> decide) (by decide))))
  clear hm2 hV2 hM2 hj2 hs2 hl2 X2 hq2 k1_2 k1_1
  go_wp2_with fail
  refine (XP.out).mono ?_
  rintro e wz ⟨rfl, hmz⟩
  have HZ : Hid (More No base g nv sv w2 ss (m1 ++ m2 ++ [1]) wz) := Lib.hid (by
    obtain ⟨nvz, svz, h1, h2⟩ := hmz.out
    exact ⟨nvz, svz, by simpa [List.append_assoc] using h1, HV2.out.trans h2⟩)
  clear hmz XP
  go_wp2_with fail
  first | go_end0 | refine bodyPost_ret (results_none rfl _ _ _) rfl ?_
  exact ⟨rfl, _, HZ, by have := HL1.out; have := HL2.out; simp; omega⟩
theorem nd_left {ss : List Int} (d : Int) (h0 : 0 ≤ d) (h1 : d < 4) (ks : List Int) (hk : ks.length = 1) (h5 : ∀ k ∈ ks, 0 ≤ k ∧ k < ss.length) (h7 : kSo ss ks = [13]) :
    ndC dqs ⟨23, ks, d, 0, ⟨#[]⟩⟩ ss.length ss = 0 ∧ ndT dqs ⟨23, ks, d, 0, ⟨#[]⟩⟩ ss = 13 := by
  have d4 : d = 0 ∨ d = 1 ∨ d = 2 ∨ d = 3 := by omega
  rcases d4 with rfl | rfl | rfl | rfl
  all_goals exact nd_ok (by simp) (fun z => absurd z (by simp)) (by simp [hk]) (.inr (by simp [kWant, kcN, hk])) h5 (by dsimp only; decide +kernel) (by simp [ndT, kDs, h7]; decide) (by decide)
set_option maxRecDepth 100000 in
set_option maxHeartbeats 4000000 in
theorem grow14 (base g : Nat) (nv sv : Value) (ss : List Int) (a b c : Int) (w : World) (ha : a % 22 = 14) (hl : ss.length ≤ 890) (hM : Mo No base g nv sv w ss) :
    Calls Tryz.prog 23 #[.pointer (some ⟨g, 0, none⟩), .int .i64 a, .int .i64 b, .int .i64 c, .int .i64 0] w (GrowQ base g nv sv w ss) := by
  have HP22 : Hid (Calls Tryz.prog 25 #[.int .i64 a, .int .i64 22] w fun e w' => e = .returned (.int .i64 14) ∧ w' = w) := Lib.hid (by
    have := picked_any a 22 (by decide) (by decide) w
    rw [show ((22 : Nat) : Int) = 22 from rfl, ha] at this
    exact this)
  have HPK : Hid (∀ x (n : Nat) W, 1 ≤ n → n ≤ 1000 → Calls Tryz.prog 25 #[.int .i64 x, .int .i64 n] W fun e w' => ∃ r : Int, e = .returned (.int .i64 r) ∧ 0 ≤ r ∧ r < n ∧ w' = W) := Lib.hid (fun x n W h1 h2 => pick_rng x n h1 h2 W)
  have HP4 : Hid (∀ x W, Calls Tryz.prog 25 #[.int .i64 x, .int .i64 4] W fun e w' => ∃ r : Int, e = .returned (.int .i64 r) ∧ 0 ≤ r ∧ r < 4 ∧ w' = W) := Lib.hid (fun x W => pick_rng x 4 (by decide) (by decide) W)
  have X1 := Lib.hid (fun back => last_any No base g nv sv ss 13 back 1 w (by simp) (by omega) hM)
  clear hM ha
  go_enter Tryz.func23, Tryz.ntmps23
  go_wp2_with fail
  refine HP22.out.mono ?_
  rintro e w1 ⟨rfl, rfl⟩
  go_wp2_with fail
  refine (HP4.out _ _).mono ?_
  rintro e w2 ⟨d, rfl, d0, d1, rfl⟩
  have HD4 := Lib.hid (And.intro d0 d1)
  go_wp2_with fail
  refine (X1.out _).mono ?_
  rintro e w3 ⟨j1, m1, rfl, hm1, hj1, hs1, hl1⟩
  obtain ⟨nv1, sv1, hM1, hV1⟩ := hm1.out
  have HL1 := Lib.hid hl1
  have HV1 := Lib.hid hV1
  have XP := Lib.hid ((put_new (q := ⟨23, [(j1 : Int)], d, 0, ⟨#[]⟩⟩) (s := 13) (by have := HL1.out; simp; omega) hM1 (by simp) (Nat.zero_le _) (nd_left d (HD4.out.1) (HD4.out.2) [(j1 : Int)] (by simp) (mem1 hj1) (by rw [kso1 hs1]))))
  clear hm1 hV1 hM1 hj1 hs1 hl1 X1 
  go_wp2_with fail
  refine (XP.out).mono ?_
  rintro e wz ⟨rfl, hmz⟩
  have HZ : Hid (More No base g nv sv w2 ss (m1 ++ [13]) wz) := Lib.hid (by
    obtain ⟨nvz, svz, h1, h2⟩ := hmz.out
    exact ⟨nvz, svz, by simpa [List.append_assoc] using h1, HV1.out.trans h2⟩)
  clear hmz XP
  go_wp2_with fail
  first | go_end0 | refine bodyPost_ret (results_none rfl _ _ _) rfl ?_
  exact ⟨rfl, _, HZ, by have := HL1.out; simp; omega⟩
theorem nd_word2 {ss : List Int} (r : Int) (h0 : 0 ≤ r) (h1 : r < 5) (ks : List Int) (hk : ks.length = 2) (h5 : ∀ k ∈ ks, 0 ≤ k ∧ k < ss.length) (h7 : kSo ss ks = [13, 13]) :
    ndC dqs ⟨17 + r, ks, 0, 0, ⟨#[]⟩⟩ ss.length ss = 0 ∧ ndT dqs ⟨17 + r, ks, 0, 0, ⟨#[]⟩⟩ ss = 13 := by
  have d4 : r = 0 ∨ r = 1 ∨ r = 2 ∨ r = 3 ∨ r = 4 := by omega
  rcases d4 with rfl | rfl | rfl | rfl | rfl
  all_goals exact nd_plain _ ks 13 (by decide) (by simp [hk]) (.inr (by simp [kcN, hk])) h5 (by rw [h7]; decide) (by decide)
set_option maxRecDepth 100000 in
set_option maxHeartbeats 4000000 in
theorem grow16 (base g : Nat) (nv sv : Value) (ss : List Int) (a b c : Int) (w : World) (ha : a % 22 = 16) (hl : ss.length ≤ 890) (hM : Mo No base g nv sv w ss) :
    Calls Tryz.prog 23 #[.pointer (some ⟨g, 0, none⟩), .int .i64 a, .int .i64 b, .int .i64 c, .int .i64 0] w (GrowQ base g nv sv w ss) := by
  have HP22 : Hid (Calls Tryz.prog 25 #[.int .i64 a, .int .i64 22] w fun e w' => e = .returned (.int .i64 16) ∧ w' = w) := Lib.hid (by
    have := picked_any a 22 (by decide) (by decide) w
    rw [show ((22 : Nat) : Int) = 22 from rfl, ha] at this
    exact this)
  have HPK : Hid (∀ x (n : Nat) W, 1 ≤ n → n ≤ 1000 → Calls Tryz.prog 25 #[.int .i64 x, .int .i64 n] W fun e w' => ∃ r : Int, e = .returned (.int .i64 r) ∧ 0 ≤ r ∧ r < n ∧ w' = W) := Lib.hid (fun x n W h1 h2 => pick_rng x n h1 h2 W)
  have HP4 : Hid (∀ x W, Calls Tryz.prog 25 #[.int .i64 x, .int .i64 4] W fun e w' => ∃ r : Int, e = .returned (.int .i64 r) ∧ 0 ≤ r ∧ r < 4 ∧ w' = W) := Lib.hid (fun x W => pick_rng x 4 (by decide) (by decide) W)
  have X1 := Lib.hid (fun back => last_any No base g nv sv ss 13 back 1 w (by simp) (by omega) hM)
  clear hM ha
  go_enter Tryz.func23, Tryz.ntmps23
  go_wp2_with fail
  refine HP22.out.mono ?_
  rintro e w1 ⟨rfl, rfl⟩
  go_wp2_with fail
  refine (HP4.out _ _).mono ?_
  rintro e w2 ⟨d, rfl, d0, d1, rfl⟩
  go_wp2_with fail
  refine (X1.out _).mono ?_
  rintro e w3 ⟨j1, m1, rfl, hm1, hj1, hs1, hl1⟩
  obtain ⟨nv1, sv1, hM1, hV1⟩ := hm1.out
  have HL1 := Lib.hid hl1
  have HV1 := Lib.hid hV1
  have K1 := Lib.hid (And.intro hj1 hs1)
  have X2 := Lib.hid (fun back => last_any No base g nv1 sv1 (ss ++ m1) 13 back 1 w3 (by simp) (by have := HL1.out; simp; omega) hM1)
  clear hm1 hV1 hM1 hj1 hs1 hl1 X1
  go_wp2_with fail
  refine (HPK.out _ 5 _ (by decide) (by decide)).mono ?_
  rintro e w9 ⟨r, rfl, r0, r1, rfl⟩
  have HR5 : Hid (0 ≤ r ∧ r < 5) := Lib.hid ⟨r0, by omega⟩
  go_wp2_with fail
  refine (X2.out _).mono ?_
  rintro e w4 ⟨j2, m2, rfl, hm2, hj2, hs2, hl2⟩
  obtain ⟨nv2, sv2, hM2, hV2⟩ := hm2.out
  have HL2 := Lib.hid hl2
  have HV2 := Lib.hid (HV1.out.trans hV2)
  have k1_1 := K1.out
  have k1_2 := old_kid (m := m2) k1_1.1 k1_1.2
  have XP := Lib.hid ((put_new (q := ⟨17 + r, [(j1 : Int), (j2 : Int)], 0, 0, ⟨#[]⟩⟩) (s := 13) (by have := HL1.out; have := HL2.out; simp; omega) hM2 (by simp) (Nat.zero_le _) (nd_word2 r HR5.out.1 HR5.out.2 [(j1 : Int), (j2 : Int)] (by simp) (mem2 k1_2.1 hj2) (by rw [kso2 k1_2.2 hs2]))))
  clear hm2 hV2 hM2 hj2 hs2 hl2 X2 k1_2 k1_1
  go_wp2_with fail
  refine (XP.out).mono ?_
  rintro e wz ⟨rfl, hmz⟩
  have HZ : Hid (More No base g nv sv w2 ss (m1 ++ m2 ++ [13]) wz) := Lib.hid (by
    obtain ⟨nvz, svz, h1, h2⟩ := hmz.out
    exact ⟨nvz, svz, by simpa [List.append_assoc] using h1, HV2.out.trans h2⟩)
  clear hmz XP
  go_wp2_with fail
  first | go_end0 | refine bodyPost_ret (results_none rfl _ _ _) rfl ?_
  exact ⟨rfl, _, HZ, by have := HL1.out; have := HL2.out; simp; omega⟩
set_option maxRecDepth 100000 in
set_option maxHeartbeats 4000000 in
theorem grow17 (base g : Nat) (nv sv : Value) (ss : List Int) (a b c : Int) (w : World) (ha : a % 22 = 17) (hl : ss.length ≤ 890) (hM : Mo No base g nv sv w ss) :
    Calls Tryz.prog 23 #[.pointer (some ⟨g, 0, none⟩), .int .i64 a, .int .i64 b, .int .i64 c, .int .i64 0] w (GrowQ base g nv sv w ss) := by
  have HP22 : Hid (Calls Tryz.prog 25 #[.int .i64 a, .int .i64 22] w fun e w' => e = .returned (.int .i64 17) ∧ w' = w) := Lib.hid (by
    have := picked_any a 22 (by decide) (by decide) w
    rw [show ((22 : Nat) : Int) = 22 from rfl, ha] at this
    exact this)
  have HPK : Hid (∀ x (n : Nat) W, 1 ≤ n → n ≤ 1000 → Calls Tryz.prog 25 #[.int .i64 x, .int .i64 n] W fun e w' => ∃ r : Int, e = .returned (.int .i64 r) ∧ 0 ≤ r ∧ r < n ∧ w' = W) := Lib.hid (fun x n W h1 h2 => pick_rng x n h1 h2 W)
  have HP4 : Hid (∀ x W, Calls Tryz.prog 25 #[.int .i64 x, .int .i64 4] W fun e w' => ∃ r : Int, e = .returned (.int .i64 r) ∧ 0 ≤ r ∧ r < 4 ∧ w' = W) := Lib.hid (fun x W => pick_rng x 4 (by decide) (by decide) W)
  have X1 := Lib.hid (fun back => last_any No base g nv sv ss 13 back 1 w (by simp) (by omega) hM)
  clear hM ha
  go_enter Tryz.func23, Tryz.ntmps23
  go_wp2_with fail
  refine HP22.out.mono ?_
  rintro e w1 ⟨rfl, rfl⟩
  go_wp2_with fail
  refine (HP4.out _ _).mono ?_
  rintro e w2 ⟨d, rfl, d0, d1, rfl⟩
  go_wp2_with fail
  refine (X1.out _).mono ?_
  rintro e w3 ⟨j1, m1, rfl, hm1, hj1, hs1, hl1⟩
  obtain ⟨nv1, sv1, hM1, hV1⟩ := hm1.out
  have HL1 := Lib.hid hl1
  have HV1 := Lib.hid hV1
  have K1 := Lib.hid (And.intro hj1 hs1)
  have X2 := Lib.hid (fun back => last_any No base g nv1 sv1 (ss ++ m1) 13 back 1 w3 (by simp) (by have := HL1.out; simp; omega) hM1)
  clear hm1 hV1 hM1 hj1 hs1 hl1 X1
  go_wp2_with fail
  refine (HPK.out _ 5 _ (by decide) (by decide)).mono ?_
  rintro e w9 ⟨r, rfl, r0, r1, rfl⟩
  have HR5 : Hid (0 ≤ r ∧ r < 5) := Lib.hid ⟨r0, by omega⟩
  go_wp2_with fail
  refine (X2.out _).mono ?_
  rintro e w4 ⟨j2, m2, rfl, hm2, hj2, hs2, hl2⟩
  obtain ⟨nv2, sv2, hM2, hV2⟩ := hm2.out
  have HL2 := Lib.hid hl2
  have HV2 := Lib.hid (HV1.out.trans hV2)
  have k1_1 := K1.out
  have k1_2 := old_kid (m := m2) k1_1.1 k1_1.2
  have XP := Lib.hid ((put_new (q := ⟨17 + r, [(j1 : Int), (j2 : Int)], 0, 0, ⟨#[]⟩⟩) (s := 13) (by have := HL1.out; have := HL2.out; simp; omega) hM2 (by simp) (Nat.zero_le _) (nd_word2 r HR5.out.1 HR5.out.2 [(j1 : Int), (j2 : Int)] (by simp) (mem2 k1_2.1 hj2) (by rw [kso2 k1_2.2 hs2]))))
  clear hm2 hV2 hM2 hj2 hs2 hl2 X2 k1_2 k1_1
  go_wp2_with fail
  refine (XP.out).mono ?_
  rintro e wz ⟨rfl, hmz⟩
  have HZ : Hid (More No base g nv sv w2 ss (m1 ++ m2 ++ [13]) wz) := Lib.hid (by
    obtain ⟨nvz, svz, h1, h2⟩ := hmz.out
    exact ⟨nvz, svz, by simpa [List.append_assoc] using h1, HV2.out.trans h2⟩)
  clear hmz XP
  go_wp2_with fail
  first | go_end0 | refine bodyPost_ret (results_none rfl _ _ _) rfl ?_
  exact ⟨rfl, _, HZ, by have := HL1.out; have := HL2.out; simp; omega⟩
end Go.Proofs.YtcpeddogckillaaGreat
