/-
  Asks that are made of raw numbers: nodes that grow, case by case.
-/
import Derived.Test.YtcpeddogckillaaGreatAskCh
namespace Go.Proofs.YtcpeddogckillaaGreat
open Go.RowKit

/-- What a growth yields. -/
def GrowQ (base g : Nat) (nv sv : Value) (w : World) (ss : List Int) (e : Ending) (w' : World) : Prop := e = .returned (.tuple #[]) ∧ ∃ more, Hid (More No base g nv sv w ss more w') ∧ more.length ≤ 4
theorem mem1 {ss : List Int} {j : Nat} (h : j < ss.length) : ∀ k ∈ [(j : Int)], 0 ≤ k ∧ k < ss.length := by
  intro k hk
  simp at hk
  omega
theorem mem2 {ss : List Int} {i j : Nat} (h0 : i < ss.length) (h : j < ss.length) : ∀ k ∈ [(i : Int), (j : Int)], 0 ≤ k ∧ k < ss.length := by
  intro k hk
  simp at hk
  omega
theorem mem3 {ss : List Int} {i j l : Nat} (h0 : i < ss.length) (h : j < ss.length) (h1 : l < ss.length) : ∀ k ∈ [(i : Int), (j : Int), (l : Int)], 0 ≤ k ∧ k < ss.length := by
  intro k hk
  simp at hk
  omega
theorem old_kid {ss m : List Int} {j : Nat} {s : Int} (h : j < ss.length) (h' : nth ss j = s) : j < (ss ++ m).length ∧ nth (ss ++ m) j = s := ⟨by simp; omega, by rw [nth_app_lt h, h']⟩
theorem More.last2 {base g : Nat} {nv sv nv1 sv1 : Value} {ss m1 m2 : List Int} {w w1 w2 : World} (h1 : Mv base (Mb g nv sv) w (Mb g nv1 sv1) w1) (k : More No base g nv1 sv1 w1 (ss ++ m1) m2 w2) : More No base g nv sv w ss (m1 ++ m2) w2 := More.step h1 k
set_option maxRecDepth 100000 in
set_option maxHeartbeats 4000000 in
theorem grow0 (base g : Nat) (nv sv : Value) (ss : List Int) (a b c : Int) (w : World) (ha : a % 22 = 0) (hl : ss.length ≤ 890) (hM : Mo No base g nv sv w ss) :
    Calls Tryz.prog 23 #[.pointer (some ⟨g, 0, none⟩), .int .i64 a, .int .i64 b, .int .i64 c, .int .i64 0] w (GrowQ base g nv sv w ss) := by
  have HP22 : Hid (Calls Tryz.prog 25 #[.int .i64 a, .int .i64 22] w fun e w' => e = .returned (.int .i64 0) ∧ w' = w) := Lib.hid (by
    have := picked_any a 22 (by decide) (by decide) w
    rw [show ((22 : Nat) : Int) = 22 from rfl, ha] at this
    exact this)
  have HP4 : Hid (∀ x W, Calls Tryz.prog 25 #[.int .i64 x, .int .i64 4] W fun e w' => ∃ r : Int, e = .returned (.int .i64 r) ∧ 0 ≤ r ∧ r < 4 ∧ w' = W) := Lib.hid (fun x W => pick_rng x 4 (by decide) (by decide) W)
  have X1 := Lib.hid (fun back => last_any No base g nv sv ss 1 back 0 w (by simp) (by omega) hM)
  clear hM ha
  go_enter Tryz.func23, Tryz.ntmps23
  go_wp2_with fail
  refine HP22.out.mono ?_
  rintro e w1 ⟨rfl, rfl⟩
  go_wp2_with fail
  refine (HP4.out _ _).mono ?_
  rintro e w2 ⟨d, rfl, d0, d1, rfl⟩
  go_wp2_with fail
  refine (X1.out _).mono ?_
  rintro e w3 ⟨j1, m1, rfl, hm1, hj1, hs1, hl1⟩
  obtain ⟨nv1, sv1, hM1, hV1⟩ := hm1.out
  have HL1 := Lib.hid hl1
  have HV1 := Lib.hid hV1
  have XP := Lib.hid (put_new (q := ⟨3, [(j1 : Int)], 0, 0, ⟨#[]⟩⟩) (s := 1) (by have := HL1.out; simp; omega) hM1 (by simp) (Nat.zero_le _) (nd_plain 3 [(j1 : Int)] 1 (by decide) (by simp) (by simp [kcN]) (mem1 hj1) (by rw [kso1 hs1]; decide) (by decide)))
  clear hm1 hV1 hM1 hj1 hs1 hl1 X1 
  go_wp2_with fail
  refine XP.out.mono ?_
  rintro e wz ⟨rfl, hmz⟩
  have HZ : Hid (More No base g nv sv w2 ss (m1 ++ [1]) wz) := Lib.hid (by
    obtain ⟨nvz, svz, h1, h2⟩ := hmz.out
    exact ⟨nvz, svz, by simpa [List.append_assoc] using h1, HV1.out.trans h2⟩)
  clear hmz XP
  go_wp2_with fail
  first | go_end0 | refine bodyPost_ret (results_none rfl _ _ _) rfl ?_
  exact ⟨rfl, _, HZ, by have := HL1.out; simp; omega⟩
set_option maxRecDepth 100000 in
set_option maxHeartbeats 4000000 in
theorem grow3 (base g : Nat) (nv sv : Value) (ss : List Int) (a b c : Int) (w : World) (ha : a % 22 = 3) (hl : ss.length ≤ 890) (hM : Mo No base g nv sv w ss) :
    Calls Tryz.prog 23 #[.pointer (some ⟨g, 0, none⟩), .int .i64 a, .int .i64 b, .int .i64 c, .int .i64 0] w (GrowQ base g nv sv w ss) := by
  have HP22 : Hid (Calls Tryz.prog 25 #[.int .i64 a, .int .i64 22] w fun e w' => e = .returned (.int .i64 3) ∧ w' = w) := Lib.hid (by
    have := picked_any a 22 (by decide) (by decide) w
    rw [show ((22 : Nat) : Int) = 22 from rfl, ha] at this
    exact this)
  have HP4 : Hid (∀ x W, Calls Tryz.prog 25 #[.int .i64 x, .int .i64 4] W fun e w' => ∃ r : Int, e = .returned (.int .i64 r) ∧ 0 ≤ r ∧ r < 4 ∧ w' = W) := Lib.hid (fun x W => pick_rng x 4 (by decide) (by decide) W)
  have X1 := Lib.hid (fun back => last_any No base g nv sv ss 1 back 0 w (by simp) (by omega) hM)
  clear hM ha
  go_enter Tryz.func23, Tryz.ntmps23
  go_wp2_with fail
  refine HP22.out.mono ?_
  rintro e w1 ⟨rfl, rfl⟩
  go_wp2_with fail
  refine (HP4.out _ _).mono ?_
  rintro e w2 ⟨d, rfl, d0, d1, rfl⟩
  go_wp2_with fail
  refine (X1.out _).mono ?_
  rintro e w3 ⟨j1, m1, rfl, hm1, hj1, hs1, hl1⟩
  obtain ⟨nv1, sv1, hM1, hV1⟩ := hm1.out
  have HL1 := Lib.hid hl1
  have HV1 := Lib.hid hV1
  have K1 := Lib.hid (And.intro hj1 hs1)
  have X2 := Lib.hid (fun back => last_any No base g nv1 sv1 (ss ++ m1) 1 back 1 w3 (by simp) (by have := HL1.out; simp; omega) hM1)
  clear hm1 hV1 hM1 hj1 hs1 hl1 X1
  go_wp2_with fail
  refine (X2.out _).mono ?_
  rintro e w4 ⟨j2, m2, rfl, hm2, hj2, hs2, hl2⟩
  obtain ⟨nv2, sv2, hM2, hV2⟩ := hm2.out
  have HL2 := Lib.hid hl2
  have HV2 := Lib.hid (HV1.out.trans hV2)
  have k1_1 := K1.out
  have k1_2 := old_kid (m := m2) k1_1.1 k1_1.2
  have XP := Lib.hid (put_new (q := ⟨6, [(j1 : Int), (j2 : Int)], 0, 0, ⟨#[]⟩⟩) (s := 1) (by have := HL1.out; have := HL2.out; simp; omega) hM2 (by simp) (Nat.zero_le _) (nd_plain 6 [(j1 : Int), (j2 : Int)] 1 (by decide) (by simp) (by simp [kcN]) (mem2 k1_2.1 hj2) (by rw [kso2 k1_2.2 hs2]; decide) (by decide)))
  clear hm2 hV2 hM2 hj2 hs2 hl2 X2 k1_2 k1_1
  go_wp2_with fail
  refine XP.out.mono ?_
  rintro e wz ⟨rfl, hmz⟩
  have HZ : Hid (More No base g nv sv w2 ss (m1 ++ m2 ++ [1]) wz) := Lib.hid (by
    obtain ⟨nvz, svz, h1, h2⟩ := hmz.out
    exact ⟨nvz, svz, by simpa [List.append_assoc] using h1, HV2.out.trans h2⟩)
  clear hmz XP
  go_wp2_with fail
  first | go_end0 | refine bodyPost_ret (results_none rfl _ _ _) rfl ?_
  exact ⟨rfl, _, HZ, by have := HL1.out; have := HL2.out; simp; omega⟩
set_option maxRecDepth 100000 in
set_option maxHeartbeats 4000000 in
theorem grow6 (base g : Nat) (nv sv : Value) (ss : List Int) (a b c : Int) (w : World) (ha : a % 22 = 6) (hl : ss.length ≤ 890) (hM : Mo No base g nv sv w ss) :
    Calls Tryz.prog 23 #[.pointer (some ⟨g, 0, none⟩), .int .i64 a, .int .i64 b, .int .i64 c, .int .i64 0] w (GrowQ base g nv sv w ss) := by
  have HP22 : Hid (Calls Tryz.prog 25 #[.int .i64 a, .int .i64 22] w fun e w' => e = .returned (.int .i64 6) ∧ w' = w) := Lib.hid (by
    have := picked_any a 22 (by decide) (by decide) w
    rw [show ((22 : Nat) : Int) = 22 from rfl, ha] at this
    exact this)
  have HP4 : Hid (∀ x W, Calls Tryz.prog 25 #[.int .i64 x, .int .i64 4] W fun e w' => ∃ r : Int, e = .returned (.int .i64 r) ∧ 0 ≤ r ∧ r < 4 ∧ w' = W) := Lib.hid (fun x W => pick_rng x 4 (by decide) (by decide) W)
  have X1 := Lib.hid (fun back => last_any No base g nv sv ss 4 back 1 w (by simp) (by omega) hM)
  clear hM ha
  go_enter Tryz.func23, Tryz.ntmps23
  go_wp2_with fail
  refine HP22.out.mono ?_
  rintro e w1 ⟨rfl, rfl⟩
  go_wp2_with fail
  refine (HP4.out _ _).mono ?_
  rintro e w2 ⟨d, rfl, d0, d1, rfl⟩
  go_wp2_with fail
  refine (X1.out _).mono ?_
  rintro e w3 ⟨j1, m1, rfl, hm1, hj1, hs1, hl1⟩
  obtain ⟨nv1, sv1, hM1, hV1⟩ := hm1.out
  have HL1 := Lib.hid hl1
  have HV1 := Lib.hid hV1
  have K1 := Lib.hid (And.intro hj1 hs1)
  have X2 := Lib.hid (fun back => last_any No base g nv1 sv1 (ss ++ m1) 4 back 1 w3 (by simp) (by have := HL1.out; simp; omega) hM1)
  clear hm1 hV1 hM1 hj1 hs1 hl1 X1
  go_wp2_with fail
  refine (X2.out _).mono ?_
  rintro e w4 ⟨j2, m2, rfl, hm2, hj2, hs2, hl2⟩
  obtain ⟨nv2, sv2, hM2, hV2⟩ := hm2.out
  have HL2 := Lib.hid hl2
  have HV2 := Lib.hid (HV1.out.trans hV2)
  have k1_1 := K1.out
  have k1_2 := old_kid (m := m2) k1_1.1 k1_1.2
  have XP := Lib.hid (put_new (q := ⟨8, [(j1 : Int), (j2 : Int)], 0, 0, ⟨#[]⟩⟩) (s := 1) (by have := HL1.out; have := HL2.out; simp; omega) hM2 (by simp) (Nat.zero_le _) (nd_plain 8 [(j1 : Int), (j2 : Int)] 1 (by decide) (by simp) (by simp [kcN]) (mem2 k1_2.1 hj2) (by rw [kso2 k1_2.2 hs2]; decide) (by decide)))
  clear hm2 hV2 hM2 hj2 hs2 hl2 X2 k1_2 k1_1
  go_wp2_with fail
  refine XP.out.mono ?_
  rintro e wz ⟨rfl, hmz⟩
  have HZ : Hid (More No base g nv sv w2 ss (m1 ++ m2 ++ [1]) wz) := Lib.hid (by
    obtain ⟨nvz, svz, h1, h2⟩ := hmz.out
    exact ⟨nvz, svz, by simpa [List.append_assoc] using h1, HV2.out.trans h2⟩)
  clear hmz XP
  go_wp2_with fail
  first | go_end0 | refine bodyPost_ret (results_none rfl _ _ _) rfl ?_
  exact ⟨rfl, _, HZ, by have := HL1.out; have := HL2.out; simp; omega⟩
set_option maxRecDepth 100000 in
set_option maxHeartbeats 4000000 in
theorem grow15 (base g : Nat) (nv sv : Value) (ss : List Int) (a b c : Int) (w : World) (ha : a % 22 = 15) (hl : ss.length ≤ 890) (hM : Mo No base g nv sv w ss) :
    Calls Tryz.prog 23 #[.pointer (some ⟨g, 0, none⟩), .int .i64 a, .int .i64 b, .int .i64 c, .int .i64 0] w (GrowQ base g nv sv w ss) := by
  have HP22 : Hid (Calls Tryz.prog 25 #[.int .i64 a, .int .i64 22] w fun e w' => e = .returned (.int .i64 15) ∧ w' = w) := Lib.hid (by
    have := picked_any a 22 (by decide) (by decide) w
    rw [show ((22 : Nat) : Int) = 22 from rfl, ha] at this
    exact this)
  have HP4 : Hid (∀ x W, Calls Tryz.prog 25 #[.int .i64 x, .int .i64 4] W fun e w' => ∃ r : Int, e = .returned (.int .i64 r) ∧ 0 ≤ r ∧ r < 4 ∧ w' = W) := Lib.hid (fun x W => pick_rng x 4 (by decide) (by decide) W)
  have X1 := Lib.hid (fun back => last_any No base g nv sv ss 13 back 1 w (by simp) (by omega) hM)
  clear hM ha
  go_enter Tryz.func23, Tryz.ntmps23
  go_wp2_with fail
  refine HP22.out.mono ?_
  rintro e w1 ⟨rfl, rfl⟩
  go_wp2_with fail
  refine (HP4.out _ _).mono ?_
  rintro e w2 ⟨d, rfl, d0, d1, rfl⟩
  go_wp2_with fail
  refine (X1.out _).mono ?_
  rintro e w3 ⟨j1, m1, rfl, hm1, hj1, hs1, hl1⟩
  obtain ⟨nv1, sv1, hM1, hV1⟩ := hm1.out
  have HL1 := Lib.hid hl1
  have HV1 := Lib.hid hV1
  have XP := Lib.hid (put_new (q := ⟨16, [(j1 : Int)], 0, 0, ⟨#[]⟩⟩) (s := 13) (by have := HL1.out; simp; omega) hM1 (by simp) (Nat.zero_le _) (nd_plain 16 [(j1 : Int)] 13 (by decide) (by simp) (by simp [kcN]) (mem1 hj1) (by rw [kso1 hs1]; decide) (by decide)))
  clear hm1 hV1 hM1 hj1 hs1 hl1 X1 
  go_wp2_with fail
  refine XP.out.mono ?_
  rintro e wz ⟨rfl, hmz⟩
  have HZ : Hid (More No base g nv sv w2 ss (m1 ++ [13]) wz) := Lib.hid (by
    obtain ⟨nvz, svz, h1, h2⟩ := hmz.out
    exact ⟨nvz, svz, by simpa [List.append_assoc] using h1, HV1.out.trans h2⟩)
  clear hmz XP
  go_wp2_with fail
  first | go_end0 | refine bodyPost_ret (results_none rfl _ _ _) rfl ?_
  exact ⟨rfl, _, HZ, by have := HL1.out; simp; omega⟩
set_option maxRecDepth 100000 in
set_option maxHeartbeats 4000000 in
theorem grow18 (base g : Nat) (nv sv : Value) (ss : List Int) (a b c : Int) (w : World) (ha : a % 22 = 18) (hl : ss.length ≤ 890) (hM : Mo No base g nv sv w ss) :
    Calls Tryz.prog 23 #[.pointer (some ⟨g, 0, none⟩), .int .i64 a, .int .i64 b, .int .i64 c, .int .i64 0] w (GrowQ base g nv sv w ss) := by
  have HP22 : Hid (Calls Tryz.prog 25 #[.int .i64 a, .int .i64 22] w fun e w' => e = .returned (.int .i64 18) ∧ w' = w) := Lib.hid (by
    have := picked_any a 22 (by decide) (by decide) w
    rw [show ((22 : Nat) : Int) = 22 from rfl, ha] at this
    exact this)
  have HP4 : Hid (∀ x W, Calls Tryz.prog 25 #[.int .i64 x, .int .i64 4] W fun e w' => ∃ r : Int, e = .returned (.int .i64 r) ∧ 0 ≤ r ∧ r < 4 ∧ w' = W) := Lib.hid (fun x W => pick_rng x 4 (by decide) (by decide) W)
  have X1 := Lib.hid (fun back => last_any No base g nv sv ss 13 back 1 w (by simp) (by omega) hM)
  clear hM ha
  go_enter Tryz.func23, Tryz.ntmps23
  go_wp2_with fail
  refine HP22.out.mono ?_
  rintro e w1 ⟨rfl, rfl⟩
  go_wp2_with fail
  refine (HP4.out _ _).mono ?_
  rintro e w2 ⟨d, rfl, d0, d1, rfl⟩
  go_wp2_with fail
  refine (X1.out _).mono ?_
  rintro e w3 ⟨j1, m1, rfl, hm1, hj1, hs1, hl1⟩
  obtain ⟨nv1, sv1, hM1, hV1⟩ := hm1.out
  have HL1 := Lib.hid hl1
  have HV1 := Lib.hid hV1
  have K1 := Lib.hid (And.intro hj1 hs1)
  have X2 := Lib.hid (fun back => last_any No base g nv1 sv1 (ss ++ m1) 13 back 1 w3 (by simp) (by have := HL1.out; simp; omega) hM1)
  clear hm1 hV1 hM1 hj1 hs1 hl1 X1
  go_wp2_with fail
  refine (X2.out _).mono ?_
  rintro e w4 ⟨j2, m2, rfl, hm2, hj2, hs2, hl2⟩
  obtain ⟨nv2, sv2, hM2, hV2⟩ := hm2.out
  have HL2 := Lib.hid hl2
  have HV2 := Lib.hid (HV1.out.trans hV2)
  have k1_1 := K1.out
  have k1_2 := old_kid (m := m2) k1_1.1 k1_1.2
  have XP := Lib.hid (put_new (q := ⟨22, [(j1 : Int), (j2 : Int)], 0, 0, ⟨#[]⟩⟩) (s := 1) (by have := HL1.out; have := HL2.out; simp; omega) hM2 (by simp) (Nat.zero_le _) (nd_plain 22 [(j1 : Int), (j2 : Int)] 1 (by decide) (by simp) (by simp [kcN]) (mem2 k1_2.1 hj2) (by rw [kso2 k1_2.2 hs2]; decide) (by decide)))
  clear hm2 hV2 hM2 hj2 hs2 hl2 X2 k1_2 k1_1
  go_wp2_with fail
  refine XP.out.mono ?_
  rintro e wz ⟨rfl, hmz⟩
  have HZ : Hid (More No base g nv sv w2 ss (m1 ++ m2 ++ [1]) wz) := Lib.hid (by
    obtain ⟨nvz, svz, h1, h2⟩ := hmz.out
    exact ⟨nvz, svz, by simpa [List.append_assoc] using h1, HV2.out.trans h2⟩)
  clear hmz XP
  go_wp2_with fail
  first | go_end0 | refine bodyPost_ret (results_none rfl _ _ _) rfl ?_
  exact ⟨rfl, _, HZ, by have := HL1.out; have := HL2.out; simp; omega⟩
set_option maxRecDepth 100000 in
set_option maxHeartbeats 4000000 in
theorem grow19 (base g : Nat) (nv sv : Value) (ss : List Int) (a b c : Int) (w : World) (ha : a % 22 = 19) (hl : ss.length ≤ 890) (hM : Mo No base g nv sv w ss) :
    Calls Tryz.prog 23 #[.pointer (some ⟨g, 0, none⟩), .int .i64 a, .int .i64 b, .int .i64 c, .int .i64 0] w (GrowQ base g nv sv w ss) := by
  have HP22 : Hid (Calls Tryz.prog 25 #[.int .i64 a, .int .i64 22] w fun e w' => e = .returned (.int .i64 19) ∧ w' = w) := Lib.hid (by
    have := picked_any a 22 (by decide) (by decide) w
    rw [show ((22 : Nat) : Int) = 22 from rfl, ha] at this
    exact this)
  have HP4 : Hid (∀ x W, Calls Tryz.prog 25 #[.int .i64 x, .int .i64 4] W fun e w' => ∃ r : Int, e = .returned (.int .i64 r) ∧ 0 ≤ r ∧ r < 4 ∧ w' = W) := Lib.hid (fun x W => pick_rng x 4 (by decide) (by decide) W)
  have X1 := Lib.hid (fun back => last_any No base g nv sv ss 13 back 1 w (by simp) (by omega) hM)
  clear hM ha
  go_enter Tryz.func23, Tryz.ntmps23
  go_wp2_with fail
  refine HP22.out.mono ?_
  rintro e w1 ⟨rfl, rfl⟩
  go_wp2_with fail
  refine (HP4.out _ _).mono ?_
  rintro e w2 ⟨d, rfl, d0, d1, rfl⟩
  go_wp2_with fail
  refine (X1.out _).mono ?_
  rintro e w3 ⟨j1, m1, rfl, hm1, hj1, hs1, hl1⟩
  obtain ⟨nv1, sv1, hM1, hV1⟩ := hm1.out
  have HL1 := Lib.hid hl1
  have HV1 := Lib.hid hV1
  have K1 := Lib.hid (And.intro hj1 hs1)
  have X2 := Lib.hid (fun back => last_any No base g nv1 sv1 (ss ++ m1) 13 back 1 w3 (by simp) (by have := HL1.out; simp; omega) hM1)
  clear hm1 hV1 hM1 hj1 hs1 hl1 X1
  go_wp2_with fail
  refine (X2.out _).mono ?_
  rintro e w4 ⟨j2, m2, rfl, hm2, hj2, hs2, hl2⟩
  obtain ⟨nv2, sv2, hM2, hV2⟩ := hm2.out
  have HL2 := Lib.hid hl2
  have HV2 := Lib.hid (HV1.out.trans hV2)
  have k1_1 := K1.out
  have k1_2 := old_kid (m := m2) k1_1.1 k1_1.2
  have XP := Lib.hid (put_new (q := ⟨8, [(j1 : Int), (j2 : Int)], 0, 0, ⟨#[]⟩⟩) (s := 1) (by have := HL1.out; have := HL2.out; simp; omega) hM2 (by simp) (Nat.zero_le _) (nd_plain 8 [(j1 : Int), (j2 : Int)] 1 (by decide) (by simp) (by simp [kcN]) (mem2 k1_2.1 hj2) (by rw [kso2 k1_2.2 hs2]; decide) (by decide)))
  clear hm2 hV2 hM2 hj2 hs2 hl2 X2 k1_2 k1_1
  go_wp2_with fail
  refine XP.out.mono ?_
  rintro e wz ⟨rfl, hmz⟩
  have HZ : Hid (More No base g nv sv w2 ss (m1 ++ m2 ++ [1]) wz) := Lib.hid (by
    obtain ⟨nvz, svz, h1, h2⟩ := hmz.out
    exact ⟨nvz, svz, by simpa [List.append_assoc] using h1, HV2.out.trans h2⟩)
  clear hmz XP
  go_wp2_with fail
  first | go_end0 | refine bodyPost_ret (results_none rfl _ _ _) rfl ?_
  exact ⟨rfl, _, HZ, by have := HL1.out; have := HL2.out; simp; omega⟩
set_option maxRecDepth 100000 in
set_option maxHeartbeats 4000000 in
theorem grow20 (base g : Nat) (nv sv : Value) (ss : List Int) (a b c : Int) (w : World) (ha : a % 22 = 20) (hl : ss.length ≤ 890) (hM : Mo No base g nv sv w ss) :
    Calls Tryz.prog 23 #[.pointer (some ⟨g, 0, none⟩), .int .i64 a, .int .i64 b, .int .i64 c, .int .i64 0] w (GrowQ base g nv sv w ss) := by
  have HP22 : Hid (Calls Tryz.prog 25 #[.int .i64 a, .int .i64 22] w fun e w' => e = .returned (.int .i64 20) ∧ w' = w) := Lib.hid (by
    have := picked_any a 22 (by decide) (by decide) w
    rw [show ((22 : Nat) : Int) = 22 from rfl, ha] at this
    exact this)
  have HP4 : Hid (∀ x W, Calls Tryz.prog 25 #[.int .i64 x, .int .i64 4] W fun e w' => ∃ r : Int, e = .returned (.int .i64 r) ∧ 0 ≤ r ∧ r < 4 ∧ w' = W) := Lib.hid (fun x W => pick_rng x 4 (by decide) (by decide) W)
  have X1 := Lib.hid (fun back => last_any No base g nv sv ss 5 back 0 w (by simp) (by omega) hM)
  clear hM ha
  go_enter Tryz.func23, Tryz.ntmps23
  go_wp2_with fail
  refine HP22.out.mono ?_
  rintro e w1 ⟨rfl, rfl⟩
  go_wp2_with fail
  refine (HP4.out _ _).mono ?_
  rintro e w2 ⟨d, rfl, d0, d1, rfl⟩
  go_wp2_with fail
  refine (X1.out _).mono ?_
  rintro e w3 ⟨j1, m1, rfl, hm1, hj1, hs1, hl1⟩
  obtain ⟨nv1, sv1, hM1, hV1⟩ := hm1.out
  have HL1 := Lib.hid hl1
  have HV1 := Lib.hid hV1
  have K1 := Lib.hid (And.intro hj1 hs1)
  have X2 := Lib.hid (fun back => last_any No base g nv1 sv1 (ss ++ m1) 4 back 1 w3 (by simp) (by have := HL1.out; simp; omega) hM1)
  clear hm1 hV1 hM1 hj1 hs1 hl1 X1
  go_wp2_with fail
  refine (X2.out _).mono ?_
  rintro e w4 ⟨j2, m2, rfl, hm2, hj2, hs2, hl2⟩
  obtain ⟨nv2, sv2, hM2, hV2⟩ := hm2.out
  have HL2 := Lib.hid hl2
  have HV2 := Lib.hid (HV1.out.trans hV2)
  have k1_1 := K1.out
  have k1_2 := old_kid (m := m2) k1_1.1 k1_1.2
  have XP := Lib.hid (put_new (q := ⟨24, [(j1 : Int), (j2 : Int)], 0, 0, ⟨#[]⟩⟩) (s := 4) (by have := HL1.out; have := HL2.out; simp; omega) hM2 (by simp) (Nat.zero_le _) (nd_plain 24 [(j1 : Int), (j2 : Int)] 4 (by decide) (by simp) (by simp [kcN]) (mem2 k1_2.1 hj2) (by rw [kso2 k1_2.2 hs2]; decide) (by decide)))
  clear hm2 hV2 hM2 hj2 hs2 hl2 X2 k1_2 k1_1
  go_wp2_with fail
  refine XP.out.mono ?_
  rintro e wz ⟨rfl, hmz⟩
  have HZ : Hid (More No base g nv sv w2 ss (m1 ++ m2 ++ [4]) wz) := Lib.hid (by
    obtain ⟨nvz, svz, h1, h2⟩ := hmz.out
    exact ⟨nvz, svz, by simpa [List.append_assoc] using h1, HV2.out.trans h2⟩)
  clear hmz XP
  go_wp2_with fail
  first | go_end0 | refine bodyPost_ret (results_none rfl _ _ _) rfl ?_
  exact ⟨rfl, _, HZ, by have := HL1.out; have := HL2.out; simp; omega⟩
set_option maxRecDepth 100000 in
set_option maxHeartbeats 4000000 in
theorem grow21 (base g : Nat) (nv sv : Value) (ss : List Int) (a b c : Int) (w : World) (ha : a % 22 = 21) (hl : ss.length ≤ 890) (hM : Mo No base g nv sv w ss) :
    Calls Tryz.prog 23 #[.pointer (some ⟨g, 0, none⟩), .int .i64 a, .int .i64 b, .int .i64 c, .int .i64 0] w (GrowQ base g nv sv w ss) := by
  have HP22 : Hid (Calls Tryz.prog 25 #[.int .i64 a, .int .i64 22] w fun e w' => e = .returned (.int .i64 21) ∧ w' = w) := Lib.hid (by
    have := picked_any a 22 (by decide) (by decide) w
    rw [show ((22 : Nat) : Int) = 22 from rfl, ha] at this
    exact this)
  have HP4 : Hid (∀ x W, Calls Tryz.prog 25 #[.int .i64 x, .int .i64 4] W fun e w' => ∃ r : Int, e = .returned (.int .i64 r) ∧ 0 ≤ r ∧ r < 4 ∧ w' = W) := Lib.hid (fun x W => pick_rng x 4 (by decide) (by decide) W)
  have X1 := Lib.hid (fun back => last_any No base g nv sv ss 5 back 0 w (by simp) (by omega) hM)
  clear hM ha
  go_enter Tryz.func23, Tryz.ntmps23
  go_wp2_with fail
  refine HP22.out.mono ?_
  rintro e w1 ⟨rfl, rfl⟩
  go_wp2_with fail
  refine (HP4.out _ _).mono ?_
  rintro e w2 ⟨d, rfl, d0, d1, rfl⟩
  go_wp2_with fail
  refine (X1.out _).mono ?_
  rintro e w3 ⟨j1, m1, rfl, hm1, hj1, hs1, hl1⟩
  obtain ⟨nv1, sv1, hM1, hV1⟩ := hm1.out
  have HL1 := Lib.hid hl1
  have HV1 := Lib.hid hV1
  have K1 := Lib.hid (And.intro hj1 hs1)
  have X2 := Lib.hid (fun back => last_any No base g nv1 sv1 (ss ++ m1) 4 back 1 w3 (by simp) (by have := HL1.out; simp; omega) hM1)
  clear hm1 hV1 hM1 hj1 hs1 hl1 X1
  go_wp2_with fail
  refine (X2.out _).mono ?_
  rintro e w4 ⟨j2, m2, rfl, hm2, hj2, hs2, hl2⟩
  obtain ⟨nv2, sv2, hM2, hV2⟩ := hm2.out
  have HL2 := Lib.hid hl2
  have HV2 := Lib.hid (HV1.out.trans hV2)
  have K2 := Lib.hid (And.intro hj2 hs2)
  have X3 := Lib.hid (fun back => last_any No base g nv2 sv2 ((ss ++ m1) ++ m2) 4 back 1 w4 (by simp) (by have := HL1.out; have := HL2.out; simp; omega) hM2)
  clear hm2 hV2 hM2 hj2 hs2 hl2 X2
  go_wp2_with fail
  refine (X3.out _).mono ?_
  rintro e w5 ⟨j3, m3, rfl, hm3, hj3, hs3, hl3⟩
  obtain ⟨nv3, sv3, hM3, hV3⟩ := hm3.out
  have HL3 := Lib.hid hl3
  have HV3 := Lib.hid (HV2.out.trans hV3)
  have k1_1 := K1.out
  have k1_2 := old_kid (m := m2) k1_1.1 k1_1.2
  have k1_3 := old_kid (m := m3) k1_2.1 k1_2.2
  have k2_2 := K2.out
  have k2_3 := old_kid (m := m3) k2_2.1 k2_2.2
  have XP := Lib.hid (put_new (q := ⟨25, [(j1 : Int), (j2 : Int), (j3 : Int)], 0, 0, ⟨#[]⟩⟩) (s := 5) (by have := HL1.out; have := HL2.out; have := HL3.out; simp; omega) hM3 (by simp) (Nat.zero_le _) (nd_plain 25 [(j1 : Int), (j2 : Int), (j3 : Int)] 5 (by decide) (by simp) (by simp [kcN]) (mem3 k1_3.1 k2_3.1 hj3) (by rw [kso3 k1_3.2 k2_3.2 hs3]; decide) (by decide)))
  clear hm3 hV3 hM3 hj3 hs3 hl3 X3 k1_3 k1_2 k1_1 k2_3 k2_2
  go_wp2_with fail
  refine XP.out.mono ?_
  rintro e wz ⟨rfl, hmz⟩
  have HZ : Hid (More No base g nv sv w2 ss (m1 ++ m2 ++ m3 ++ [5]) wz) := Lib.hid (by
    obtain ⟨nvz, svz, h1, h2⟩ := hmz.out
    exact ⟨nvz, svz, by simpa [List.append_assoc] using h1, HV3.out.trans h2⟩)
  clear hmz XP
  go_wp2_with fail
  first | go_end0 | refine bodyPost_ret (results_none rfl _ _ _) rfl ?_
  exact ⟨rfl, _, HZ, by have := HL1.out; have := HL2.out; have := HL3.out; simp; omega⟩
end Go.Proofs.YtcpeddogckillaaGreat
