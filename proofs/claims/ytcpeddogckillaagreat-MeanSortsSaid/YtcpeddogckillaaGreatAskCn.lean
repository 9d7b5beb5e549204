/-
  Asks that are made of raw numbers: nodes that grow, case by case: a choice, a product.
-/
import Derived.Test.YtcpeddogckillaaGreatAskCm
import Derived.Deep.RegionHeld3
namespace Go.Proofs.YtcpeddogckillaaGreat
open Go.RowKit

theorem mo_base {Y : Nat → Prop} {base g : Nat} {nv sv : Value} {ss : List Int} {w : World} (h : Mo Y base g nv sv w ss) : base ≤ w.heap.size := by
  obtain ⟨ps, h1, _⟩ := h
  have := h1.2.1.lt
  have := h1.1
  omega
set_option maxRecDepth 100000 in
set_option maxHeartbeats 4000000 in
theorem grow4_any (base g : Nat) (nv sv : Value) (ss : List Int) (a b c : Int) (w : World) (ha : a % 22 = 4) (hl : ss.length ≤ 890) (hM : Mo No base g nv sv w ss) :
    Calls Tryz.prog 23 #[.pointer (some ⟨g, 0, none⟩), .int .i64 a, .int .i64 b, .int .i64 c, .int .i64 0] w (GrowQ base g nv sv w ss) := by
  have HP22 : Hid (Calls Tryz.prog 25 #[.int .i64 a, .int .i64 22] w fun e w' => e = .returned (.int .i64 4) ∧ w' = w) := Lib.hid (by
    have := picked_any a 22 (by decide) (by decide) w
    rw [show ((22 : Nat) : Int) = 22 from rfl, ha] at this
    exact this)
  have HPK : Hid (∀ x (n : Nat) W, 1 ≤ n → n ≤ 1000 → Calls Tryz.prog 25 #[.int .i64 x, .int .i64 n] W fun e w' => ∃ r : Int, e = .returned (.int .i64 r) ∧ 0 ≤ r ∧ r < n ∧ w' = W) := Lib.hid (fun x n W h1 h2 => pick_rng x n h1 h2 W)
  have HP4 : Hid (∀ x W, Calls Tryz.prog 25 #[.int .i64 x, .int .i64 4] W fun e w' => ∃ r : Int, e = .returned (.int .i64 r) ∧ 0 ≤ r ∧ r < 4 ∧ w' = W) := Lib.hid (fun x W => pick_rng x 4 (by decide) (by decide) W)
  have HV0 : Hid (Mv base (Mb g nv sv) w (Mb g nv sv) (w.alloc (.cells #[.int .i64 1, .int .i64 2, .int .i64 4, .int .i64 3] 3))) := Lib.hid (mv_below (mo_base hM) (new_below _ _))
  have X1 := Lib.hid (fun back => last_any No base g nv sv ss 1 back 0 (w.alloc (.cells #[.int .i64 1, .int .i64 2, .int .i64 4, .int .i64 3] 3)) (by simp) (by omega) (hM.mv (new_below _ _)))
  clear hM ha
  go_enter Tryz.func23, Tryz.ntmps23
  go_wp2_with fail
  refine HP22.out.mono ?_
  rintro e w1 ⟨rfl, rfl⟩
  go_wp2_with fail
  refine (HP4.out _ _).mono ?_
  rintro e w2 ⟨d, rfl, d0, d1, rfl⟩
  have d4 : d = 0 ∨ d = 1 ∨ d = 2 ∨ d = 3 := by omega
  clear d0 d1
  rcases d4 with rfl | rfl | rfl | rfl
  · go_wp2_with fail
    refine (X1.out _).mono ?_
    rintro e w3 ⟨j1, m1, rfl, hm1, hj1, hs1, hl1⟩
    obtain ⟨nv1, sv1, hM1, hV1⟩ := hm1.out
    have HL1 := Lib.hid hl1
    have HV1 := Lib.hid (HV0.out.trans hV1)
    have K1 := Lib.hid (And.intro hj1 hs1)
    have X2 := Lib.hid (fun back => last_any No base g nv1 sv1 (ss ++ m1) 1 back 1 w3 (by simp) (by have := HL1.out; simp; omega) hM1)
    clear hm1 hV1 hM1 hj1 hs1 hl1 X1
    go_wp2_with fail
    refine (X2.out _).mono ?_
    rintro e w4 ⟨j2, m2, rfl, hm2, hj2, hs2, hl2⟩
    obtain ⟨nv2, sv2, hM2, hV2⟩ := hm2.out
    have HL2 := Lib.hid hl2
    have HV2 := Lib.hid (HV1.out.trans hV2)
    have K2 := Lib.hid (And.intro hj2 hs2)
    have X3 := Lib.hid (fun back => last_any No base g nv2 sv2 ((ss ++ m1) ++ m2) 1 back 1 w4 (by simp) (by have := HL1.out; have := HL2.out; simp; omega) hM2)
    clear hm2 hV2 hM2 hj2 hs2 hl2 X2
    go_wp2_with fail
    refine (X3.out _).mono ?_
    rintro e w5 ⟨j3, m3, rfl, hm3, hj3, hs3, hl3⟩
    obtain ⟨nv3, sv3, hM3, hV3⟩ := hm3.out
    have HL3 := Lib.hid hl3
    have HV3 := Lib.hid (HV2.out.trans hV3)
    have k1_1 := K1.out
    have k1_2 := old_kid (m := m2) k1_1.1 k1_1.2
    have k1_3 := old_kid (m := m3) k1_2.1 k1_2.2
    have k2_2 := K2.out
    have k2_3 := old_kid (m := m3) k2_2.1 k2_2.2
    have XP := Lib.hid ((put_new (q := ⟨7, [(j1 : Int), (j2 : Int), (j3 : Int)], 0, 0, ⟨#[]⟩⟩) (s := 1) (by have := HL1.out; have := HL2.out; have := HL3.out; simp; omega) hM3 (by simp) (Nat.zero_le _) (nd_plain 7 [(j1 : Int), (j2 : Int), (j3 : Int)] 1 (by decide) (by simp) (by simp [kcN]) (mem3 k1_3.1 k2_3.1 hj3) (by rw [kso3 k1_3.2 k2_3.2 hs3]; decide) (by decide))))
    clear hm3 hV3 hM3 hj3 hs3 hl3 X3 k1_3 k1_2 k1_1 k2_3 k2_2
    go_wp2_with fail
    refine (XP.out).mono ?_
    rintro e wz ⟨rfl, hmz⟩
    have HZ : Hid (More No base g nv sv w2 ss (m1 ++ m2 ++ m3 ++ [1]) wz) := Lib.hid (by
      obtain ⟨nvz, svz, h1, h2⟩ := hmz.out
      exact ⟨nvz, svz, by simpa [List.append_assoc] using h1, HV3.out.trans h2⟩)
    clear hmz XP
    go_wp2_with fail
    first | go_end0 | refine bodyPost_ret (results_none rfl _ _ _) rfl ?_
    exact ⟨rfl, _, HZ, by have := HL1.out; have := HL2.out; have := HL3.out; simp; omega⟩
  · go_wp2_with fail
    refine (X1.out _).mono ?_
    rintro e w3 ⟨j1, m1, rfl, hm1, hj1, hs1, hl1⟩
    obtain ⟨nv1, sv1, hM1, hV1⟩ := hm1.out
    have HL1 := Lib.hid hl1
    have HV1 := Lib.hid (HV0.out.trans hV1)
    have K1 := Lib.hid (And.intro hj1 hs1)
    have X2 := Lib.hid (fun back => last_any No base g nv1 sv1 (ss ++ m1) 2 back 1 w3 (by simp) (by have := HL1.out; simp; omega) hM1)
    clear hm1 hV1 hM1 hj1 hs1 hl1 X1
    go_wp2_with fail
    refine (X2.out _).mono ?_
    rintro e w4 ⟨j2, m2, rfl, hm2, hj2, hs2, hl2⟩
    obtain ⟨nv2, sv2, hM2, hV2⟩ := hm2.out
    have HL2 := Lib.hid hl2
    have HV2 := Lib.hid (HV1.out.trans hV2)
    have K2 := Lib.hid (And.intro hj2 hs2)
    have X3 := Lib.hid (fun back => last_any No base g nv2 sv2 ((ss ++ m1) ++ m2) 2 back 1 w4 (by simp) (by have := HL1.out; have := HL2.out; simp; omega) hM2)
    clear hm2 hV2 hM2 hj2 hs2 hl2 X2
    go_wp2_with fail
    refine (X3.out _).mono ?_
    rintro e w5 ⟨j3, m3, rfl, hm3, hj3, hs3, hl3⟩
    obtain ⟨nv3, sv3, hM3, hV3⟩ := hm3.out
    have HL3 := Lib.hid hl3
    have HV3 := Lib.hid (HV2.out.trans hV3)
    have k1_1 := K1.out
    have k1_2 := old_kid (m := m2) k1_1.1 k1_1.2
    have k1_3 := old_kid (m := m3) k1_2.1 k1_2.2
    have k2_2 := K2.out
    have k2_3 := old_kid (m := m3) k2_2.1 k2_2.2
    have XP := Lib.hid ((put_new (q := ⟨7, [(j1 : Int), (j2 : Int), (j3 : Int)], 0, 0, ⟨#[]⟩⟩) (s := 2) (by have := HL1.out; have := HL2.out; have := HL3.out; simp; omega) hM3 (by simp) (Nat.zero_le _) (nd_plain 7 [(j1 : Int), (j2 : Int), (j3 : Int)] 2 (by decide) (by simp) (by simp [kcN]) (mem3 k1_3.1 k2_3.1 hj3) (by rw [kso3 k1_3.2 k2_3.2 hs3]; decide) (by decide))))
    clear hm3 hV3 hM3 hj3 hs3 hl3 X3 k1_3 k1_2 k1_1 k2_3 k2_2
    go_wp2_with fail
    refine (XP.out).mono ?_
    rintro e wz ⟨rfl, hmz⟩
    have HZ : Hid (More No base g nv sv w2 ss (m1 ++ m2 ++ m3 ++ [2]) wz) := Lib.hid (by
      obtain ⟨nvz, svz, h1, h2⟩ := hmz.out
      exact ⟨nvz, svz, by simpa [List.append_assoc] using h1, HV3.out.trans h2⟩)
    clear hmz XP
    go_wp2_with fail
    first | go_end0 | refine bodyPost_ret (results_none rfl _ _ _) rfl ?_
    exact ⟨rfl, _, HZ, by have := HL1.out; have := HL2.out; have := HL3.out; simp; omega⟩
  · go_wp2_with fail
    refine (X1.out _).mono ?_
    rintro e w3 ⟨j1, m1, rfl, hm1, hj1, hs1, hl1⟩
    obtain ⟨nv1, sv1, hM1, hV1⟩ := hm1.out
    have HL1 := Lib.hid hl1
    have HV1 := Lib.hid (HV0.out.trans hV1)
    have K1 := Lib.hid (And.intro hj1 hs1)
    have X2 := Lib.hid (fun back => last_any No base g nv1 sv1 (ss ++ m1) 4 back 1 w3 (by simp) (by have := HL1.out; simp; omega) hM1)
    clear hm1 hV1 hM1 hj1 hs1 hl1 X1
    go_wp2_with fail
    refine (X2.out _).mono ?_
    rintro e w4 ⟨j2, m2, rfl, hm2, hj2, hs2, hl2⟩
    obtain ⟨nv2, sv2, hM2, hV2⟩ := hm2.out
    have HL2 := Lib.hid hl2
    have HV2 := Lib.hid (HV1.out.trans hV2)
    have K2 := Lib.hid (And.intro hj2 hs2)
    have X3 := Lib.hid (fun back => last_any No base g nv2 sv2 ((ss ++ m1) ++ m2) 4 back 1 w4 (by simp) (by have := HL1.out; have := HL2.out; simp; omega) hM2)
    clear hm2 hV2 hM2 hj2 hs2 hl2 X2
    go_wp2_with fail
    refine (X3.out _).mono ?_
    rintro e w5 ⟨j3, m3, rfl, hm3, hj3, hs3, hl3⟩
    obtain ⟨nv3, sv3, hM3, hV3⟩ := hm3.out
    have HL3 := Lib.hid hl3
    have HV3 := Lib.hid (HV2.out.trans hV3)
    have k1_1 := K1.out
    have k1_2 := old_kid (m := m2) k1_1.1 k1_1.2
    have k1_3 := old_kid (m := m3) k1_2.1 k1_2.2
    have k2_2 := K2.out
    have k2_3 := old_kid (m := m3) k2_2.1 k2_2.2
    have XP := Lib.hid ((put_new (q := ⟨7, [(j1 : Int), (j2 : Int), (j3 : Int)], 0, 0, ⟨#[]⟩⟩) (s := 4) (by have := HL1.out; have := HL2.out; have := HL3.out; simp; omega) hM3 (by simp) (Nat.zero_le _) (nd_plain 7 [(j1 : Int), (j2 : Int), (j3 : Int)] 4 (by decide) (by simp) (by simp [kcN]) (mem3 k1_3.1 k2_3.1 hj3) (by rw [kso3 k1_3.2 k2_3.2 hs3]; decide) (by decide))))
    clear hm3 hV3 hM3 hj3 hs3 hl3 X3 k1_3 k1_2 k1_1 k2_3 k2_2
    go_wp2_with fail
    refine (XP.out).mono ?_
    rintro e wz ⟨rfl, hmz⟩
    have HZ : Hid (More No base g nv sv w2 ss (m1 ++ m2 ++ m3 ++ [4]) wz) := Lib.hid (by
      obtain ⟨nvz, svz, h1, h2⟩ := hmz.out
      exact ⟨nvz, svz, by simpa [List.append_assoc] using h1, HV3.out.trans h2⟩)
    clear hmz XP
    go_wp2_with fail
    first | go_end0 | refine bodyPost_ret (results_none rfl _ _ _) rfl ?_
    exact ⟨rfl, _, HZ, by have := HL1.out; have := HL2.out; have := HL3.out; simp; omega⟩
  · go_wp2_with fail
    refine (X1.out _).mono ?_
    rintro e w3 ⟨j1, m1, rfl, hm1, hj1, hs1, hl1⟩
    obtain ⟨nv1, sv1, hM1, hV1⟩ := hm1.out
    have HL1 := Lib.hid hl1
    have HV1 := Lib.hid (HV0.out.trans hV1)
    have K1 := Lib.hid (And.intro hj1 hs1)
    have X2 := Lib.hid (fun back => last_any No base g nv1 sv1 (ss ++ m1) 3 back 1 w3 (by simp) (by have := HL1.out; simp; omega) hM1)
    clear hm1 hV1 hM1 hj1 hs1 hl1 X1
    go_wp2_with fail
    refine (X2.out _).mono ?_
    rintro e w4 ⟨j2, m2, rfl, hm2, hj2, hs2, hl2⟩
    obtain ⟨nv2, sv2, hM2, hV2⟩ := hm2.out
    have HL2 := Lib.hid hl2
    have HV2 := Lib.hid (HV1.out.trans hV2)
    have K2 := Lib.hid (And.intro hj2 hs2)
    have X3 := Lib.hid (fun back => last_any No base g nv2 sv2 ((ss ++ m1) ++ m2) 3 back 1 w4 (by simp) (by have := HL1.out; have := HL2.out; simp; omega) hM2)
    clear hm2 hV2 hM2 hj2 hs2 hl2 X2
    go_wp2_with fail
    refine (X3.out _).mono ?_
    rintro e w5 ⟨j3, m3, rfl, hm3, hj3, hs3, hl3⟩
    obtain ⟨nv3, sv3, hM3, hV3⟩ := hm3.out
    have HL3 := Lib.hid hl3
    have HV3 := Lib.hid (HV2.out.trans hV3)
    have k1_1 := K1.out
    have k1_2 := old_kid (m := m2) k1_1.1 k1_1.2
    have k1_3 := old_kid (m := m3) k1_2.1 k1_2.2
    have k2_2 := K2.out
    have k2_3 := old_kid (m := m3) k2_2.1 k2_2.2
    have XP := Lib.hid ((put_new (q := ⟨7, [(j1 : Int), (j2 : Int), (j3 : Int)], 0, 0, ⟨#[]⟩⟩) (s := 3) (by have := HL1.out; have := HL2.out; have := HL3.out; simp; omega) hM3 (by simp) (Nat.zero_le _) (nd_plain 7 [(j1 : Int), (j2 : Int), (j3 : Int)] 3 (by decide) (by simp) (by simp [kcN]) (mem3 k1_3.1 k2_3.1 hj3) (by rw [kso3 k1_3.2 k2_3.2 hs3]; decide) (by decide))))
    clear hm3 hV3 hM3 hj3 hs3 hl3 X3 k1_3 k1_2 k1_1 k2_3 k2_2
    go_wp2_with fail
    refine (XP.out).mono ?_
    rintro e wz ⟨rfl, hmz⟩
    have HZ : Hid (More No base g nv sv w2 ss (m1 ++ m2 ++ m3 ++ [3]) wz) := Lib.hid (by
      obtain ⟨nvz, svz, h1, h2⟩ := hmz.out
      exact ⟨nvz, svz, by simpa [List.append_assoc] using h1, HV3.out.trans h2⟩)
    clear hmz XP
    go_wp2_with fail
    first | go_end0 | refine bodyPost_ret (results_none rfl _ _ _) rfl ?_
    exact ⟨rfl, _, HZ, by have := HL1.out; have := HL2.out; have := HL3.out; simp; omega⟩
theorem nd_times {ss : List Int} (n d s t : Int) (ks : List Int) (hk : ks.length = 1) (h5 : ∀ k ∈ ks, 0 ≤ k ∧ k < ss.length) (h7 : kSo ss ks = [s]) (hn : flC 12 n d true = 0) (ht : srt 12 d 0 [s] = t) (h0 : t ≠ 0) :
    ndC dqs ⟨12, ks, n, d, ⟨#[]⟩⟩ ss.length ss = 0 ∧ ndT dqs ⟨12, ks, n, d, ⟨#[]⟩⟩ ss = t :=
  nd_ok (by simp) (fun z => absurd z (by simp)) (by simp [hk]) (.inr (by simp [kWant, kcN, hk])) h5 (by simpa using hn) (by simp [ndT, kDs, h7, ht]) h0
theorem nd_times2 {ss : List Int} (r s : Int) (h0 : 0 ≤ r) (h1 : r < 3) (hs : s = 2 ∨ s = 3) (ks : List Int) (hk : ks.length = 1) (h5 : ∀ k ∈ ks, 0 ≤ k ∧ k < ss.length) (h7 : kSo ss ks = [s]) :
    ndC dqs ⟨12, ks, 2 * r - 1, 2, ⟨#[]⟩⟩ ss.length ss = 0 ∧ ndT dqs ⟨12, ks, 2 * r - 1, 2, ⟨#[]⟩⟩ ss = 3 := by
  have r3 : r = 0 ∨ r = 1 ∨ r = 2 := by omega
  refine nd_times _ _ s _ ks hk h5 h7 ?_ ?_ (by decide)
  · rcases r3 with rfl | rfl | rfl <;> decide +kernel
  · rcases hs with rfl | rfl <;> decide
theorem nd_times1 {ss : List Int} (r s : Int) (h0 : 0 ≤ r) (h1 : r < 7) (hs : s = 2 ∨ s = 3) (ks : List Int) (hk : ks.length = 1) (h5 : ∀ k ∈ ks, 0 ≤ k ∧ k < ss.length) (h7 : kSo ss ks = [s]) :
    ndC dqs ⟨12, ks, r - 3, 1, ⟨#[]⟩⟩ ss.length ss = 0 ∧ ndT dqs ⟨12, ks, r - 3, 1, ⟨#[]⟩⟩ ss = s := by
  have r7 : r = 0 ∨ r = 1 ∨ r = 2 ∨ r = 3 ∨ r = 4 ∨ r = 5 ∨ r = 6 := by omega
  refine nd_times _ _ s _ ks hk h5 h7 ?_ ?_ (by omega)
  · rcases r7 with rfl | rfl | rfl | rfl | rfl | rfl | rfl <;> decide +kernel
  · rcases hs with rfl | rfl <;> decide
/-- The maker's row of sorts. -/
theorem mo_sorts {Y : Nat → Prop} {base g : Nat} {nv sv : Value} {ss : List Int} {w : World} (h : Mo Y base g nv sv w ss) {j : Nat} (hj : j < ss.length) :
    ∃ bs c, sv = .slice (some ⟨bs, 0, none⟩) ss.length c ∧ ss.length ≤ c ∧ w.cell? ⟨g, 1, none⟩ = some (.slice (some ⟨bs, 0, none⟩) ss.length c) ∧ g < w.heap.size ∧ w.cell? ⟨bs, j, none⟩ = some (.int .i64 (nth ss j)) ∧ bs < w.heap.size := by
  obtain ⟨ps, ⟨_, hg, _, ho, _⟩, _⟩ := h
  rcases ho.2 with ⟨_, h0⟩ | ⟨b, cap, cur, rfl, hb, hh, hc, _, hsz, htk⟩
  · omega
  · refine ⟨b, cap, rfl, by omega, hg.cell 1, hg.lt, ?_, HB.lt hh⟩
    have e1 : (intV ss)[j]? = some (.int .i64 (nth ss j)) := by simp [intV, nth, List.getD, hj]
    rw [← htk, Nat.mul_one, List.getElem?_take_of_lt (by omega)] at e1
    rw [cell_of_row w b j cur 3 (0, 0) hh]
    simpa using e1
set_option maxRecDepth 100000 in
set_option maxHeartbeats 4000000 in
theorem grow11_any (base g : Nat) (nv sv : Value) (ss : List Int) (a b c : Int) (w : World) (ha : a % 22 = 11) (hl : ss.length ≤ 890) (hM : Mo No base g nv sv w ss) :
    Calls Tryz.prog 23 #[.pointer (some ⟨g, 0, none⟩), .int .i64 a, .int .i64 b, .int .i64 c, .int .i64 0] w (GrowQ base g nv sv w ss) := by
  have HP22 : Hid (Calls Tryz.prog 25 #[.int .i64 a, .int .i64 22] w fun e w' => e = .returned (.int .i64 11) ∧ w' = w) := Lib.hid (by
    have := picked_any a 22 (by decide) (by decide) w
    rw [show ((22 : Nat) : Int) = 22 from rfl, ha] at this
    exact this)
  have HPK : Hid (∀ x (n : Nat) W, 1 ≤ n → n ≤ 1000 → Calls Tryz.prog 25 #[.int .i64 x, .int .i64 n] W fun e w' => ∃ r : Int, e = .returned (.int .i64 r) ∧ 0 ≤ r ∧ r < n ∧ w' = W) := Lib.hid (fun x n W h1 h2 => pick_rng x n h1 h2 W)
  have HP4 : Hid (∀ x W, Calls Tryz.prog 25 #[.int .i64 x, .int .i64 4] W fun e w' => ∃ r : Int, e = .returned (.int .i64 r) ∧ 0 ≤ r ∧ r < 4 ∧ w' = W) := Lib.hid (fun x W => pick_rng x 4 (by decide) (by decide) W)
  have HP7 : Hid (∀ x W, Calls Tryz.prog 25 #[.int .i64 x, .int .i64 7] W fun e w' => ∃ r : Int, e = .returned (.int .i64 r) ∧ 0 ≤ r ∧ r < 7 ∧ w' = W) := Lib.hid (fun x W => pick_rng x 7 (by decide) (by decide) W)
  have HB0 := Lib.hid (mo_base hM)
  have X1 := Lib.hid (fun back => mknumber_any No base g nv sv ss back 1 w (by omega) hM)
  clear hM ha
  go_enter Tryz.func23, Tryz.ntmps23
  go_wp2_with fail
  refine HP22.out.mono ?_
  rintro e w1 ⟨rfl, rfl⟩
  go_wp2_with fail
  refine (HP4.out _ _).mono ?_
  rintro e w2 ⟨d, rfl, d0, d1, rfl⟩
  by_cases hd : d = 0
  · subst hd
    clear d0 d1
    go_wp2_with fail
    refine (X1.out _).mono ?_
    rintro e w3 ⟨q1, hq1, j1, m1, rfl, hm1, hj1, hs1, hl1⟩
    obtain ⟨nv1, sv1, hM1, hV1⟩ := hm1.out
    have HL1 := Lib.hid hl1
    have HV1 := Lib.hid hV1
    have HQ1 := Lib.hid hq1
    have XP := Lib.hid (fun r (h0 : 0 ≤ r) (h1 : r < 3) => (put_new (q := ⟨12, [(j1 : Int)], 2 * r - 1, 2, ⟨#[]⟩⟩) (s := 3) (by have := HL1.out; simp; omega) hM1 (by simp) (Nat.zero_le _) (nd_times2 r _ h0 h1 HQ1.out [(j1 : Int)] (by simp) (mem1 hj1) (kso1 hs1))))
    clear hm1 hV1 hM1 hj1 hs1 hl1 X1 hq1 
    go_wp2_with fail
    refine (HPK.out _ 3 _ (by decide) (by decide)).mono ?_
    rintro e w9 ⟨r, rfl, r0, r1, rfl⟩
    have r2 : r < 3 := by omega
    clear r1
    go_wp2_with fail
    refine (XP.out r r0 (by omega)).mono ?_
    rintro e wz ⟨rfl, hmz⟩
    have HZ : Hid (More No base g nv sv w2 ss (m1 ++ [3]) wz) := Lib.hid (by
      obtain ⟨nvz, svz, h1, h2⟩ := hmz.out
      exact ⟨nvz, svz, by simpa [List.append_assoc] using h1, HV1.out.trans h2⟩)
    clear hmz XP
    go_wp2_with fail
    first | go_end0 | refine bodyPost_ret (results_none rfl _ _ _) rfl ?_
    exact ⟨rfl, _, HZ, by have := HL1.out; simp; omega⟩
  · have td : (d == 0) = false := by simpa using hd
    go_wp2_with fail
    refine (X1.out _).mono ?_
    rintro e w3 ⟨q1, hq1, j1, m1, rfl, hm1, hj1, hs1, hl1⟩
    obtain ⟨nv1, sv1, hM1, hV1⟩ := hm1.out
    have HL1 := Lib.hid hl1
    have HV1 := Lib.hid hV1
    obtain ⟨bs, cs, rfl, hcs, e0, e1, e2, e3⟩ := mo_sorts hM1 hj1
    have hKn : Kat ((w3.alloc (.cells #[.int .i64 j1] 3)).drew) (MbY No g nv1 (.slice (some ⟨bs, 0, none⟩) (ss ++ m1).length cs)) (.slice (some ⟨w3.heap.size, 0, none⟩) 1 1) [(j1 : Int)] := kat_new hM1 [(j1 : Int)] (by unfold maxLen; simp)
    have XP : Hid (∀ r : Int, 0 ≤ r → r < 7 → Calls Tryz.prog 53 #[.pointer (some ⟨g, 0, none⟩), .agg #[.int .i64 12, .slice (some ⟨w3.heap.size, 0, none⟩) 1 1, .int .i64 (IntKind.i64.wrap (r - 3)), .int .i64 1, .string ⟨#[]⟩], .int .i64 q1] ((w3.alloc (.cells #[.int .i64 j1] 3)).drew) fun e w' => e = .returned (.int .i64 (ss ++ m1).length) ∧ Hid (More No base g nv1 (.slice (some ⟨bs, 0, none⟩) (ss ++ m1).length cs) w3 (ss ++ m1) [q1] w')) := Lib.hid (fun r h0 h1 => by
      rw [IntWalk.i64_in (r - 3) (by omega)]
      exact put_mo (kv := .slice (some ⟨w3.heap.size, 0, none⟩) 1 1) ⟨12, [(j1 : Int)], r - 3, 1, ⟨#[]⟩⟩ q1 (by have := HL1.out; simp; omega) hM1 (new_below _ _).drew hKn (Nat.zero_le _) (nd_times1 r q1 h0 h1 hq1 [(j1 : Int)] (by simp) (mem1 hj1) (kso1 hs1)))
    clear hKn
    rw [hs1] at e2
    have hml : (ss ++ m1).length ≤ 900 := by simp; omega
    have HK : Hid (∀ W, Below w3.heap.size w3 W → W.cell? ⟨g, 1, none⟩ = some (.slice (some ⟨bs, 0, none⟩) (ss ++ m1).length cs) ∧ W.cell? ⟨bs, j1, none⟩ = some (.int .i64 q1)) := Lib.hid (fun W hW => ⟨(hW.cell (p := ⟨g, 1, none⟩) e1).trans e0, (hW.cell (p := ⟨bs, j1, none⟩) e3).trans e2⟩)
    clear hm1 hV1 hM1 hs1 hl1 X1 hq1
    generalize hmL : (ss ++ m1).length = mL at *
    clear hmL hd
    go_wp2_with fail
    have mjj : (0 : Int) ≤ j1 := by omega
    have mj1 : decide ((j1 : Int) < mL) = true := by simpa using hj1
    clear HK
    go_region_with (first
        | (go_at_call 25; (with_reducible refine (HP7.out _ _).mono ?_); rintro e w9 ⟨r, rfl, r0, r7, rfl⟩)
        | (go_at_call 53; (with_reducible refine (XP.out r r0 r7).mono ?_); rintro e wz ⟨rfl, hmz⟩; have HZ0 := Lib.hid hmz.out; clear hmz))
    all_goals
      have HZ : Hid (More No base g nv sv w2 ss (m1 ++ [q1]) wz) := Lib.hid (by
        obtain ⟨nvz, svz, h1, h2⟩ := HZ0.out
        exact ⟨nvz, svz, by simpa [List.append_assoc] using h1, HV1.out.trans h2⟩)
      clear HZ0 XP
      go_wp2_with fail
      first | go_end0 | refine bodyPost_ret (results_none rfl _ _ _) rfl ?_
      exact ⟨rfl, _, HZ, by have := HL1.out; simp; omega⟩
end Go.Proofs.YtcpeddogckillaaGreat
