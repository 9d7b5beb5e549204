/-
  Asks that are made of raw numbers: nodes that grow, case by case: functions.
-/
import Derived.Test.YtcpeddogckillaaGreatAskCk
namespace Go.Proofs.YtcpeddogckillaaGreat
open Go.RowKit

theorem nm_f : 0 ≤ fdZ dqs ⟨#[102]⟩ ∧ (dn dqs (fdI dqs ⟨#[102]⟩)).args.length = 1 ∧ (dn dqs (fdI dqs ⟨#[102]⟩)).sort = 4 ∧ (⟨#[102]⟩ : ByteArray).toList.isEmpty = false := by decide +kernel
theorem nm_g : 0 ≤ fdZ dqs ⟨#[103]⟩ ∧ (dn dqs (fdI dqs ⟨#[103]⟩)).args.length = 2 ∧ (dn dqs (fdI dqs ⟨#[103]⟩)).sort = 1 ∧ (⟨#[103]⟩ : ByteArray).toList.isEmpty = false := by decide +kernel
theorem nm_h : 0 ≤ fdZ dqs ⟨#[104]⟩ ∧ (dn dqs (fdI dqs ⟨#[104]⟩)).args.length = 1 ∧ (dn dqs (fdI dqs ⟨#[104]⟩)).sort = 2 ∧ (⟨#[104]⟩ : ByteArray).toList.isEmpty = false := by decide +kernel
theorem nd_call {nm : ByteArray} {ss ks : List Int} {s : Int} (h : 0 ≤ fdZ dqs nm ∧ (dn dqs (fdI dqs nm)).args.length = ks.length ∧ (dn dqs (fdI dqs nm)).sort = s ∧ nm.toList.isEmpty = false) (h3 : ks.length ≤ 8) (h5 : ∀ k ∈ ks, 0 ≤ k ∧ k < ss.length) (h7 : (kSo ss ks).all sTh = true) (hs : s ≠ 0) :
    ndC dqs ⟨9, ks, 0, 0, nm⟩ ss.length ss = 0 ∧ ndT dqs ⟨9, ks, 0, 0, nm⟩ ss = s := by
  obtain ⟨a, b, c, d⟩ := h
  refine nd_ok (by simp) (fun _ => a) h3 (.inr (by simp [kWant, b])) h5 (by simp [flC, d]) ?_ hs
  unfold ndT srt whn
  simp only [kDs, c, h7]
  simp
set_option maxRecDepth 100000 in
set_option maxHeartbeats 4000000 in
theorem grow7 (base g : Nat) (nv sv : Value) (ss : List Int) (a b c : Int) (w : World) (ha : a % 22 = 7) (hl : ss.length ≤ 890) (hM : Mo No base g nv sv w ss) :
    Calls Tryz.prog 23 #[.pointer (some ⟨g, 0, none⟩), .int .i64 a, .int .i64 b, .int .i64 c, .int .i64 0] w (GrowQ base g nv sv w ss) := by
  have HP22 : Hid (Calls Tryz.prog 25 #[.int .i64 a, .int .i64 22] w fun e w' => e = .returned (.int .i64 7) ∧ w' = w) := Lib.hid (by
    have := picked_any a 22 (by decide) (by decide) w
    rw [show ((22 : Nat) : Int) = 22 from rfl, ha] at this
    exact this)
  have HP4 : Hid (∀ x W, Calls Tryz.prog 25 #[.int .i64 x, .int .i64 4] W fun e w' => ∃ r : Int, e = .returned (.int .i64 r) ∧ 0 ≤ r ∧ r < 4 ∧ w' = W) := Lib.hid (fun x W => pick_rng x 4 (by decide) (by decide) W)
  have X1 := Lib.hid (fun back => last_any No base g nv sv ss 4 back 1 w (by simp) (by omega) hM)
  clear hM ha
  go_enter Tryz.func23, Tryz.ntmps23
  go_wp2_with fail
  refine HP22.out.mono ?_
  rintro e w1 ⟨rfl, rfl⟩
  go_wp2_with fail
  refine (HP4.out _ _).mono ?_
  rintro e w2 ⟨d, rfl, d0, d1, rfl⟩
  go_wp2_with fail
  refine (X1.out _).mono ?_
  rintro e w3 ⟨j1, m1, rfl, hm1, hj1, hs1, hl1⟩
  obtain ⟨nv1, sv1, hM1, hV1⟩ := hm1.out
  have HL1 := Lib.hid hl1
  have HV1 := Lib.hid hV1
  have XP := Lib.hid (put_new (q := ⟨9, [(j1 : Int)], 0, 0, ⟨#[102]⟩⟩) (s := 4) (by have := HL1.out; simp; omega) hM1 (by simp) (nm_len _) (nd_call nm_f (by simp) (mem1 hj1) (by rw [kso1 hs1]; decide) (by decide)))
  clear hm1 hV1 hM1 hj1 hs1 hl1 X1 
  go_wp2_with fail
  refine XP.out.mono ?_
  rintro e wz ⟨rfl, hmz⟩
  have HZ : Hid (More No base g nv sv w2 ss (m1 ++ [4]) wz) := Lib.hid (by
    obtain ⟨nvz, svz, h1, h2⟩ := hmz.out
    exact ⟨nvz, svz, by simpa [List.append_assoc] using h1, HV1.out.trans h2⟩)
  clear hmz XP
  go_wp2_with fail
  first | go_end0 | refine bodyPost_ret (results_none rfl _ _ _) rfl ?_
  exact ⟨rfl, _, HZ, by have := HL1.out; simp; omega⟩
set_option maxRecDepth 100000 in
set_option maxHeartbeats 4000000 in
theorem grow8 (base g : Nat) (nv sv : Value) (ss : List Int) (a b c : Int) (w : World) (ha : a % 22 = 8) (hl : ss.length ≤ 890) (hM : Mo No base g nv sv w ss) :
    Calls Tryz.prog 23 #[.pointer (some ⟨g, 0, none⟩), .int .i64 a, .int .i64 b, .int .i64 c, .int .i64 0] w (GrowQ base g nv sv w ss) := by
  have HP22 : Hid (Calls Tryz.prog 25 #[.int .i64 a, .int .i64 22] w fun e w' => e = .returned (.int .i64 8) ∧ w' = w) := Lib.hid (by
    have := picked_any a 22 (by decide) (by decide) w
    rw [show ((22 : Nat) : Int) = 22 from rfl, ha] at this
    exact this)
  have HP4 : Hid (∀ x W, Calls Tryz.prog 25 #[.int .i64 x, .int .i64 4] W fun e w' => ∃ r : Int, e = .returned (.int .i64 r) ∧ 0 ≤ r ∧ r < 4 ∧ w' = W) := Lib.hid (fun x W => pick_rng x 4 (by decide) (by decide) W)
  have X1 := Lib.hid (fun back => last_any No base g nv sv ss 4 back 1 w (by simp) (by omega) hM)
  clear hM ha
  go_enter Tryz.func23, Tryz.ntmps23
  go_wp2_with fail
  refine HP22.out.mono ?_
  rintro e w1 ⟨rfl, rfl⟩
  go_wp2_with fail
  refine (HP4.out _ _).mono ?_
  rintro e w2 ⟨d, rfl, d0, d1, rfl⟩
  go_wp2_with fail
  refine (X1.out _).mono ?_
  rintro e w3 ⟨j1, m1, rfl, hm1, hj1, hs1, hl1⟩
  obtain ⟨nv1, sv1, hM1, hV1⟩ := hm1.out
  have HL1 := Lib.hid hl1
  have HV1 := Lib.hid hV1
  have K1 := Lib.hid (And.intro hj1 hs1)
  have X2 := Lib.hid (fun back => last_any No base g nv1 sv1 (ss ++ m1) 4 back 1 w3 (by simp) (by have := HL1.out; simp; omega) hM1)
  clear hm1 hV1 hM1 hj1 hs1 hl1 X1
  go_wp2_with fail
  refine (X2.out _).mono ?_
  rintro e w4 ⟨j2, m2, rfl, hm2, hj2, hs2, hl2⟩
  obtain ⟨nv2, sv2, hM2, hV2⟩ := hm2.out
  have HL2 := Lib.hid hl2
  have HV2 := Lib.hid (HV1.out.trans hV2)
  have k1_1 := K1.out
  have k1_2 := old_kid (m := m2) k1_1.1 k1_1.2
  have XP := Lib.hid (put_new (q := ⟨9, [(j1 : Int), (j2 : Int)], 0, 0, ⟨#[103]⟩⟩) (s := 1) (by have := HL1.out; have := HL2.out; simp; omega) hM2 (by simp) (nm_len _) (nd_call nm_g (by simp) (mem2 k1_2.1 hj2) (by rw [kso2 k1_2.2 hs2]; decide) (by decide)))
  clear hm2 hV2 hM2 hj2 hs2 hl2 X2 k1_2 k1_1
  go_wp2_with fail
  refine XP.out.mono ?_
  rintro e wz ⟨rfl, hmz⟩
  have HZ : Hid (More No base g nv sv w2 ss (m1 ++ m2 ++ [1]) wz) := Lib.hid (by
    obtain ⟨nvz, svz, h1, h2⟩ := hmz.out
    exact ⟨nvz, svz, by simpa [List.append_assoc] using h1, HV2.out.trans h2⟩)
  clear hmz XP
  go_wp2_with fail
  first | go_end0 | refine bodyPost_ret (results_none rfl _ _ _) rfl ?_
  exact ⟨rfl, _, HZ, by have := HL1.out; have := HL2.out; simp; omega⟩
set_option maxRecDepth 100000 in
set_option maxHeartbeats 4000000 in
theorem grow9 (base g : Nat) (nv sv : Value) (ss : List Int) (a b c : Int) (w : World) (ha : a % 22 = 9) (hl : ss.length ≤ 890) (hM : Mo No base g nv sv w ss) :
    Calls Tryz.prog 23 #[.pointer (some ⟨g, 0, none⟩), .int .i64 a, .int .i64 b, .int .i64 c, .int .i64 0] w (GrowQ base g nv sv w ss) := by
  have HP22 : Hid (Calls Tryz.prog 25 #[.int .i64 a, .int .i64 22] w fun e w' => e = .returned (.int .i64 9) ∧ w' = w) := Lib.hid (by
    have := picked_any a 22 (by decide) (by decide) w
    rw [show ((22 : Nat) : Int) = 22 from rfl, ha] at this
    exact this)
  have HP4 : Hid (∀ x W, Calls Tryz.prog 25 #[.int .i64 x, .int .i64 4] W fun e w' => ∃ r : Int, e = .returned (.int .i64 r) ∧ 0 ≤ r ∧ r < 4 ∧ w' = W) := Lib.hid (fun x W => pick_rng x 4 (by decide) (by decide) W)
  have X1 := Lib.hid (fun back => last_any No base g nv sv ss 4 back 1 w (by simp) (by omega) hM)
  clear hM ha
  go_enter Tryz.func23, Tryz.ntmps23
  go_wp2_with fail
  refine HP22.out.mono ?_
  rintro e w1 ⟨rfl, rfl⟩
  go_wp2_with fail
  refine (HP4.out _ _).mono ?_
  rintro e w2 ⟨d, rfl, d0, d1, rfl⟩
  go_wp2_with fail
  refine (X1.out _).mono ?_
  rintro e w3 ⟨j1, m1, rfl, hm1, hj1, hs1, hl1⟩
  obtain ⟨nv1, sv1, hM1, hV1⟩ := hm1.out
  have HL1 := Lib.hid hl1
  have HV1 := Lib.hid hV1
  have XP := Lib.hid (put_new (q := ⟨9, [(j1 : Int)], 0, 0, ⟨#[104]⟩⟩) (s := 2) (by have := HL1.out; simp; omega) hM1 (by simp) (nm_len _) (nd_call nm_h (by simp) (mem1 hj1) (by rw [kso1 hs1]; decide) (by decide)))
  clear hm1 hV1 hM1 hj1 hs1 hl1 X1 
  go_wp2_with fail
  refine XP.out.mono ?_
  rintro e wz ⟨rfl, hmz⟩
  have HZ : Hid (More No base g nv sv w2 ss (m1 ++ [2]) wz) := Lib.hid (by
    obtain ⟨nvz, svz, h1, h2⟩ := hmz.out
    exact ⟨nvz, svz, by simpa [List.append_assoc] using h1, HV1.out.trans h2⟩)
  clear hmz XP
  go_wp2_with fail
  first | go_end0 | refine bodyPost_ret (results_none rfl _ _ _) rfl ?_
  exact ⟨rfl, _, HZ, by have := HL1.out; simp; omega⟩
end Go.Proofs.YtcpeddogckillaaGreat
