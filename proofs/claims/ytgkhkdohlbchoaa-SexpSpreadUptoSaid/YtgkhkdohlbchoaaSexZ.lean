/-
  SexpFixed's walk.
-/
import Derived.Test.YtgkhkdohlbchoaaSexY
import Derived.Test.YtgkhkdohlbchoaaSexV
namespace Go.Proofs.Ytgkhkdohlbchoaa
open Go.RowKit
def sureF : Fo := .cons ⟨#[]⟩ true (.cons ⟨#[97]⟩ false .nil .nil) .nil
theorem sure_facts : sureF.txS = [40, 97, 41, 10] ∧ sureF.txC = 0 ∧ sureF.txI = 0 := by decide +kernel
set_option maxHeartbeats 4000000 in
theorem sure_any (w : World) : Calls Try.prog 11 #[] w fun e w' => e = .returned (.bool true) ∧ Below w.heap.size w w' := by
  have h1 := (HB.new w 42 #[.string ⟨#[97]⟩, .bool false, .slice none 0 0]).alloc (.cells #[.string ⟨#[]⟩, .bool true, .slice (some ⟨w.heap.size, 0, none⟩) 1 1] 42)
  have h2 := HB.new1 w (.cells #[.string ⟨#[97]⟩, .bool false, .slice none 0 0] 42) 42 #[.string ⟨#[]⟩, .bool true, .slice (some ⟨w.heap.size, 0, none⟩) 1 1]
  have hAt : sureF.At ((w.alloc (.cells #[.string ⟨#[97]⟩, .bool false, .slice none 0 0] 42)).alloc (.cells #[.string ⟨#[]⟩, .bool true, .slice (some ⟨w.heap.size, 0, none⟩) 1 1] 42)) (some ⟨w.heap.size + 1, 0, none⟩) := fun _ => by
    refine ⟨w.heap.size + 1, 0, rfl, h2.lt, h2.cell 0, h2.cell 1, by unfold maxLen; decide, ⟨_, 1, h2.cell 2, Nat.le_refl _, by unfold maxLen; omega, fun _ => ⟨w.heap.size, 0, rfl, h1.lt, h1.cell 0, h1.cell 1, by unfold maxLen; decide, ⟨none, 0, h1.cell 2, Nat.le_refl _, by unfold maxLen; omega, fun z => absurd z (by simp [Fo.len])⟩, trivial⟩⟩, trivial⟩
  have HT := Lib.hid (text_any sureF (some ⟨w.heap.size + 1, 0, none⟩) 1 _ (by unfold maxLen; decide) hAt)
  obtain ⟨e1, e2, e3⟩ := sure_facts
  rw [e1, e2, e3] at HT
  have HT2 : Hid (Calls Try.prog 10 #[.slice (some ⟨w.heap.size + 1, 0, none⟩) 1 1] ((w.alloc (.cells #[.string ⟨#[97]⟩, .bool false, .slice none 0 0] 42)).alloc (.cells #[.string ⟨#[]⟩, .bool true, .slice (some ⟨w.heap.size, 0, none⟩) 1 1] 42)) (GivesS [40, 97, 41, 10] 0 0 ((w.alloc (.cells #[.string ⟨#[97]⟩, .bool false, .slice none 0 0] 42)).alloc (.cells #[.string ⟨#[]⟩, .bool true, .slice (some ⟨w.heap.size, 0, none⟩) 1 1] 42)))) := HT
  clear h1 h2 hAt HT e1 e2 e3
  go_enter Try.func11, Try.ntmps11
  go_wp2_with fail
  refine HT2.out.mono ?_
  rintro e w1 ⟨rfl, hb1⟩
  have G1 : Hid (Below w.heap.size w w1) := Lib.hid (bw_below (by simp) (Below.alloc (new_below w _) (by simp) _) hb1)
  clear hb1
  go_wp2_with fail
  go_ret
  exact ⟨rfl, Below.alloc G1.out G1.out.size _⟩
set_option maxHeartbeats 4000000 in
theorem fixed_bad (s : ByteArray) (c : Int) (a : Nat) (h : parseR s = .bad c a) (w : World) : Calls Try.prog 5 #[.string s] w fun e w' => e = .returned (.bool true) ∧ Below w.heap.size w w' := by
  have H1 := Lib.hid (fun W => parse_any s W)
  rw [h] at H1
  clear h
  go_enter Try.func5, Try.ntmps5
  go_wp2_with fail
  refine (H1.out _).mono ?_
  rintro e w1 ⟨rfl, hc0, hb1⟩
  have d1 : (c != 0) = true := by simpa using hc0
  have G1 := Lib.hid hb1
  clear hc0 hb1
  go_wp2_with fail
  refine (sure_any _).mono ?_
  rintro e w2 ⟨rfl, hb2⟩
  have G2 : Hid (Below w.heap.size w w2) := bw_below (Nat.le_refl _) (Below.alloc G1.out G1.out.size _) hb2
  clear hb2
  go_wp2_with fail
  go_ret
  exact ⟨rfl, G2.out⟩
set_option maxHeartbeats 4000000 in
theorem fixed_long (s : ByteArray) (f : Fo) (h : parseR s = .good f) (hl : 4000 < f.lines.length) (w : World) : Calls Try.prog 5 #[.string s] w fun e w' => e = .returned (.bool true) ∧ Below w.heap.size w w' := by
  have H1 := Lib.hid (fun W => parse_any s W)
  rw [h] at H1
  have hc := parseR_valid h
  have HT := Lib.hid (fun (W : World) (A : Option Addr) (c : Nat) (h1 : f.len ≤ maxLen) (hW : f.At W A) => text_any f A c W h1 hW)
  have e1 : f.txS = [] ∧ f.txC = 10 ∧ f.txI = 0 := by simp [Fo.txS, Fo.txC, Fo.txI, hc, hl]
  rw [e1.1, e1.2.1, e1.2.2] at HT
  clear h hc hl e1
  go_enter Try.func5, Try.ntmps5
  go_wp2_with fail
  refine (H1.out _).mono ?_
  rintro e w1 ⟨A, cp, rfl, h1, h2, hA, hb1⟩
  have G1 := Lib.hid hb1
  have HA := Lib.hid hA
  have HL := Lib.hid (Nat.le_trans h1 h2)
  clear h1 h2 hb1 hA
  go_wp2_with fail
  refine (HT.out _ A cp HL.out (HA.out.below (new_below _ _))).mono ?_
  rintro e w2 ⟨rfl, hb2⟩
  have G2 : Hid (Below w.heap.size w w2) := bw_below (Nat.le_refl _) (Below.alloc G1.out G1.out.size _) hb2
  clear hb2
  go_wp2_with fail
  refine (sure_any _).mono ?_
  rintro e w3 ⟨rfl, hb3⟩
  have G3 : Hid (Below w.heap.size w w3) := bw_below (Nat.le_refl _) (Below.alloc G2.out G2.out.size _) hb3
  clear hb3
  go_wp2_with fail
  go_ret
  exact ⟨rfl, G3.out⟩
set_option maxHeartbeats 4000000 in
theorem fixed_good (s : ByteArray) (f : Fo) (h : parseR s = .good f) (hl : ¬ 4000 < f.lines.length) (w : World) : Calls Try.prog 5 #[.string s] w fun e w' => e = .returned (.bool true) ∧ Below w.heap.size w w' := by
  have H1 := Lib.hid (fun W => parse_any s W)
  rw [h] at H1
  have hc := parseR_valid h
  have HT := Lib.hid (fun (W : World) (A : Option Addr) (c : Nat) (h1 : f.len ≤ maxLen) (hW : f.At W A) => text_any f A c W h1 hW)
  have e1 : f.txS = f.lines ∧ f.txC = 0 ∧ f.txI = 0 := by simp [Fo.txS, Fo.txC, Fo.txI, hc, hl]
  rw [e1.1, e1.2.1, e1.2.2] at HT
  have H2 := Lib.hid (fun W => parse_any ⟨f.lines.toArray⟩ W)
  rw [parse_lines hc (by omega)] at H2
  unfold GivesS at HT
  generalize (⟨f.lines.toArray⟩ : ByteArray) = T at *
  clear h hc hl e1
  go_enter Try.func5, Try.ntmps5
  go_wp2_with fail
  refine (H1.out _).mono ?_
  rintro e w1 ⟨A, cp, rfl, h1, h2, hA, hb1⟩
  have G1 := Lib.hid hb1
  have HA := Lib.hid hA
  have HL := Lib.hid (Nat.le_trans h1 h2)
  clear h1 h2 hb1 hA
  go_wp2_with fail
  refine (HT.out _ A cp HL.out (HA.out.below (new_below _ _))).mono ?_
  rintro e w2 ⟨rfl, hb2⟩
  have G2 : Hid (Below w.heap.size w w2) := bw_below (Nat.le_refl _) (Below.alloc G1.out G1.out.size _) hb2
  have A2 := Lib.hid ((HA.out.below (new_below w1 (.cells #[.int .i64 0, .int .i64 0] 27))).below hb2)
  have N2 := Lib.hid (HB.new w2 27 #[.int .i64 0, .int .i64 0])
  clear hb2
  go_wp2_with fail
  refine (H2.out _).mono ?_
  rintro e w3 ⟨A3, cp3, rfl, h1, h2, hA3, hb3⟩
  have G3 : Hid (Below w.heap.size w w3) := bw_below (Nat.le_refl _) (Below.alloc G2.out G2.out.size _) hb3
  have A3' := Lib.hid ((A2.out.below (new_below w2 (.cells #[.int .i64 0, .int .i64 0] 27))).below hb3)
  have N3 := Lib.hid (N2.out.below hb3)
  have HA3 := Lib.hid hA3
  have l3 := N3.out.lt
  obtain ⟨r0, r1, _, _⟩ := N3.out.two
  clear h1 h2 hb3 hA3
  go_wp2_with fail
  refine (sure_any _).mono ?_
  rintro e w4 ⟨rfl, hb4⟩
  have G4 : Hid (Below w.heap.size w w4) := bw_below (Nat.le_refl _) (Below.alloc G3.out G3.out.size _) hb4
  have A4 := Lib.hid ((A3'.out.below (new_below w3 (.cells #[.int .i64 0, .int .i64 0] 27))).below hb4)
  have A4' := Lib.hid ((HA3.out.below (new_below w3 (.cells #[.int .i64 0, .int .i64 0] 27))).below hb4)
  clear hb4 r0 r1
  go_wp2_with fail
  refine (same_any (f.size + 1) f A3 A cp3 cp w4 (by omega) HL.out A4'.out A4.out).mono ?_
  rintro e w5 ⟨rfl, m, rfl⟩
  go_wp2_with fail
  go_ret
  exact ⟨rfl, below_dn G4.out m⟩
theorem fixed_any (s : ByteArray) (w : World) : Calls Try.prog 5 #[.string s] w fun e w' => e = .returned (.bool true) ∧ Below w.heap.size w w' := by
  cases h : parseR s with
  | bad c a => exact fixed_bad s c a h w
  | good f =>
    by_cases hl : 4000 < f.lines.length
    · exact fixed_long s f h hl w
    · exact fixed_good s f h hl w
end Go.Proofs.Ytgkhkdohlbchoaa
