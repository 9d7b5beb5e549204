/-
  RowPlus' walk: whatever the rows and the point, true.
-/
import Derived.Test.YtkjollifghmkbaaRowY
import Derived.Test.YtkjollifghmkbaaRowW
namespace Go.Proofs.Ytkjollifghmkbaa
open Go.RowKit

theorem wpl_int (w : World) {ops : Array Oper} {rest : List Oper} {o : Oper} {a : Act} {Q : Exit → Act → World → Prop} (hgd : o.guard = none) (s x : Operand)
    (ho : o.op = .call { callee := .builtin .append, args := #[s, x], argTypes := #[22, 22] })
    (base : Nat) (v : Value) (n : Nat) (xs : List Value) (hs : a.eval s = v) (hown : w.ownsRow base 3 1 v n xs) (gb : Nat) (u : Value) (hx : a.eval x = .slice (some ⟨gb, 0, none⟩) 1 1) (hnews : HB w gb 3 #[u]) (h1 : u.oneCell' = true)
    (hn : (n + 1) * 8 ≤ 140737488355328) (hbase : base ≤ w.heap.size)
    (h : ∀ g cap w', Hid (w'.ownsRow base 3 1 (.slice (some ⟨g, 0, none⟩) (n + 1) cap) (n + 1) (xs ++ [u])) → Keep3 w w' → (∀ W, Below base W w → Below base W w') → wpList Try.prog ops Q rest (a.put o.dst (.slice (some ⟨g, 0, none⟩) (n + 1) cap)) w') :
    wpList Try.prog ops Q (o :: rest) a w := by
  obtain ⟨i0, hi0, hz0, hz1, hz2⟩ := info_parts int_info
  refine wpList_append_lies w hgd s x 22 ho base 3 i0 (.int .i64 0) 1 8 Try.underlying22 hi0 hz0 hz1 hz2 rfl (by omega) v n xs hs hown ⟨gb, 0, none⟩ 1 1 [u] hx rfl (World.news_of_block (cs := #[u]) hnews) (by simpa using h1) (by omega) (by unfold maxLen; omega) (by omega) hbase _ rfl ?_
  intro g cap w' hown' hg _ _
  refine h g cap w' (Lib.hid hown') (keep3_grown hown hg) (fun W hW => ?_)
  refine hW.grown hg hbase (fun j hj => ?_)
  rcases hown.2 with ⟨rfl, _⟩ | ⟨g', cp, cur, rfl, hb', _⟩
  · simp [Value.ownBlock] at hj
  · simp [Value.ownBlock] at hj; omega
set_option maxRecDepth 100000 in
set_option maxHeartbeats 8000000 in
theorem rowplus_out (A B A' : Option Addr) (xs ys : List Int) (ps : List (Int × Int)) (L c M m L' c' : Nat) (ka ta kb tb : Int) (w : World) (h : Is w A xs) (h2 : Is w B ys) (hp : Fs w A' ps) (C I C2 I2 : Int) (b1 b2 : Bool)
    (hh1 : ∀ W, Is W A xs → Fs W A' ps → Calls Try.prog 12 #[.agg #[.slice A L c, .int .i64 ka, .int .i64 ta], .slice A' L' c'] W (GivesB b1 C I W))
    (hh2 : ∀ W, Is W B ys → Fs W A' ps → Calls Try.prog 12 #[.agg #[.slice B M m, .int .i64 kb, .int .i64 tb], .slice A' L' c'] W (GivesB b2 C2 I2 W))
    (hout : (C == 0) = false ∧ (C != 0) = true ∧ b1 = false ∨ (C == 0) = true ∧ (C != 0) = false ∧ (C2 != 0) = true ∨ (C == 0) = true ∧ (C != 0) = false ∧ (C2 != 0) = false ∧ (ka == 3) = true ∨ (C == 0) = true ∧ (C != 0) = false ∧ (C2 != 0) = false ∧ (ka == 3) = false ∧ (kb == 3) = true) :
    Calls Try.prog 10 #[.agg #[.slice A L c, .int .i64 ka, .int .i64 ta], .agg #[.slice B M m, .int .i64 kb, .int .i64 tb], .slice A' L' c'] w fun e w' => e = .returned (.bool true) ∧ Below w.heap.size w w' := by
  have HH1 := Lib.hid hh1
  have HH2 := Lib.hid hh2
  have HX := Lib.hid h
  have HY := Lib.hid h2
  have HP := Lib.hid hp
  have HO := Lib.hid hout
  clear hh1 hh2 h h2 hp hout
  go_enter Try.func10, Try.ntmps10
  go_wp2_with fail
  refine (fact_any _).mono ?_
  rintro e w1 ⟨rfl, hb1⟩
  have R1 := ((HB.new w 24 #[.slice A L c, .int .i64 ka, .int .i64 ta]).alloc (.cells #[.slice B M m, .int .i64 kb, .int .i64 tb] 24)).below hb1
  have S1 := (HB.new1 w (.cells #[.slice A L c, .int .i64 ka, .int .i64 ta] 24) 24 #[.slice B M m, .int .i64 kb, .int .i64 tb]).below hb1
  have G1 : Hid (Below w.heap.size w w1) := below_after (by go_grown) hb1
  have l1 := R1.lt
  have l1' := S1.lt
  obtain ⟨u0, u1, u2, _⟩ := HB.row' R1
  obtain ⟨s0, s1, s2, _⟩ := HB.row' S1
  have HR1 := Lib.hid R1
  have HS1 := Lib.hid S1
  clear hb1 R1 S1
  go_wp2_with fail
  refine (HH1.out _ (HX.out.below G1.out) (HP.out.below G1.out)).mono ?_
  rintro e w2 ⟨rfl, hb2⟩
  have R2 := HR1.out.below hb2
  have S2 := HS1.out.below hb2
  have G2 : Hid (Below w.heap.size w w2) := bw_below (Nat.le_refl _) G1.out hb2
  have l2 := R2.lt
  have l2' := S2.lt
  obtain ⟨u0', u1', u2', _⟩ := HB.row' R2
  obtain ⟨s0', s1', s2', _⟩ := HB.row' S2
  have HR2 := Lib.hid R2
  have HS2 := Lib.hid S2
  clear hb2 R2 S2 u0 u1 u2 s0 s1 s2 HR1 HS1
  go_wp2_with fail
  refine (HH2.out _ ((HY.out.below G2.out).below (by go_grown)) ((HP.out.below G2.out).below (by go_grown))).mono ?_
  rintro e w3 ⟨rfl, hb3⟩
  have R3 := (HR2.out.alloc (.cells #[.int .i64 C, .int .i64 I] 29)).below hb3
  have S3 := (HS2.out.alloc (.cells #[.int .i64 C, .int .i64 I] 29)).below hb3
  have E3 := (HB.new w2 29 #[.int .i64 C, .int .i64 I]).below hb3
  have G3 : Hid (Below w.heap.size w w3) := below_after (by have := G2.out; have z := this.size; go_grown) hb3
  have l3 := R3.lt
  have l3' := S3.lt
  have l3'' := E3.lt
  obtain ⟨u0, u1, u2, _⟩ := HB.row' R3
  obtain ⟨s0, s1, s2, _⟩ := HB.row' S3
  obtain ⟨e0, e1, _⟩ := HB.two E3
  clear hb3 R3 S3 E3 u0' u1' u2' s0' s1' s2' HR2 HS2
  rcases HO.out with ⟨d0, d1, rfl⟩ | ⟨d0, d1, d2⟩ | ⟨d0, d1, d2, d3⟩ | ⟨d0, d1, d2, d3, d4⟩
  all_goals
    go_wp2
    go_ret
    exact ⟨rfl, by have := G3.out; have z := this.size; go_grown⟩
set_option maxRecDepth 100000 in
set_option maxHeartbeats 8000000 in
theorem rowplus_lo (A B A' : Option Addr) (xs ys : List Int) (ps : List (Int × Int)) (L c M m L' c' : Nat) (ka ta kb tb : Int) (hL : L = xs.length) (hM : M = ys.length) (hL' : L' ≤ 12) (w : World) (h : Is w A xs) (h2 : Is w B ys) (hp : Fs w A' ps) (C I C2 I2 C3 I3 : Int) (b1 b2 b3 : Bool)
    (hix : ∀ i, i < L → inB (nth xs i) = true) (hiy : ∀ i, i < M → inB (nth ys i) = true) (hta : inB ta = true) (htb : inB tb = true)
    (hh1 : ∀ W, Is W A xs → Fs W A' ps → Calls Try.prog 12 #[.agg #[.slice A L c, .int .i64 ka, .int .i64 ta], .slice A' L' c'] W (GivesB b1 C I W))
    (hh2 : ∀ W, Is W B ys → Fs W A' ps → Calls Try.prog 12 #[.agg #[.slice B M m, .int .i64 kb, .int .i64 tb], .slice A' L' c'] W (GivesB b2 C2 I2 W))
    (hh3 : ∀ W A3 (c3 : Nat), Is W A3 ((List.range L').map fun j => nth xs j + nth ys j) → Fs W A' ps → Calls Try.prog 12 #[.agg #[.slice A3 L' c3, .int .i64 kb, .int .i64 (ta + tb)], .slice A' L' c'] W (GivesB b3 C3 I3 W))
    (d1 : (C != 0) = false) (d2 : (C2 != 0) = false) (d3 : (ka == 3) = false) (d4 : (kb == 3) = false)
    (dk : ka < kb)
    (hout : (C3 != 0) = true ∨ (C3 != 0) = false ∧ b1 = false ∨ (C3 != 0) = false ∧ b1 = true ∧ b2 = false ∨ (C3 != 0) = false ∧ b1 = true ∧ b2 = true ∧ b3 = true) :
    Calls Try.prog 10 #[.agg #[.slice A L c, .int .i64 ka, .int .i64 ta], .agg #[.slice B M m, .int .i64 kb, .int .i64 tb], .slice A' L' c'] w fun e w' => e = .returned (.bool true) ∧ Below w.heap.size w w' := by
  obtain ⟨ta1, ta2⟩ := inB_iff.1 hta
  obtain ⟨tb1, tb2⟩ := inB_iff.1 htb
  have tw : IntKind.i64.wrap (ta + tb) = ta + tb := IntWalk.i64_in _ (by omega)
  have tm : (if ka < kb then kb else ka) = kb := if_pos dk
  clear dk
  have HH1 := Lib.hid hh1
  have HH2 := Lib.hid hh2
  have HH3 := Lib.hid hh3
  have HX := Lib.hid h
  have HY := Lib.hid h2
  have HP := Lib.hid hp
  have HO := Lib.hid hout
  have HL := Lib.hid hL
  have HM := Lib.hid hM
  have HIX := Lib.hid hix
  have HIY := Lib.hid hiy
  clear hh1 hh2 hh3 h h2 hp hout hL hM hix hiy hta htb
  go_enter Try.func10, Try.ntmps10
  go_wp2_with fail
  refine (fact_any _).mono ?_
  rintro e w1 ⟨rfl, hb1⟩
  have R1 := ((HB.new w 24 #[.slice A L c, .int .i64 ka, .int .i64 ta]).alloc (.cells #[.slice B M m, .int .i64 kb, .int .i64 tb] 24)).below hb1
  have S1 := (HB.new1 w (.cells #[.slice A L c, .int .i64 ka, .int .i64 ta] 24) 24 #[.slice B M m, .int .i64 kb, .int .i64 tb]).below hb1
  have G1 : Hid (Below w.heap.size w w1) := below_after (by go_grown) hb1
  have l1 := R1.lt
  have l1' := S1.lt
  obtain ⟨u0, u1, u2, _⟩ := HB.row' R1
  obtain ⟨s0, s1, s2, _⟩ := HB.row' S1
  have HR1 := Lib.hid R1
  have HS1 := Lib.hid S1
  clear hb1 R1 S1
  go_wp2_with fail
  refine (HH1.out _ (HX.out.below G1.out) (HP.out.below G1.out)).mono ?_
  rintro e w2 ⟨rfl, hb2⟩
  have R2 := HR1.out.below hb2
  have S2 := HS1.out.below hb2
  have G2 : Hid (Below w.heap.size w w2) := bw_below (Nat.le_refl _) G1.out hb2
  have l2 := R2.lt
  have l2' := S2.lt
  obtain ⟨u0', u1', u2', _⟩ := HB.row' R2
  obtain ⟨s0', s1', s2', _⟩ := HB.row' S2
  have HR2 := Lib.hid R2
  have HS2 := Lib.hid S2
  clear hb2 R2 S2 u0 u1 u2 s0 s1 s2 HR1 HS1
  go_wp2_with fail
  refine (HH2.out _ ((HY.out.below G2.out).below (by go_grown)) ((HP.out.below G2.out).below (by go_grown))).mono ?_
  rintro e w3 ⟨rfl, hb3⟩
  have R3 := (HR2.out.alloc (.cells #[.int .i64 C, .int .i64 I] 29)).below hb3
  have S3 := (HS2.out.alloc (.cells #[.int .i64 C, .int .i64 I] 29)).below hb3
  have E3 := (HB.new w2 29 #[.int .i64 C, .int .i64 I]).below hb3
  have G3 : Hid (Below w.heap.size w w3) := below_after (by have := G2.out; have z := this.size; go_grown) hb3
  have l3 := R3.lt
  have l3' := S3.lt
  have l3'' := E3.lt
  obtain ⟨u0, u1, u2, _⟩ := HB.row' R3
  obtain ⟨s0, s1, s2, _⟩ := HB.row' S3
  obtain ⟨e0, e1, _⟩ := HB.two E3
  have HR3 := Lib.hid R3
  have HS3 := Lib.hid S3
  clear hb3 R3 S3 E3 u0' u1' u2' s0' s1' s2' HR2 HS2
  go_wp2_with fail
  go_loopw [13] (fun k wr => ∃ (i : Nat) (A1 : Option Addr) (c1 : Nat), i ≤ L' ∧ k = .int .i64 i ∧ Hid (HB wr (w3.heap.size + 1) 24 #[.slice A1 i c1, .int .i64 kb, .int .i64 (ta + tb)]) ∧ Hid (wr.ownsRow w.heap.size 3 1 (.slice A1 i c1) i (intsV (fun j => nth xs j + nth ys j) i)) ∧ Hid (HB wr w.heap.size 24 #[.slice A L c, .int .i64 ka, .int .i64 ta]) ∧ Hid (HB wr (w.heap.size + 1) 24 #[.slice B M m, .int .i64 kb, .int .i64 tb]) ∧ Hid (Below w.heap.size w wr)) (fun k _ => L' - (intOf k).toNat)
  case atStart => exact ⟨0, none, 0, by omega, rfl, HB.new1 w3 _ _ _, own_nil _ _ _, (HR3.out.alloc _).alloc _, (HS3.out.alloc _).alloc _, by have := G3.out; have z := this.size; show Below _ _ _; go_grown⟩
  case round =>
    obtain ⟨i, A1, c1, hi, rfl, F6, OW, R4, S4, G4⟩ := hrel
    obtain ⟨v0, v1, v2, _⟩ := HB.row' R4.out
    obtain ⟨r0, r1, r2, _⟩ := HB.row' S4.out
    obtain ⟨x0, x1, x2, x3, x4, x5⟩ := HB.row' F6.out
    have l5 := R4.out.lt
    have l5' := S4.out.lt
    have l6 := F6.out.lt
    clear u0 u1 u2 s0 s1 s2
    by_cases hlt : i < L'
    · have q1 : (0 : Int) ≤ i := by omega
      have q2 : (i : Int) < L' := by omega
      have q3 : decide (i < L') = true := by simpa using hlt
      by_cases p1 : i < L
      · by_cases p2 : i < M
        · obtain ⟨bx, ox, rfl, _, hcx⟩ := (HX.out.below G4.out) (by rw [← HL.out]; omega)
          have cx := hcx i (by rw [← HL.out]; exact p1)
          have qx1 : decide (i < L) = true := by simpa using p1
          have qx2 : (i : Int) < L := by omega
          obtain ⟨i1, i2⟩ := inB_iff.1 (HIX.out i p1)
          clear hcx
          obtain ⟨by_, oy, rfl, _, hcy⟩ := (HY.out.below G4.out) (by rw [← HM.out]; omega)
          have cy := hcy i (by rw [← HM.out]; exact p2)
          have qy1 : decide (i < M) = true := by simpa using p2
          have qy2 : (i : Int) < M := by omega
          obtain ⟨j1, j2⟩ := inB_iff.1 (HIY.out i p2)
          clear hcy
          have tx : IntKind.i64.wrap (nth xs i) = nth xs i := IntWalk.i64_in _ (by omega)
          have ty : IntKind.i64.wrap (nth ys i) = nth ys i := IntWalk.i64_in _ (by omega)
          have tz : IntKind.i64.wrap (nth xs i + nth ys i) = nth xs i + nth ys i := IntWalk.i64_in _ (by omega)
          go_wp2_with (at_builtin; refine wpl_int _ rfl _ _ rfl w.heap.size (.slice A1 i c1) i (intsV (fun j => nth xs j + nth ys j) i) rfl (OW.out.alloc _) wr.heap.size (.int .i64 (nth xs i + nth ys i)) rfl (HB.new wr 3 _) rfl (by omega) (by have := G4.out.size; simp; omega) ?_)
          intro g4 cap4 w4 hown4 hkp4 hb4
          have F4 := Lib.hid (hkp4.hb (by decide) (HB.alloc F6.out (.cells #[.int .i64 (nth xs i + nth ys i)] 3)))
          have R5 := Lib.hid ((hkp4.hb (by decide) (HB.alloc R4.out (.cells #[.int .i64 (nth xs i + nth ys i)] 3))).far (p := ⟨w3.heap.size + 1, 0, none⟩) (show w.heap.size ≠ w3.heap.size + 1 by omega) (.slice (some ⟨g4, 0, none⟩) (i + 1 : Nat) cap4))
          have S5 := Lib.hid ((hkp4.hb (by decide) (HB.alloc S4.out (.cells #[.int .i64 (nth xs i + nth ys i)] 3))).far (p := ⟨w3.heap.size + 1, 0, none⟩) (show w.heap.size + 1 ≠ w3.heap.size + 1 by omega) (.slice (some ⟨g4, 0, none⟩) (i + 1 : Nat) cap4))
          have G5 : Hid (Below w.heap.size w (w4.setCell ⟨w3.heap.size + 1, 0, none⟩ (.slice (some ⟨g4, 0, none⟩) (i + 1 : Nat) cap4))) := (hb4 _ (Below.alloc G4.out (by have := G4.out.size; simpa using this) (.cells #[.int .i64 (nth xs i + nth ys i)] 3))).setCell (show w.heap.size ≤ w3.heap.size + 1 by omega) _
          have F5 : Hid (HB (w4.setCell ⟨w3.heap.size + 1, 0, none⟩ (.slice (some ⟨g4, 0, none⟩) (i + 1 : Nat) cap4)) (w3.heap.size + 1) 24 #[.slice (some ⟨g4, 0, none⟩) (i + 1 : Nat) cap4, .int .i64 kb, .int .i64 (ta + tb)]) := by
            have := F4.out.set_ 0 (.slice (some ⟨g4, 0, none⟩) (i + 1 : Nat) cap4)
            show HB _ _ _ _
            simpa using this
          have O5 : Hid ((w4.setCell ⟨w3.heap.size + 1, 0, none⟩ (.slice (some ⟨g4, 0, none⟩) (i + 1 : Nat) cap4)).ownsRow w.heap.size 3 1 (.slice (some ⟨g4, 0, none⟩) (i + 1 : Nat) cap4) (i + 1) (intsV (fun j => nth xs j + nth ys j) (i + 1))) := by
            have := own_far hown4.out F4.out (by decide) 0 (.slice (some ⟨g4, 0, none⟩) (i + 1 : Nat) cap4)
            rw [← intsV_succ (fun j => nth xs j + nth ys j) i] at this
            exact this
          obtain ⟨y0, y1, y2, y3, y4, y5⟩ := HB.row' F4.out
          have l4 := F4.out.lt
          clear F4 hown4 hkp4 hb4
          go_wp2
          exact ⟨⟨i + 1, _, _, by omega, by go_num, F5, O5, R5, S5, G5⟩, by simp [intOf]; omega⟩
        · obtain ⟨bx, ox, rfl, _, hcx⟩ := (HX.out.below G4.out) (by rw [← HL.out]; omega)
          have cx := hcx i (by rw [← HL.out]; exact p1)
          have qx1 : decide (i < L) = true := by simpa using p1
          have qx2 : (i : Int) < L := by omega
          obtain ⟨i1, i2⟩ := inB_iff.1 (HIX.out i p1)
          clear hcx
          have qy1 : decide (i < M) = false := by simpa using p2
          have zy : nth ys i = 0 := nth_out (by rw [← HM.out]; omega)
          have HV : Hid ((nth xs i) = nth xs i + nth ys i) := by show _ = _; rw [zy]; omega
          have tx : IntKind.i64.wrap (nth xs i) = nth xs i := IntWalk.i64_in _ (by omega)
          clear zy
          go_wp2_with (at_builtin; refine wpl_int _ rfl _ _ rfl w.heap.size (.slice A1 i c1) i (intsV (fun j => nth xs j + nth ys j) i) rfl (OW.out.alloc _) wr.heap.size (.int .i64 (nth xs i)) rfl (HB.new wr 3 _) rfl (by omega) (by have := G4.out.size; simp; omega) ?_)
          intro g4 cap4 w4 hown4 hkp4 hb4
          have F4 := Lib.hid (hkp4.hb (by decide) (HB.alloc F6.out (.cells #[.int .i64 (nth xs i)] 3)))
          have R5 := Lib.hid ((hkp4.hb (by decide) (HB.alloc R4.out (.cells #[.int .i64 (nth xs i)] 3))).far (p := ⟨w3.heap.size + 1, 0, none⟩) (show w.heap.size ≠ w3.heap.size + 1 by omega) (.slice (some ⟨g4, 0, none⟩) (i + 1 : Nat) cap4))
          have S5 := Lib.hid ((hkp4.hb (by decide) (HB.alloc S4.out (.cells #[.int .i64 (nth xs i)] 3))).far (p := ⟨w3.heap.size + 1, 0, none⟩) (show w.heap.size + 1 ≠ w3.heap.size + 1 by omega) (.slice (some ⟨g4, 0, none⟩) (i + 1 : Nat) cap4))
          have G5 : Hid (Below w.heap.size w (w4.setCell ⟨w3.heap.size + 1, 0, none⟩ (.slice (some ⟨g4, 0, none⟩) (i + 1 : Nat) cap4))) := (hb4 _ (Below.alloc G4.out (by have := G4.out.size; simpa using this) (.cells #[.int .i64 (nth xs i)] 3))).setCell (show w.heap.size ≤ w3.heap.size + 1 by omega) _
          have F5 : Hid (HB (w4.setCell ⟨w3.heap.size + 1, 0, none⟩ (.slice (some ⟨g4, 0, none⟩) (i + 1 : Nat) cap4)) (w3.heap.size + 1) 24 #[.slice (some ⟨g4, 0, none⟩) (i + 1 : Nat) cap4, .int .i64 kb, .int .i64 (ta + tb)]) := by
            have := F4.out.set_ 0 (.slice (some ⟨g4, 0, none⟩) (i + 1 : Nat) cap4)
            show HB _ _ _ _
            simpa using this
          have O5 : Hid ((w4.setCell ⟨w3.heap.size + 1, 0, none⟩ (.slice (some ⟨g4, 0, none⟩) (i + 1 : Nat) cap4)).ownsRow w.heap.size 3 1 (.slice (some ⟨g4, 0, none⟩) (i + 1 : Nat) cap4) (i + 1) (intsV (fun j => nth xs j + nth ys j) (i + 1))) := by
            have := own_far hown4.out F4.out (by decide) 0 (.slice (some ⟨g4, 0, none⟩) (i + 1 : Nat) cap4)
            rw [HV.out, ← intsV_succ (fun j => nth xs j + nth ys j) i] at this
            exact this
          obtain ⟨y0, y1, y2, y3, y4, y5⟩ := HB.row' F4.out
          have l4 := F4.out.lt
          clear F4 hown4 hkp4 hb4
          go_wp2
          exact ⟨⟨i + 1, _, _, by omega, by go_num, F5, O5, R5, S5, G5⟩, by simp [intOf]; omega⟩
      · by_cases p2 : i < M
        · have qx1 : decide (i < L) = false := by simpa using p1
          have zx : nth xs i = 0 := nth_out (by rw [← HL.out]; omega)
          obtain ⟨by_, oy, rfl, _, hcy⟩ := (HY.out.below G4.out) (by rw [← HM.out]; omega)
          have cy := hcy i (by rw [← HM.out]; exact p2)
          have qy1 : decide (i < M) = true := by simpa using p2
          have qy2 : (i : Int) < M := by omega
          obtain ⟨j1, j2⟩ := inB_iff.1 (HIY.out i p2)
          clear hcy
          have HV : Hid ((nth ys i) = nth xs i + nth ys i) := by show _ = _; rw [zx]; omega
          have ty : IntKind.i64.wrap (nth ys i) = nth ys i := IntWalk.i64_in _ (by omega)
          clear zx
          go_wp2_with (at_builtin; refine wpl_int _ rfl _ _ rfl w.heap.size (.slice A1 i c1) i (intsV (fun j => nth xs j + nth ys j) i) rfl (OW.out.alloc _) wr.heap.size (.int .i64 (nth ys i)) rfl (HB.new wr 3 _) rfl (by omega) (by have := G4.out.size; simp; omega) ?_)
          intro g4 cap4 w4 hown4 hkp4 hb4
          have F4 := Lib.hid (hkp4.hb (by decide) (HB.alloc F6.out (.cells #[.int .i64 (nth ys i)] 3)))
          have R5 := Lib.hid ((hkp4.hb (by decide) (HB.alloc R4.out (.cells #[.int .i64 (nth ys i)] 3))).far (p := ⟨w3.heap.size + 1, 0, none⟩) (show w.heap.size ≠ w3.heap.size + 1 by omega) (.slice (some ⟨g4, 0, none⟩) (i + 1 : Nat) cap4))
          have S5 := Lib.hid ((hkp4.hb (by decide) (HB.alloc S4.out (.cells #[.int .i64 (nth ys i)] 3))).far (p := ⟨w3.heap.size + 1, 0, none⟩) (show w.heap.size + 1 ≠ w3.heap.size + 1 by omega) (.slice (some ⟨g4, 0, none⟩) (i + 1 : Nat) cap4))
          have G5 : Hid (Below w.heap.size w (w4.setCell ⟨w3.heap.size + 1, 0, none⟩ (.slice (some ⟨g4, 0, none⟩) (i + 1 : Nat) cap4))) := (hb4 _ (Below.alloc G4.out (by have := G4.out.size; simpa using this) (.cells #[.int .i64 (nth ys i)] 3))).setCell (show w.heap.size ≤ w3.heap.size + 1 by omega) _
          have F5 : Hid (HB (w4.setCell ⟨w3.heap.size + 1, 0, none⟩ (.slice (some ⟨g4, 0, none⟩) (i + 1 : Nat) cap4)) (w3.heap.size + 1) 24 #[.slice (some ⟨g4, 0, none⟩) (i + 1 : Nat) cap4, .int .i64 kb, .int .i64 (ta + tb)]) := by
            have := F4.out.set_ 0 (.slice (some ⟨g4, 0, none⟩) (i + 1 : Nat) cap4)
            show HB _ _ _ _
            simpa using this
          have O5 : Hid ((w4.setCell ⟨w3.heap.size + 1, 0, none⟩ (.slice (some ⟨g4, 0, none⟩) (i + 1 : Nat) cap4)).ownsRow w.heap.size 3 1 (.slice (some ⟨g4, 0, none⟩) (i + 1 : Nat) cap4) (i + 1) (intsV (fun j => nth xs j + nth ys j) (i + 1))) := by
            have := own_far hown4.out F4.out (by decide) 0 (.slice (some ⟨g4, 0, none⟩) (i + 1 : Nat) cap4)
            rw [HV.out, ← intsV_succ (fun j => nth xs j + nth ys j) i] at this
            exact this
          obtain ⟨y0, y1, y2, y3, y4, y5⟩ := HB.row' F4.out
          have l4 := F4.out.lt
          clear F4 hown4 hkp4 hb4
          go_wp2
          exact ⟨⟨i + 1, _, _, by omega, by go_num, F5, O5, R5, S5, G5⟩, by simp [intOf]; omega⟩
        · have qx1 : decide (i < L) = false := by simpa using p1
          have zx : nth xs i = 0 := nth_out (by rw [← HL.out]; omega)
          have qy1 : decide (i < M) = false := by simpa using p2
          have zy : nth ys i = 0 := nth_out (by rw [← HM.out]; omega)
          have HV : Hid ((0) = nth xs i + nth ys i) := by show _ = _; rw [zx, zy]; omega
          clear zx
          clear zy
          go_wp2_with (at_builtin; refine wpl_int _ rfl _ _ rfl w.heap.size (.slice A1 i c1) i (intsV (fun j => nth xs j + nth ys j) i) rfl (OW.out.alloc _) wr.heap.size (.int .i64 (0)) rfl (HB.new wr 3 _) rfl (by omega) (by have := G4.out.size; simp; omega) ?_)
          intro g4 cap4 w4 hown4 hkp4 hb4
          have F4 := Lib.hid (hkp4.hb (by decide) (HB.alloc F6.out (.cells #[.int .i64 (0)] 3)))
          have R5 := Lib.hid ((hkp4.hb (by decide) (HB.alloc R4.out (.cells #[.int .i64 (0)] 3))).far (p := ⟨w3.heap.size + 1, 0, none⟩) (show w.heap.size ≠ w3.heap.size + 1 by omega) (.slice (some ⟨g4, 0, none⟩) (i + 1 : Nat) cap4))
          have S5 := Lib.hid ((hkp4.hb (by decide) (HB.alloc S4.out (.cells #[.int .i64 (0)] 3))).far (p := ⟨w3.heap.size + 1, 0, none⟩) (show w.heap.size + 1 ≠ w3.heap.size + 1 by omega) (.slice (some ⟨g4, 0, none⟩) (i + 1 : Nat) cap4))
          have G5 : Hid (Below w.heap.size w (w4.setCell ⟨w3.heap.size + 1, 0, none⟩ (.slice (some ⟨g4, 0, none⟩) (i + 1 : Nat) cap4))) := (hb4 _ (Below.alloc G4.out (by have := G4.out.size; simpa using this) (.cells #[.int .i64 (0)] 3))).setCell (show w.heap.size ≤ w3.heap.size + 1 by omega) _
          have F5 : Hid (HB (w4.setCell ⟨w3.heap.size + 1, 0, none⟩ (.slice (some ⟨g4, 0, none⟩) (i + 1 : Nat) cap4)) (w3.heap.size + 1) 24 #[.slice (some ⟨g4, 0, none⟩) (i + 1 : Nat) cap4, .int .i64 kb, .int .i64 (ta + tb)]) := by
            have := F4.out.set_ 0 (.slice (some ⟨g4, 0, none⟩) (i + 1 : Nat) cap4)
            show HB _ _ _ _
            simpa using this
          have O5 : Hid ((w4.setCell ⟨w3.heap.size + 1, 0, none⟩ (.slice (some ⟨g4, 0, none⟩) (i + 1 : Nat) cap4)).ownsRow w.heap.size 3 1 (.slice (some ⟨g4, 0, none⟩) (i + 1 : Nat) cap4) (i + 1) (intsV (fun j => nth xs j + nth ys j) (i + 1))) := by
            have := own_far hown4.out F4.out (by decide) 0 (.slice (some ⟨g4, 0, none⟩) (i + 1 : Nat) cap4)
            rw [HV.out, ← intsV_succ (fun j => nth xs j + nth ys j) i] at this
            exact this
          obtain ⟨y0, y1, y2, y3, y4, y5⟩ := HB.row' F4.out
          have l4 := F4.out.lt
          clear F4 hown4 hkp4 hb4
          go_wp2
          exact ⟨⟨i + 1, _, _, by omega, by go_num, F5, O5, R5, S5, G5⟩, by simp [intOf]; omega⟩
    · obtain rfl : i = L' := by omega
      have q3 : decide (i < i) = false := by simp
      have HIx : Hid (Is wr A1 ((List.range i).map fun j => nth xs j + nth ys j)) := own_is OW.out (by simp) (fun j hj => by simp [nth, List.getD, hj])
      clear hlt
      go_wp2_with fail
      refine (HH3.out _ A1 c1 HIx.out (HP.out.below G4.out)).mono ?_
      rintro e w5 ⟨rfl, hb5⟩
      have G8 : Hid (Below w.heap.size w w5) := bw_below (Nat.le_refl _) G4.out hb5
      clear hb5
      rcases HO.out with d | ⟨d, rfl⟩ | ⟨d, rfl, rfl⟩ | ⟨d, rfl, rfl, rfl⟩
      all_goals
        go_wp2
        go_ret
        exact ⟨rfl, by have := G8.out; have z := this.size; go_grown⟩
set_option maxRecDepth 100000 in
set_option maxHeartbeats 8000000 in
theorem rowplus_hi (A B A' : Option Addr) (xs ys : List Int) (ps : List (Int × Int)) (L c M m L' c' : Nat) (ka ta kb tb : Int) (hL : L = xs.length) (hM : M = ys.length) (hL' : L' ≤ 12) (w : World) (h : Is w A xs) (h2 : Is w B ys) (hp : Fs w A' ps) (C I C2 I2 C3 I3 : Int) (b1 b2 b3 : Bool)
    (hix : ∀ i, i < L → inB (nth xs i) = true) (hiy : ∀ i, i < M → inB (nth ys i) = true) (hta : inB ta = true) (htb : inB tb = true)
    (hh1 : ∀ W, Is W A xs → Fs W A' ps → Calls Try.prog 12 #[.agg #[.slice A L c, .int .i64 ka, .int .i64 ta], .slice A' L' c'] W (GivesB b1 C I W))
    (hh2 : ∀ W, Is W B ys → Fs W A' ps → Calls Try.prog 12 #[.agg #[.slice B M m, .int .i64 kb, .int .i64 tb], .slice A' L' c'] W (GivesB b2 C2 I2 W))
    (hh3 : ∀ W A3 (c3 : Nat), Is W A3 ((List.range L').map fun j => nth xs j + nth ys j) → Fs W A' ps → Calls Try.prog 12 #[.agg #[.slice A3 L' c3, .int .i64 ka, .int .i64 (ta + tb)], .slice A' L' c'] W (GivesB b3 C3 I3 W))
    (d1 : (C != 0) = false) (d2 : (C2 != 0) = false) (d3 : (ka == 3) = false) (d4 : (kb == 3) = false)
    (dk : ¬ ka < kb)
    (hout : (C3 != 0) = true ∨ (C3 != 0) = false ∧ b1 = false ∨ (C3 != 0) = false ∧ b1 = true ∧ b2 = false ∨ (C3 != 0) = false ∧ b1 = true ∧ b2 = true ∧ b3 = true) :
    Calls Try.prog 10 #[.agg #[.slice A L c, .int .i64 ka, .int .i64 ta], .agg #[.slice B M m, .int .i64 kb, .int .i64 tb], .slice A' L' c'] w fun e w' => e = .returned (.bool true) ∧ Below w.heap.size w w' := by
  obtain ⟨ta1, ta2⟩ := inB_iff.1 hta
  obtain ⟨tb1, tb2⟩ := inB_iff.1 htb
  have tw : IntKind.i64.wrap (ta + tb) = ta + tb := IntWalk.i64_in _ (by omega)
  have tm : (if ka < kb then kb else ka) = ka := if_neg dk
  clear dk
  have HH1 := Lib.hid hh1
  have HH2 := Lib.hid hh2
  have HH3 := Lib.hid hh3
  have HX := Lib.hid h
  have HY := Lib.hid h2
  have HP := Lib.hid hp
  have HO := Lib.hid hout
  have HL := Lib.hid hL
  have HM := Lib.hid hM
  have HIX := Lib.hid hix
  have HIY := Lib.hid hiy
  clear hh1 hh2 hh3 h h2 hp hout hL hM hix hiy hta htb
  go_enter Try.func10, Try.ntmps10
  go_wp2_with fail
  refine (fact_any _).mono ?_
  rintro e w1 ⟨rfl, hb1⟩
  have R1 := ((HB.new w 24 #[.slice A L c, .int .i64 ka, .int .i64 ta]).alloc (.cells #[.slice B M m, .int .i64 kb, .int .i64 tb] 24)).below hb1
  have S1 := (HB.new1 w (.cells #[.slice A L c, .int .i64 ka, .int .i64 ta] 24) 24 #[.slice B M m, .int .i64 kb, .int .i64 tb]).below hb1
  have G1 : Hid (Below w.heap.size w w1) := below_after (by go_grown) hb1
  have l1 := R1.lt
  have l1' := S1.lt
  obtain ⟨u0, u1, u2, _⟩ := HB.row' R1
  obtain ⟨s0, s1, s2, _⟩ := HB.row' S1
  have HR1 := Lib.hid R1
  have HS1 := Lib.hid S1
  clear hb1 R1 S1
  go_wp2_with fail
  refine (HH1.out _ (HX.out.below G1.out) (HP.out.below G1.out)).mono ?_
  rintro e w2 ⟨rfl, hb2⟩
  have R2 := HR1.out.below hb2
  have S2 := HS1.out.below hb2
  have G2 : Hid (Below w.heap.size w w2) := bw_below (Nat.le_refl _) G1.out hb2
  have l2 := R2.lt
  have l2' := S2.lt
  obtain ⟨u0', u1', u2', _⟩ := HB.row' R2
  obtain ⟨s0', s1', s2', _⟩ := HB.row' S2
  have HR2 := Lib.hid R2
  have HS2 := Lib.hid S2
  clear hb2 R2 S2 u0 u1 u2 s0 s1 s2 HR1 HS1
  go_wp2_with fail
  refine (HH2.out _ ((HY.out.below G2.out).below (by go_grown)) ((HP.out.below G2.out).below (by go_grown))).mono ?_
  rintro e w3 ⟨rfl, hb3⟩
  have R3 := (HR2.out.alloc (.cells #[.int .i64 C, .int .i64 I] 29)).below hb3
  have S3 := (HS2.out.alloc (.cells #[.int .i64 C, .int .i64 I] 29)).below hb3
  have E3 := (HB.new w2 29 #[.int .i64 C, .int .i64 I]).below hb3
  have G3 : Hid (Below w.heap.size w w3) := below_after (by have := G2.out; have z := this.size; go_grown) hb3
  have l3 := R3.lt
  have l3' := S3.lt
  have l3'' := E3.lt
  obtain ⟨u0, u1, u2, _⟩ := HB.row' R3
  obtain ⟨s0, s1, s2, _⟩ := HB.row' S3
  obtain ⟨e0, e1, _⟩ := HB.two E3
  have HR3 := Lib.hid R3
  have HS3 := Lib.hid S3
  clear hb3 R3 S3 E3 u0' u1' u2' s0' s1' s2' HR2 HS2
  go_wp2_with fail
  go_loopw [13] (fun k wr => ∃ (i : Nat) (A1 : Option Addr) (c1 : Nat), i ≤ L' ∧ k = .int .i64 i ∧ Hid (HB wr (w3.heap.size + 1) 24 #[.slice A1 i c1, .int .i64 ka, .int .i64 (ta + tb)]) ∧ Hid (wr.ownsRow w.heap.size 3 1 (.slice A1 i c1) i (intsV (fun j => nth xs j + nth ys j) i)) ∧ Hid (HB wr w.heap.size 24 #[.slice A L c, .int .i64 ka, .int .i64 ta]) ∧ Hid (HB wr (w.heap.size + 1) 24 #[.slice B M m, .int .i64 kb, .int .i64 tb]) ∧ Hid (Below w.heap.size w wr)) (fun k _ => L' - (intOf k).toNat)
  case atStart => exact ⟨0, none, 0, by omega, rfl, HB.new1 w3 _ _ _, own_nil _ _ _, (HR3.out.alloc _).alloc _, (HS3.out.alloc _).alloc _, by have := G3.out; have z := this.size; show Below _ _ _; go_grown⟩
  case round =>
    obtain ⟨i, A1, c1, hi, rfl, F6, OW, R4, S4, G4⟩ := hrel
    obtain ⟨v0, v1, v2, _⟩ := HB.row' R4.out
    obtain ⟨r0, r1, r2, _⟩ := HB.row' S4.out
    obtain ⟨x0, x1, x2, x3, x4, x5⟩ := HB.row' F6.out
    have l5 := R4.out.lt
    have l5' := S4.out.lt
    have l6 := F6.out.lt
    clear u0 u1 u2 s0 s1 s2
    by_cases hlt : i < L'
    · have q1 : (0 : Int) ≤ i := by omega
      have q2 : (i : Int) < L' := by omega
      have q3 : decide (i < L') = true := by simpa using hlt
      by_cases p1 : i < L
      · by_cases p2 : i < M
        · obtain ⟨bx, ox, rfl, _, hcx⟩ := (HX.out.below G4.out) (by rw [← HL.out]; omega)
          have cx := hcx i (by rw [← HL.out]; exact p1)
          have qx1 : decide (i < L) = true := by simpa using p1
          have qx2 : (i : Int) < L := by omega
          obtain ⟨i1, i2⟩ := inB_iff.1 (HIX.out i p1)
          clear hcx
          obtain ⟨by_, oy, rfl, _, hcy⟩ := (HY.out.below G4.out) (by rw [← HM.out]; omega)
          have cy := hcy i (by rw [← HM.out]; exact p2)
          have qy1 : decide (i < M) = true := by simpa using p2
          have qy2 : (i : Int) < M := by omega
          obtain ⟨j1, j2⟩ := inB_iff.1 (HIY.out i p2)
          clear hcy
          have tx : IntKind.i64.wrap (nth xs i) = nth xs i := IntWalk.i64_in _ (by omega)
          have ty : IntKind.i64.wrap (nth ys i) = nth ys i := IntWalk.i64_in _ (by omega)
          have tz : IntKind.i64.wrap (nth xs i + nth ys i) = nth xs i + nth ys i := IntWalk.i64_in _ (by omega)
          go_wp2_with (at_builtin; refine wpl_int _ rfl _ _ rfl w.heap.size (.slice A1 i c1) i (intsV (fun j => nth xs j + nth ys j) i) rfl (OW.out.alloc _) wr.heap.size (.int .i64 (nth xs i + nth ys i)) rfl (HB.new wr 3 _) rfl (by omega) (by have := G4.out.size; simp; omega) ?_)
          intro g4 cap4 w4 hown4 hkp4 hb4
          have F4 := Lib.hid (hkp4.hb (by decide) (HB.alloc F6.out (.cells #[.int .i64 (nth xs i + nth ys i)] 3)))
          have R5 := Lib.hid ((hkp4.hb (by decide) (HB.alloc R4.out (.cells #[.int .i64 (nth xs i + nth ys i)] 3))).far (p := ⟨w3.heap.size + 1, 0, none⟩) (show w.heap.size ≠ w3.heap.size + 1 by omega) (.slice (some ⟨g4, 0, none⟩) (i + 1 : Nat) cap4))
          have S5 := Lib.hid ((hkp4.hb (by decide) (HB.alloc S4.out (.cells #[.int .i64 (nth xs i + nth ys i)] 3))).far (p := ⟨w3.heap.size + 1, 0, none⟩) (show w.heap.size + 1 ≠ w3.heap.size + 1 by omega) (.slice (some ⟨g4, 0, none⟩) (i + 1 : Nat) cap4))
          have G5 : Hid (Below w.heap.size w (w4.setCell ⟨w3.heap.size + 1, 0, none⟩ (.slice (some ⟨g4, 0, none⟩) (i + 1 : Nat) cap4))) := (hb4 _ (Below.alloc G4.out (by have := G4.out.size; simpa using this) (.cells #[.int .i64 (nth xs i + nth ys i)] 3))).setCell (show w.heap.size ≤ w3.heap.size + 1 by omega) _
          have F5 : Hid (HB (w4.setCell ⟨w3.heap.size + 1, 0, none⟩ (.slice (some ⟨g4, 0, none⟩) (i + 1 : Nat) cap4)) (w3.heap.size + 1) 24 #[.slice (some ⟨g4, 0, none⟩) (i + 1 : Nat) cap4, .int .i64 ka, .int .i64 (ta + tb)]) := by
            have := F4.out.set_ 0 (.slice (some ⟨g4, 0, none⟩) (i + 1 : Nat) cap4)
            show HB _ _ _ _
            simpa using this
          have O5 : Hid ((w4.setCell ⟨w3.heap.size + 1, 0, none⟩ (.slice (some ⟨g4, 0, none⟩) (i + 1 : Nat) cap4)).ownsRow w.heap.size 3 1 (.slice (some ⟨g4, 0, none⟩) (i + 1 : Nat) cap4) (i + 1) (intsV (fun j => nth xs j + nth ys j) (i + 1))) := by
            have := own_far hown4.out F4.out (by decide) 0 (.slice (some ⟨g4, 0, none⟩) (i + 1 : Nat) cap4)
            rw [← intsV_succ (fun j => nth xs j + nth ys j) i] at this
            exact this
          obtain ⟨y0, y1, y2, y3, y4, y5⟩ := HB.row' F4.out
          have l4 := F4.out.lt
          clear F4 hown4 hkp4 hb4
          go_wp2
          exact ⟨⟨i + 1, _, _, by omega, by go_num, F5, O5, R5, S5, G5⟩, by simp [intOf]; omega⟩
        · obtain ⟨bx, ox, rfl, _, hcx⟩ := (HX.out.below G4.out) (by rw [← HL.out]; omega)
          have cx := hcx i (by rw [← HL.out]; exact p1)
          have qx1 : decide (i < L) = true := by simpa using p1
          have qx2 : (i : Int) < L := by omega
          obtain ⟨i1, i2⟩ := inB_iff.1 (HIX.out i p1)
          clear hcx
          have qy1 : decide (i < M) = false := by simpa using p2
          have zy : nth ys i = 0 := nth_out (by rw [← HM.out]; omega)
          have HV : Hid ((nth xs i) = nth xs i + nth ys i) := by show _ = _; rw [zy]; omega
          have tx : IntKind.i64.wrap (nth xs i) = nth xs i := IntWalk.i64_in _ (by omega)
          clear zy
          go_wp2_with (at_builtin; refine wpl_int _ rfl _ _ rfl w.heap.size (.slice A1 i c1) i (intsV (fun j => nth xs j + nth ys j) i) rfl (OW.out.alloc _) wr.heap.size (.int .i64 (nth xs i)) rfl (HB.new wr 3 _) rfl (by omega) (by have := G4.out.size; simp; omega) ?_)
          intro g4 cap4 w4 hown4 hkp4 hb4
          have F4 := Lib.hid (hkp4.hb (by decide) (HB.alloc F6.out (.cells #[.int .i64 (nth xs i)] 3)))
          have R5 := Lib.hid ((hkp4.hb (by decide) (HB.alloc R4.out (.cells #[.int .i64 (nth xs i)] 3))).far (p := ⟨w3.heap.size + 1, 0, none⟩) (show w.heap.size ≠ w3.heap.size + 1 by omega) (.slice (some ⟨g4, 0, none⟩) (i + 1 : Nat) cap4))
          have S5 := Lib.hid ((hkp4.hb (by decide) (HB.alloc S4.out (.cells #[.int .i64 (nth xs i)] 3))).far (p := ⟨w3.heap.size + 1, 0, none⟩) (show w.heap.size + 1 ≠ w3.heap.size + 1 by omega) (.slice (some ⟨g4, 0, none⟩) (i + 1 : Nat) cap4))
          have G5 : Hid (Below w.heap.size w (w4.setCell ⟨w3.heap.size + 1, 0, none⟩ (.slice (some ⟨g4, 0, none⟩) (i + 1 : Nat) cap4))) := (hb4 _ (Below.alloc G4.out (by have := G4.out.size; simpa using this) (.cells #[.int .i64 (nth xs i)] 3))).setCell (show w.heap.size ≤ w3.heap.size + 1 by omega) _
          have F5 : Hid (HB (w4.setCell ⟨w3.heap.size + 1, 0, none⟩ (.slice (some ⟨g4, 0, none⟩) (i + 1 : Nat) cap4)) (w3.heap.size + 1) 24 #[.slice (some ⟨g4, 0, none⟩) (i + 1 : Nat) cap4, .int .i64 ka, .int .i64 (ta + tb)]) := by
            have := F4.out.set_ 0 (.slice (some ⟨g4, 0, none⟩) (i + 1 : Nat) cap4)
            show HB _ _ _ _
            simpa using this
          have O5 : Hid ((w4.setCell ⟨w3.heap.size + 1, 0, none⟩ (.slice (some ⟨g4, 0, none⟩) (i + 1 : Nat) cap4)).ownsRow w.heap.size 3 1 (.slice (some ⟨g4, 0, none⟩) (i + 1 : Nat) cap4) (i + 1) (intsV (fun j => nth xs j + nth ys j) (i + 1))) := by
            have := own_far hown4.out F4.out (by decide) 0 (.slice (some ⟨g4, 0, none⟩) (i + 1 : Nat) cap4)
            rw [HV.out, ← intsV_succ (fun j => nth xs j + nth ys j) i] at this
            exact this
          obtain ⟨y0, y1, y2, y3, y4, y5⟩ := HB.row' F4.out
          have l4 := F4.out.lt
          clear F4 hown4 hkp4 hb4
          go_wp2
          exact ⟨⟨i + 1, _, _, by omega, by go_num, F5, O5, R5, S5, G5⟩, by simp [intOf]; omega⟩
      · by_cases p2 : i < M
        · have qx1 : decide (i < L) = false := by simpa using p1
          have zx : nth xs i = 0 := nth_out (by rw [← HL.out]; omega)
          obtain ⟨by_, oy, rfl, _, hcy⟩ := (HY.out.below G4.out) (by rw [← HM.out]; omega)
          have cy := hcy i (by rw [← HM.out]; exact p2)
          have qy1 : decide (i < M) = true := by simpa using p2
          have qy2 : (i : Int) < M := by omega
          obtain ⟨j1, j2⟩ := inB_iff.1 (HIY.out i p2)
          clear hcy
          have HV : Hid ((nth ys i) = nth xs i + nth ys i) := by show _ = _; rw [zx]; omega
          have ty : IntKind.i64.wrap (nth ys i) = nth ys i := IntWalk.i64_in _ (by omega)
          clear zx
          go_wp2_with (at_builtin; refine wpl_int _ rfl _ _ rfl w.heap.size (.slice A1 i c1) i (intsV (fun j => nth xs j + nth ys j) i) rfl (OW.out.alloc _) wr.heap.size (.int .i64 (nth ys i)) rfl (HB.new wr 3 _) rfl (by omega) (by have := G4.out.size; simp; omega) ?_)
          intro g4 cap4 w4 hown4 hkp4 hb4
          have F4 := Lib.hid (hkp4.hb (by decide) (HB.alloc F6.out (.cells #[.int .i64 (nth ys i)] 3)))
          have R5 := Lib.hid ((hkp4.hb (by decide) (HB.alloc R4.out (.cells #[.int .i64 (nth ys i)] 3))).far (p := ⟨w3.heap.size + 1, 0, none⟩) (show w.heap.size ≠ w3.heap.size + 1 by omega) (.slice (some ⟨g4, 0, none⟩) (i + 1 : Nat) cap4))
          have S5 := Lib.hid ((hkp4.hb (by decide) (HB.alloc S4.out (.cells #[.int .i64 (nth ys i)] 3))).far (p := ⟨w3.heap.size + 1, 0, none⟩) (show w.heap.size + 1 ≠ w3.heap.size + 1 by omega) (.slice (some ⟨g4, 0, none⟩) (i + 1 : Nat) cap4))
          have G5 : Hid (Below w.heap.size w (w4.setCell ⟨w3.heap.size + 1, 0, none⟩ (.slice (some ⟨g4, 0, none⟩) (i + 1 : Nat) cap4))) := (hb4 _ (Below.alloc G4.out (by have := G4.out.size; simpa using this) (.cells #[.int .i64 (nth ys i)] 3))).setCell (show w.heap.size ≤ w3.heap.size + 1 by omega) _
          have F5 : Hid (HB (w4.setCell ⟨w3.heap.size + 1, 0, none⟩ (.slice (some ⟨g4, 0, none⟩) (i + 1 : Nat) cap4)) (w3.heap.size + 1) 24 #[.slice (some ⟨g4, 0, none⟩) (i + 1 : Nat) cap4, .int .i64 ka, .int .i64 (ta + tb)]) := by
            have := F4.out.set_ 0 (.slice (some ⟨g4, 0, none⟩) (i + 1 : Nat) cap4)
            show HB _ _ _ _
            simpa using this
          have O5 : Hid ((w4.setCell ⟨w3.heap.size + 1, 0, none⟩ (.slice (some ⟨g4, 0, none⟩) (i + 1 : Nat) cap4)).ownsRow w.heap.size 3 1 (.slice (some ⟨g4, 0, none⟩) (i + 1 : Nat) cap4) (i + 1) (intsV (fun j => nth xs j + nth ys j) (i + 1))) := by
            have := own_far hown4.out F4.out (by decide) 0 (.slice (some ⟨g4, 0, none⟩) (i + 1 : Nat) cap4)
            rw [HV.out, ← intsV_succ (fun j => nth xs j + nth ys j) i] at this
            exact this
          obtain ⟨y0, y1, y2, y3, y4, y5⟩ := HB.row' F4.out
          have l4 := F4.out.lt
          clear F4 hown4 hkp4 hb4
          go_wp2
          exact ⟨⟨i + 1, _, _, by omega, by go_num, F5, O5, R5, S5, G5⟩, by simp [intOf]; omega⟩
        · have qx1 : decide (i < L) = false := by simpa using p1
          have zx : nth xs i = 0 := nth_out (by rw [← HL.out]; omega)
          have qy1 : decide (i < M) = false := by simpa using p2
          have zy : nth ys i = 0 := nth_out (by rw [← HM.out]; omega)
          have HV : Hid ((0) = nth xs i + nth ys i) := by show _ = _; rw [zx, zy]; omega
          clear zx
          clear zy
          go_wp2_with (at_builtin; refine wpl_int _ rfl _ _ rfl w.heap.size (.slice A1 i c1) i (intsV (fun j => nth xs j + nth ys j) i) rfl (OW.out.alloc _) wr.heap.size (.int .i64 (0)) rfl (HB.new wr 3 _) rfl (by omega) (by have := G4.out.size; simp; omega) ?_)
          intro g4 cap4 w4 hown4 hkp4 hb4
          have F4 := Lib.hid (hkp4.hb (by decide) (HB.alloc F6.out (.cells #[.int .i64 (0)] 3)))
          have R5 := Lib.hid ((hkp4.hb (by decide) (HB.alloc R4.out (.cells #[.int .i64 (0)] 3))).far (p := ⟨w3.heap.size + 1, 0, none⟩) (show w.heap.size ≠ w3.heap.size + 1 by omega) (.slice (some ⟨g4, 0, none⟩) (i + 1 : Nat) cap4))
          have S5 := Lib.hid ((hkp4.hb (by decide) (HB.alloc S4.out (.cells #[.int .i64 (0)] 3))).far (p := ⟨w3.heap.size + 1, 0, none⟩) (show w.heap.size + 1 ≠ w3.heap.size + 1 by omega) (.slice (some ⟨g4, 0, none⟩) (i + 1 : Nat) cap4))
          have G5 : Hid (Below w.heap.size w (w4.setCell ⟨w3.heap.size + 1, 0, none⟩ (.slice (some ⟨g4, 0, none⟩) (i + 1 : Nat) cap4))) := (hb4 _ (Below.alloc G4.out (by have := G4.out.size; simpa using this) (.cells #[.int .i64 (0)] 3))).setCell (show w.heap.size ≤ w3.heap.size + 1 by omega) _
          have F5 : Hid (HB (w4.setCell ⟨w3.heap.size + 1, 0, none⟩ (.slice (some ⟨g4, 0, none⟩) (i + 1 : Nat) cap4)) (w3.heap.size + 1) 24 #[.slice (some ⟨g4, 0, none⟩) (i + 1 : Nat) cap4, .int .i64 ka, .int .i64 (ta + tb)]) := by
            have := F4.out.set_ 0 (.slice (some ⟨g4, 0, none⟩) (i + 1 : Nat) cap4)
            show HB _ _ _ _
            simpa using this
          have O5 : Hid ((w4.setCell ⟨w3.heap.size + 1, 0, none⟩ (.slice (some ⟨g4, 0, none⟩) (i + 1 : Nat) cap4)).ownsRow w.heap.size 3 1 (.slice (some ⟨g4, 0, none⟩) (i + 1 : Nat) cap4) (i + 1) (intsV (fun j => nth xs j + nth ys j) (i + 1))) := by
            have := own_far hown4.out F4.out (by decide) 0 (.slice (some ⟨g4, 0, none⟩) (i + 1 : Nat) cap4)
            rw [HV.out, ← intsV_succ (fun j => nth xs j + nth ys j) i] at this
            exact this
          obtain ⟨y0, y1, y2, y3, y4, y5⟩ := HB.row' F4.out
          have l4 := F4.out.lt
          clear F4 hown4 hkp4 hb4
          go_wp2
          exact ⟨⟨i + 1, _, _, by omega, by go_num, F5, O5, R5, S5, G5⟩, by simp [intOf]; omega⟩
    · obtain rfl : i = L' := by omega
      have q3 : decide (i < i) = false := by simp
      have HIx : Hid (Is wr A1 ((List.range i).map fun j => nth xs j + nth ys j)) := own_is OW.out (by simp) (fun j hj => by simp [nth, List.getD, hj])
      clear hlt
      go_wp2_with fail
      refine (HH3.out _ A1 c1 HIx.out (HP.out.below G4.out)).mono ?_
      rintro e w5 ⟨rfl, hb5⟩
      have G8 : Hid (Below w.heap.size w w5) := bw_below (Nat.le_refl _) G4.out hb5
      clear hb5
      rcases HO.out with d | ⟨d, rfl⟩ | ⟨d, rfl, rfl⟩ | ⟨d, rfl, rfl, rfl⟩
      all_goals
        go_wp2
        go_ret
        exact ⟨rfl, by have := G8.out; have z := this.size; go_grown⟩
theorem chk_kinds {kind tt n : Int} {xs : List Int} (h : chkC kind tt xs n = 0) : (xs.length : Int) ≤ n ∧ (∀ i, i < xs.length → inB (nth xs i) = true) ∧ inB tt = true := by
  obtain ⟨_, _, _, _, h1, h2, h3⟩ := chk_zero h
  exact ⟨h1, bad_all h2, h3⟩
theorem rowplus_any (A B A' : Option Addr) (xs ys : List Int) (ps : List (Int × Int)) (L c M m L' c' : Nat) (ka ta kb tb : Int) (hL : L = xs.length) (hM : M = ys.length) (hL' : L' = ps.length) (w : World) (h : Is w A xs) (h2 : Is w B ys) (hp : Fs w A' ps) :
    Calls Try.prog 10 #[.agg #[.slice A L c, .int .i64 ka, .int .i64 ta], .agg #[.slice B M m, .int .i64 kb, .int .i64 tb], .slice A' L' c'] w fun e w' => e = .returned (.bool true) ∧ Below w.heap.size w w' := by
  have hh1 : ∀ W, Is W A xs → Fs W A' ps → Calls Try.prog 12 #[.agg #[.slice A L c, .int .i64 ka, .int .i64 ta], .slice A' L' c'] W (GivesB (decide (atC ka ta xs ps = 0) && holdsV ka ta xs ps) (atC ka ta xs ps) (atI ka ta xs ps) W) := fun W h1 h2 => holds_any A A' xs ps L c L' c' ka ta hL hL' W h1 h2
  have hh2 : ∀ W, Is W B ys → Fs W A' ps → Calls Try.prog 12 #[.agg #[.slice B M m, .int .i64 kb, .int .i64 tb], .slice A' L' c'] W (GivesB (decide (atC kb tb ys ps = 0) && holdsV kb tb ys ps) (atC kb tb ys ps) (atI kb tb ys ps) W) := fun W h1 h2 => holds_any B A' ys ps M m L' c' kb tb hM hL' W h1 h2
  by_cases hC : atC ka ta xs ps = 0
  · by_cases hC2 : atC kb tb ys ps = 0
    · obtain ⟨_, z1, _⟩ := at_zero hC
      obtain ⟨_, z2, zp⟩ := at_zero hC2
      obtain ⟨q1, q2, q3⟩ := chk_kinds z1
      obtain ⟨r1, r2, r3⟩ := chk_kinds z2
      obtain ⟨_, _, n12, kka, _⟩ := chk_zero z1
      obtain ⟨_, n0, _, kkb, _⟩ := chk_zero z2
      by_cases k1 : ka = 3
      · refine rowplus_out A B A' xs ys ps L c M m L' c' ka ta kb tb w h h2 hp _ _ _ _ _ _ hh1 hh2 (.inr (.inr (.inl ⟨by simpa using hC, by simpa using hC, by simpa using hC2, by simpa using k1⟩)))
      · by_cases k2 : kb = 3
        · refine rowplus_out A B A' xs ys ps L c M m L' c' ka ta kb tb w h h2 hp _ _ _ _ _ _ hh1 hh2 (.inr (.inr (.inr ⟨by simpa using hC, by simpa using hC, by simpa using hC2, by simpa using k1, by simpa using k2⟩)))
        · have hln : (ps.length : Int) ≤ 12 := n12
          have hl12 : L' ≤ 12 := by omega
          obtain ⟨km, hkm⟩ : ∃ km, km = if ka < kb then kb else ka := ⟨_, rfl⟩
          have hh3 : ∀ W A3 (c3 : Nat), Is W A3 ((List.range L').map fun j => nth xs j + nth ys j) → Fs W A' ps → Calls Try.prog 12 #[.agg #[.slice A3 L' c3, .int .i64 km, .int .i64 (ta + tb)], .slice A' L' c'] W (GivesB (decide (atC km (ta + tb) ((List.range L').map fun j => nth xs j + nth ys j) ps = 0) && holdsV km (ta + tb) ((List.range L').map fun j => nth xs j + nth ys j) ps) (atC km (ta + tb) ((List.range L').map fun j => nth xs j + nth ys j) ps) (atI km (ta + tb) ((List.range L').map fun j => nth xs j + nth ys j) ps) W) := fun W A3 c3 h1 h2 =>
            holds_any A3 A' _ ps L' c3 L' c' km (ta + tb) (by simp) hL' W h1 h2
          have hout : (atC km (ta + tb) ((List.range L').map fun j => nth xs j + nth ys j) ps != 0) = true ∨ (atC km (ta + tb) ((List.range L').map fun j => nth xs j + nth ys j) ps != 0) = false ∧ (decide (atC ka ta xs ps = 0) && holdsV ka ta xs ps) = false ∨ (atC km (ta + tb) ((List.range L').map fun j => nth xs j + nth ys j) ps != 0) = false ∧ (decide (atC ka ta xs ps = 0) && holdsV ka ta xs ps) = true ∧ (decide (atC kb tb ys ps = 0) && holdsV kb tb ys ps) = false ∨ (atC km (ta + tb) ((List.range L').map fun j => nth xs j + nth ys j) ps != 0) = false ∧ (decide (atC ka ta xs ps = 0) && holdsV ka ta xs ps) = true ∧ (decide (atC kb tb ys ps = 0) && holdsV kb tb ys ps) = true ∧ (decide (atC km (ta + tb) ((List.range L').map fun j => nth xs j + nth ys j) ps = 0) && holdsV km (ta + tb) ((List.range L').map fun j => nth xs j + nth ys j) ps) = true := by
            by_cases hC3 : atC km (ta + tb) ((List.range L').map fun j => nth xs j + nth ys j) ps = 0
            · right
              have e3 : (atC km (ta + tb) ((List.range L').map fun j => nth xs j + nth ys j) ps != 0) = false := by simpa using hC3
              obtain ⟨l1, _, l2⟩ := at_pos hC
              obtain ⟨l3, _, _⟩ := at_pos hC2
              obtain ⟨l4, _, _⟩ := at_pos hC3
              rw [e3, hC, hC2, hC3, holds_EN l1 l2, holds_EN l3 l2, holds_EN l4 l2]
              have es : EN (ta + tb) ((List.range L').map fun j => nth xs j + nth ys j) ps = 1 * EN ta xs ps + 1 * EN tb ys ps := EN_lin (fun j hj => by
                have : nth ((List.range L').map fun j => nth xs j + nth ys j) j = nth xs j + nth ys j := by simp [nth, List.getD, show j < L' by omega]
                rw [this]; omega) (by omega)
              rw [es, hkm]
              generalize EN ta xs ps = x at *
              generalize EN tb ys ps = y at *
              have ka12 : ka = 1 ∨ ka = 2 := by omega
              have kb12 : kb = 1 ∨ kb = 2 := by omega
              rcases ka12 with rfl | rfl <;> rcases kb12 with rfl | rfl <;> simp <;> omega
            · left
              simpa using hC3
          by_cases hlt : ka < kb
          · rw [if_pos hlt] at hkm
            subst hkm
            exact rowplus_lo A B A' xs ys ps L c M m L' c' ka ta km tb hL hM hl12 w h h2 hp _ _ _ _ _ _ _ _ _ (fun i hi => q2 i (by omega)) (fun i hi => r2 i (by omega)) q3 r3 hh1 hh2 hh3 (by simpa using hC) (by simpa using hC2) (by simpa using k1) (by simpa using k2) hlt hout
          · rw [if_neg hlt] at hkm
            subst hkm
            exact rowplus_hi A B A' xs ys ps L c M m L' c' km ta kb tb hL hM hl12 w h h2 hp _ _ _ _ _ _ _ _ _ (fun i hi => q2 i (by omega)) (fun i hi => r2 i (by omega)) q3 r3 hh1 hh2 hh3 (by simpa using hC) (by simpa using hC2) (by simpa using k1) (by simpa using k2) hlt hout
    · refine rowplus_out A B A' xs ys ps L c M m L' c' ka ta kb tb w h h2 hp _ _ _ _ _ _ hh1 hh2 (.inr (.inl ⟨by simpa using hC, by simpa using hC, by simpa using hC2⟩))
  · refine rowplus_out A B A' xs ys ps L c M m L' c' ka ta kb tb w h h2 hp _ _ _ _ _ _ hh1 hh2 (.inl ⟨by simpa using hC, by simpa using hC, by simp [hC]⟩)
end Go.Proofs.Ytkjollifghmkbaa
