/-
  SexpBack's walk.
-/
import Derived.Test.YtgkhkdohlbchoaaSPB
import Derived.Test.YtgkhkdohlbchoaaSexZ
namespace Go.Proofs.Ytgkhkdohlbchoaa
open Go.RowKit
/-- What Text says of expressions that the law makes: too many, too long, or their text. -/
theorem tx_cases {f : Fo} (h : f.bad 0 = 0) : (∃ i, f.txS = [] ∧ f.txC = 2 ∧ f.txI = i) ∨ (f.txS = [] ∧ f.txC = 10 ∧ f.txI = 0) ∨ (f.txS = f.lines ∧ f.txC = 0 ∧ f.txI = 0 ∧ f.chkC = 0 ∧ f.lines.length ≤ 4000) := by
  by_cases z : 4000 < f.size
  · have e : f.chkC = 2 := by unfold Fo.chkC; rw [if_pos z]
    exact .inl ⟨_, by simp [Fo.txS, e], by simp [Fo.txC, e], rfl⟩
  · have e : f.chkC = 0 := by unfold Fo.chkC; rw [if_neg z, h]
    by_cases q : 4000 < f.lines.length
    · exact .inr (.inl ⟨by simp [Fo.txS, e, q], by simp [Fo.txC, e, q], by simp [Fo.txI, e]⟩)
    · exact .inr (.inr ⟨by simp [Fo.txS, e, q], by simp [Fo.txC, e, q], by simp [Fo.txI, e], e, by omega⟩)
set_option maxRecDepth 100000 in
set_option maxHeartbeats 8000000 in
theorem back_any (A : Option Addr) (c : Nat) (zs : List Int) (w : World) (h1 : zs.length ≤ 2000000) (h2 : zs.length ≤ c) (h3 : c ≤ 9223372036854775807) (hz : Is w A zs) : Calls Try.prog 3 #[.slice A zs.length c] w fun e w' => e = .returned (.bool true) ∧ Below w.heap.size w w' := by
  have HTH : Hid (Calls Try.prog 9 #[.slice A zs.length c, .int .i64 6] w (ThingsQ A zs 6 w)) := Lib.hid (things_any 6 A c zs w (by omega) h1 h2 h3 hz)
  have HN := Lib.hid h1
  generalize hn : zs.length = n at *
  have HNN := Lib.hid hn
  clear h1 h2 h3 hz hn
  go_enter Try.func3, Try.ntmps3
  go_wp2_with fail
  refine HTH.out.mono ?_
  rintro e w1 ⟨v, f, A', c', zs', rfl, hrw, hbad, hlen, _, _, _, hb1⟩
  obtain ⟨Af, cf, rfl, hf1, hf2, hat⟩ := (hrw.lv [] (by simp)).at
  have G1 := Lib.hid hb1
  have HAT := Lib.hid hat
  have HL := Lib.hid (Nat.le_trans hf1 hf2)
  have hb0 := hbad 0 (by omega)
  have HT := Lib.hid (fun (W : World) (hW : f.At W Af) => text_any f Af cf W (Nat.le_trans hf1 hf2) hW)
  unfold GivesS at HT
  have HP := Lib.hid (fun (h : f.chkC = 0) (hl : f.lines.length ≤ 4000) W => parse_lines h hl ▸ parse_any ⟨f.lines.toArray⟩ W)
  have HS := Lib.hid (fun (W : World) (A3 : Option Addr) (c3 : Nat) (h1 : f.At W A3) (h2 : f.At W Af) => same_any (f.size + 1) f A3 Af c3 cf W (by omega) (Nat.le_trans hf1 hf2) h1 h2)
  clear hrw hbad hlen hf1 hf2 hat hb1
  rcases tx_cases hb0 with ⟨i, e1, e2, e3⟩ | ⟨e1, e2, e3⟩ | ⟨e1, e2, e3, e4, e5⟩
  · rw [e1, e2, e3] at HT
    clear HP HS hb0 e1 e2 e3
    generalize f.len = m at *
    go_wp2_with fail
    refine (HT.out _ HAT.out).mono ?_
    rintro e w2 ⟨rfl, hb2⟩
    have G2 : Hid (Below w.heap.size w w2) := bw_below (Nat.le_refl _) G1.out hb2
    clear hb2
    go_wp2_with fail
    refine (sure_any _).mono ?_
    rintro e w3 ⟨rfl, hb3⟩
    have G3 : Hid (Below w.heap.size w w3) := bw_below (Nat.le_refl _) (Below.alloc G2.out G2.out.size _) hb3
    clear hb3
    go_wp2_with fail
    go_ret
    exact ⟨rfl, G3.out⟩
  · rw [e1, e2, e3] at HT
    clear HP HS hb0 e1 e2 e3
    generalize f.len = m at *
    go_wp2_with fail
    refine (HT.out _ HAT.out).mono ?_
    rintro e w2 ⟨rfl, hb2⟩
    have G2 : Hid (Below w.heap.size w w2) := bw_below (Nat.le_refl _) G1.out hb2
    clear hb2
    go_wp2_with fail
    refine (sure_any _).mono ?_
    rintro e w3 ⟨rfl, hb3⟩
    have G3 : Hid (Below w.heap.size w w3) := bw_below (Nat.le_refl _) (Below.alloc G2.out G2.out.size _) hb3
    clear hb3
    go_wp2_with fail
    go_ret
    exact ⟨rfl, G3.out⟩
  · rw [e1, e2, e3] at HT
    have HP2 := Lib.hid (HP.out e4 e5)
    clear HP hb0 e1 e2 e3 e4 e5
    generalize (⟨f.lines.toArray⟩ : ByteArray) = T at *
    go_wp2_with fail
    refine (HT.out _ HAT.out).mono ?_
    rintro e w2 ⟨rfl, hb2⟩
    have G2 : Hid (Below w.heap.size w w2) := bw_below (Nat.le_refl _) G1.out hb2
    have A2 := Lib.hid (HAT.out.below hb2)
    have N2 := Lib.hid (HB.new w2 27 #[.int .i64 0, .int .i64 0])
    clear hb2
    go_wp2_with fail
    refine (HP2.out _).mono ?_
    rintro e w3 ⟨A3, cp3, rfl, h1, h2, hA3, hb3⟩
    have G3 : Hid (Below w.heap.size w w3) := bw_below (Nat.le_refl _) (Below.alloc G2.out G2.out.size _) hb3
    have A3' := Lib.hid ((A2.out.below (new_below w2 (.cells #[.int .i64 0, .int .i64 0] 27))).below hb3)
    have N3 := Lib.hid (N2.out.below hb3)
    have HA3 := Lib.hid hA3
    have l3 := N3.out.lt
    obtain ⟨r0, r1, _, _⟩ := N3.out.two
    clear h1 h2 hb3 hA3
    go_wp2_with fail
    refine (sure_any _).mono ?_
    rintro e w4 ⟨rfl, hb4⟩
    have G4 : Hid (Below w.heap.size w w4) := bw_below (Nat.le_refl _) (Below.alloc G3.out G3.out.size _) hb4
    have A4 := Lib.hid ((A3'.out.below (new_below w3 (.cells #[.int .i64 0, .int .i64 0] 27))).below hb4)
    have A4' := Lib.hid ((HA3.out.below (new_below w3 (.cells #[.int .i64 0, .int .i64 0] 27))).below hb4)
    clear hb4 r0 r1
    go_wp2_with fail
    refine (HS.out w4 A3 cp3 A4'.out A4.out).mono ?_
    rintro e w5 ⟨rfl, m, rfl⟩
    go_wp2_with fail
    go_ret
    exact ⟨rfl, below_dn G4.out m⟩
end Go.Proofs.Ytgkhkdohlbchoaa
