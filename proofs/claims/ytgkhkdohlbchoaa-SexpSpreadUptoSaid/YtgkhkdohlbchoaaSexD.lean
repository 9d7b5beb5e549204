/-
  The reference's look for what is wrong with a list of expressions.
-/
import Derived.Test.YtgkhkdohlbchoaaSexC
namespace Go.Proofs.Ytgkhkdohlbchoaa
open Go.RowKit

set_option maxHeartbeats 8000000 in
theorem sexpfault_any (n : Nat) : ∀ (f : Fo) (A : Option Addr) (c d n0 : Nat) (w : World), f.size < n → f.len ≤ maxLen → d + f.size ≤ 1000000000000000000 → n0 + f.size ≤ 1000000000000000000 → f.At w A →
    Calls Try.prog 28 #[.slice A f.len c, .int .i64 d, .int .i64 n0] w (GivesC f d n0 w) := by
  induction n with
  | zero => intro f A c d n0 w hn; omega
  | succ n ih =>
    intro f A c d n0 w hn hl hd0 hn0 h
    have HA := Lib.hid h
    have HN := Lib.hid hn
    have IH := Lib.hid ih
    unfold maxLen at hl
    generalize hL : f.len = L at *
    have HL := Lib.hid hL
    clear h hn ih hL
    go_enter Try.func28, Try.ntmps28
    go_wp2_with fail
    go_loopw [2, 8] (fun m k wr => ∃ i a : Nat, i ≤ L ∧ m = .int .i64 a ∧ k = .int .i64 i ∧ a + (f.drop i).size = n0 + f.size ∧ Hid (f.bad d = (f.drop i).bad d ∧ f.end_ d n0 = (f.drop i).end_ d a) ∧ Hid (HB wr w.heap.size 27 #[.int .i64 0, .int .i64 0]) ∧ Hid (Below w.heap.size w wr)) (fun _ k _ => L - (intOf k).toNat)
    case atStart => exact ⟨0, n0, by omega, rfl, rfl, by rw [Fo.drop_zero], ⟨by rw [Fo.drop_zero], by rw [Fo.drop_zero]⟩, HB.new _ _ _, new_below _ _⟩
    case round =>
      obtain ⟨i, a, hi, rfl, rfl, hm, HM, HR, HG⟩ := hrel
      by_cases hlt : i < L
      · obtain ⟨b, o, s, l, k, A', c', rfl, hb, hd, c0, c1, c2, hs, hk1, hk2, hk3⟩ := fo_cell (HA.out.below HG.out) (by rw [HL.out]; exact hlt)
        have t3 : decide ((i : Int) < L) = true := by simpa using hlt
        have hz := kid_size hd
        have HD := Lib.hid hd
        have HK := Lib.hid hk3
        have LK := Lib.hid (Nat.le_trans hk1 hk2)
        have HS := Lib.hid hs
        have l0 := HR.out.lt
        obtain ⟨r0, r1, r2, r3⟩ := HR.out.two
        have HRA := Lib.hid (HR.out.alloc (.cells #[.string s, .bool l, .slice A' k.len c'] 42))
        have GA : Hid (Below w.heap.size w (wr.alloc (.cells #[.string s, .bool l, .slice A' k.len c'] 42))) := Below.alloc HG.out HG.out.size _
        have KA := Lib.hid (HK.out.below (new_below wr (.cells #[.string s, .bool l, .slice A' k.len c'] 42)))
        clear hd hk3 hk1 hk2 hs
        have bad : ∀ q : Int, wrongC s l k.len d = q → ¬ q = 0 → Hid (f.bad d = q ∧ f.end_ d n0 = a) := fun q hq hq0 => by
          refine Lib.hid ?_
          rw [HM.out.1, HM.out.2, HD.out]
          unfold Fo.bad Fo.end_
          rw [hq, if_neg hq0, if_neg hq0]
          exact ⟨rfl, rfl⟩
        have BAD := Lib.hid bad
        clear bad
        cases l with
        | true =>
          by_cases h1 : s.size = 0
          · have d1 := tl_e h1
            by_cases h2 : 40 < d
            · have d2 : decide ((40 : Int) < d) = true := by simp; omega
              have HE := BAD.out 10 (by simp [wrongC, h1, h2]) (by decide)
              clear h1
              go_wp2_with fail
              have RR := (hb_set2 (n := .int .i64 10) (d := .int .i64 a) HR.out).alloc (.cells #[.string s, .bool true, .slice A' k.len c'] 42)
              obtain ⟨y0, y1, _, _⟩ := RR.two
              refine bodyPost_ret (v := .tuple #[.agg #[.int .i64 10, .int .i64 a], .int .i64 a]) (by simp [results, Try.results28, go_sem, y0, y1]) rfl ⟨by rw [HE.out.1, HE.out.2, if_neg (by decide)], ?_⟩
              have F := bw_far HG.out (Nat.le_refl _) (far2 wr w.heap.size (.int .i64 10) (.int .i64 a))
              exact Below.alloc F F.size _
            · have d2 : decide ((40 : Int) < d) = false := by simp; omega
              have HQ := Lib.hid (show wrongC s true k.len d = 0 by simp [wrongC, h1, h2])
              clear h1
              go_wp2_with fail
              rw [show (d : Int) + 1 = ((d + 1 : Nat) : Int) by omega, show (a : Int) + 1 = ((a + 1 : Nat) : Int) by omega]
              refine (IH.out k A' c' (d + 1) (a + 1) _ (by have := HN.out; omega) LK.out (by omega) (by omega) KA.out).mono ?_
              rintro e w2 ⟨rfl, hb2⟩
              have G2 : Hid (Below w.heap.size w w2) := bw_below (Nat.le_refl _) GA.out hb2
              have R2 := HRA.out.below hb2
              have HR2 := Lib.hid R2
              have S2 := hb2.size
              have l2 := R2.lt
              clear r0 r1 r2 r3
              obtain ⟨r0, r1, r2, r3⟩ := R2.two
              have hle := Fo.end_le k (d + 1) (a + 1)
              generalize hp : k.bad (d + 1) = p at *
              generalize he : k.end_ (d + 1) (a + 1) = e1 at *
              have HP := Lib.hid hp
              have HEE := Lib.hid he
              clear hb2 R2 hp he
              by_cases hp0 : p = 0
              · subst hp0
                have hee := Lib.hid (show e1 = a + 1 + k.size by rw [← HEE.out]; exact Fo.end_good _ _ _ HP.out)
                rw [if_pos rfl]
                go_wp2_with fail
                go_round
                case rel => exact ⟨i + 1, e1, by omega, by go_num, by go_num, by have := hee.out; omega, by
                  refine ⟨?_, ?_⟩
                  · rw [HM.out.1, HD.out, Fo.bad, HQ.out, if_pos rfl, HP.out, if_pos rfl]
                  · rw [HM.out.2, HD.out, Fo.end_, HQ.out, if_pos rfl, HP.out, if_pos rfl, hee.out], HR2.out.alloc _, Below.alloc G2.out G2.out.size _⟩
                case measure => simp [intOf]; omega
              · have HP0 := Lib.hid hp0
                rw [if_neg hp0]
                have d1 : (p != 0) = true := by simpa using hp0
                have HX := Lib.hid (show f.bad d = p ∧ f.end_ d n0 = e1 by
                  rw [HM.out.1, HM.out.2, HD.out]
                  unfold Fo.bad Fo.end_
                  rw [HQ.out, if_pos rfl, HP.out, if_neg hp0, if_pos rfl, if_neg hp0]
                  exact ⟨rfl, HEE.out⟩)
                clear hp0
                go_wp2_with fail
                have RR := (hb_set2 (n := .int .i64 p) (d := .int .i64 e1) HR2.out).alloc (.cells #[.int .i64 p, .int .i64 e1] 27)
                obtain ⟨y0, y1, _, _⟩ := RR.two
                refine bodyPost_ret (v := .tuple #[.agg #[.int .i64 p, .int .i64 e1], .int .i64 e1]) (by simp [results, Try.results28, go_sem, y0, y1]) rfl ⟨by rw [HX.out.1, HX.out.2, if_neg HP0.out], ?_⟩
                have F := bw_far G2.out (Nat.le_refl _) (far2 w2 w.heap.size (.int .i64 p) (.int .i64 e1))
                exact Below.alloc F F.size _
          · have d1 := tl_ne h1
            have HE := BAD.out 5 (by simp [wrongC, h1]) (by decide)
            clear h1
            go_wp2_with fail
            have RR := (hb_set2 (n := .int .i64 5) (d := .int .i64 a) HR.out).alloc (.cells #[.string s, .bool true, .slice A' k.len c'] 42)
            obtain ⟨y0, y1, _, _⟩ := RR.two
            refine bodyPost_ret (v := .tuple #[.agg #[.int .i64 5, .int .i64 a], .int .i64 a]) (by simp [results, Try.results28, go_sem, y0, y1]) rfl ⟨by rw [HE.out.1, HE.out.2, if_neg (by decide)], ?_⟩
            have F := bw_far HG.out (Nat.le_refl _) (far2 wr w.heap.size (.int .i64 5) (.int .i64 a))
            exact Below.alloc F F.size _
        | false =>
          by_cases h1 : 0 < k.len
          · have HE := BAD.out 5 (by simp [wrongC, h1]) (by decide)
            go_wp2_with fail
            have RR := (hb_set2 (n := .int .i64 5) (d := .int .i64 a) HR.out).alloc (.cells #[.string s, .bool false, .slice A' k.len c'] 42)
            obtain ⟨y0, y1, _, _⟩ := RR.two
            refine bodyPost_ret (v := .tuple #[.agg #[.int .i64 5, .int .i64 a], .int .i64 a]) (by simp [results, Try.results28, go_sem, y0, y1]) rfl ⟨by rw [HE.out.1, HE.out.2, if_neg (by decide)], ?_⟩
            have F := bw_far HG.out (Nat.le_refl _) (far2 wr w.heap.size (.int .i64 5) (.int .i64 a))
            exact Below.alloc F F.size _
          · have h1' : ¬ (0 : Int) < k.len := by omega
            by_cases h3 : okW s = true
            · have H3 := Lib.hid h3
              by_cases h2 : 40 < d
              · have d2 : decide ((40 : Int) < d) = true := by simp; omega
                have HE := BAD.out 10 (by simp [wrongC, h1, h2, h3]) (by decide)
                clear h3
                go_wp2_with fail
                refine (goodword_any s HS.out _).mono ?_
                rintro e w1 ⟨rfl, rfl⟩
                rw [H3.out]
                go_wp2_with fail
                have RR := (hb_set2 (n := .int .i64 10) (d := .int .i64 a) HR.out).alloc (.cells #[.string s, .bool false, .slice A' k.len c'] 42)
                obtain ⟨y0, y1, _, _⟩ := RR.two
                refine bodyPost_ret (v := .tuple #[.agg #[.int .i64 10, .int .i64 a], .int .i64 a]) (by simp [results, Try.results28, go_sem, y0, y1]) rfl ⟨by rw [HE.out.1, HE.out.2, if_neg (by decide)], ?_⟩
                have F := bw_far HG.out (Nat.le_refl _) (far2 wr w.heap.size (.int .i64 10) (.int .i64 a))
                exact Below.alloc F F.size _
              · have d2 : decide ((40 : Int) < d) = false := by simp; omega
                have HQ := Lib.hid (show wrongC s false k.len d = 0 by simp [wrongC, h1, h2, h3])
                clear h3
                go_wp2_with fail
                refine (goodword_any s HS.out _).mono ?_
                rintro e w1 ⟨rfl, rfl⟩
                rw [H3.out]
                go_wp2_with fail
                rw [show (d : Int) + 1 = ((d + 1 : Nat) : Int) by omega, show (a : Int) + 1 = ((a + 1 : Nat) : Int) by omega]
                refine (IH.out k A' c' (d + 1) (a + 1) _ (by have := HN.out; omega) LK.out (by omega) (by omega) KA.out).mono ?_
                rintro e w2 ⟨rfl, hb2⟩
                have G2 : Hid (Below w.heap.size w w2) := bw_below (Nat.le_refl _) GA.out hb2
                have R2 := HRA.out.below hb2
                have HR2 := Lib.hid R2
                have S2 := hb2.size
                have l2 := R2.lt
                clear r0 r1 r2 r3
                obtain ⟨r0, r1, r2, r3⟩ := R2.two
                have hle := Fo.end_le k (d + 1) (a + 1)
                generalize hp : k.bad (d + 1) = p at *
                generalize he : k.end_ (d + 1) (a + 1) = e1 at *
                have HP := Lib.hid hp
                have HEE := Lib.hid he
                clear hb2 R2 hp he
                by_cases hp0 : p = 0
                · subst hp0
                  have hee := Lib.hid (show e1 = a + 1 + k.size by rw [← HEE.out]; exact Fo.end_good _ _ _ HP.out)
                  rw [if_pos rfl]
                  go_wp2_with fail
                  go_round
                  case rel => exact ⟨i + 1, e1, by omega, by go_num, by go_num, by have := hee.out; omega, by
                    refine ⟨?_, ?_⟩
                    · rw [HM.out.1, HD.out, Fo.bad, HQ.out, if_pos rfl, HP.out, if_pos rfl]
                    · rw [HM.out.2, HD.out, Fo.end_, HQ.out, if_pos rfl, HP.out, if_pos rfl, hee.out], HR2.out.alloc _, Below.alloc G2.out G2.out.size _⟩
                  case measure => simp [intOf]; omega
                · have HP0 := Lib.hid hp0
                  rw [if_neg hp0]
                  have d1 : (p != 0) = true := by simpa using hp0
                  have HX := Lib.hid (show f.bad d = p ∧ f.end_ d n0 = e1 by
                    rw [HM.out.1, HM.out.2, HD.out]
                    unfold Fo.bad Fo.end_
                    rw [HQ.out, if_pos rfl, HP.out, if_neg hp0, if_pos rfl, if_neg hp0]
                    exact ⟨rfl, HEE.out⟩)
                  clear hp0
                  go_wp2_with fail
                  have RR := (hb_set2 (n := .int .i64 p) (d := .int .i64 e1) HR2.out).alloc (.cells #[.int .i64 p, .int .i64 e1] 27)
                  obtain ⟨y0, y1, _, _⟩ := RR.two
                  refine bodyPost_ret (v := .tuple #[.agg #[.int .i64 p, .int .i64 e1], .int .i64 e1]) (by simp [results, Try.results28, go_sem, y0, y1]) rfl ⟨by rw [HX.out.1, HX.out.2, if_neg HP0.out], ?_⟩
                  have F := bw_far G2.out (Nat.le_refl _) (far2 w2 w.heap.size (.int .i64 p) (.int .i64 e1))
                  exact Below.alloc F F.size _
            · have H3 := Lib.hid (show okW s = false by simpa using h3)
              have HE := BAD.out 12 (by simp [wrongC, h1, h3]) (by decide)
              clear h3
              go_wp2_with fail
              refine (goodword_any s HS.out _).mono ?_
              rintro e w1 ⟨rfl, rfl⟩
              rw [H3.out]
              go_wp2_with fail
              have RR := (hb_set2 (n := .int .i64 12) (d := .int .i64 a) HR.out).alloc (.cells #[.string s, .bool false, .slice A' k.len c'] 42)
              obtain ⟨y0, y1, _, _⟩ := RR.two
              refine bodyPost_ret (v := .tuple #[.agg #[.int .i64 12, .int .i64 a], .int .i64 a]) (by simp [results, Try.results28, go_sem, y0, y1]) rfl ⟨by rw [HE.out.1, HE.out.2, if_neg (by decide)], ?_⟩
              have F := bw_far HG.out (Nat.le_refl _) (far2 wr w.heap.size (.int .i64 12) (.int .i64 a))
              exact Below.alloc F F.size _
      · obtain rfl : i = L := by omega
        have t3 : decide ((i : Int) < i) = false := by simp
        obtain ⟨r0, r1, r2, r3⟩ := HR.out.two
        have HE := Lib.hid (show f.bad d = 0 ∧ f.end_ d n0 = a by
          rw [HM.out.1, HM.out.2, drop_here HL.out hlt hi]
          exact ⟨rfl, rfl⟩)
        clear hlt
        go_wp2_with fail
        refine bodyPost_ret (v := .tuple #[.agg #[.int .i64 0, .int .i64 0], .int .i64 a]) (by simp [results, Try.results28, go_sem, r0, r1]) rfl ⟨by rw [HE.out.1, HE.out.2, if_pos rfl], ?_⟩
        exact bw_far HG.out (Nat.le_refl _) (far2 _ _ _ _)
end Go.Proofs.Ytgkhkdohlbchoaa
