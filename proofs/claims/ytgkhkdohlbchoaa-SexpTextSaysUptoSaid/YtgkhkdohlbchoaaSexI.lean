/-
  The reference's text of an expression, and of a list of them; the law that compares them.
-/
import Derived.Test.YtgkhkdohlbchoaaSexH
namespace Go.Proofs.Ytgkhkdohlbchoaa
open Go.RowKit

theorem ba_eq {s : ByteArray} {l : List UInt8} (h : s.data.toList = l) : s = ⟨l.toArray⟩ := by
  cases s with | mk d => simp at h; subst h; simp
set_option maxHeartbeats 4000000 in
theorem sexpof_any (n : Nat) : ∀ (s : ByteArray) (l : Bool) (k : Fo) (A : Option Addr) (c : Nat) (w : World), k.size < n → k.len ≤ maxLen → k.At w A → (oneT s l k).length ≤ 1000000000 →
    Calls Try.prog 29 #[.agg #[.string s, .bool l, .slice A k.len c]] w fun e w' => e = .returned (.string ⟨(oneT s l k).toArray⟩) ∧ Below w.heap.size w w' := by
  induction n with
  | zero => intro s l k A c w hn; omega
  | succ n ih =>
    intro s l k A c w hn hl h hlen
    have HA := Lib.hid h
    have HN := Lib.hid hn
    have IH := Lib.hid ih
    clear h hn ih
    cases l with
    | false =>
      clear hl hlen
      have HE := Lib.hid (show (⟨(oneT s false k).toArray⟩ : ByteArray) = s by simp [oneT])
      go_enter Try.func29, Try.ntmps29
      go_wp2_with fail
      go_ret
      refine ⟨by rw [HE.out]; rfl, ?_⟩
      go_grown
    | true =>
      have hlen2 : (1 + ((k.tk true).length + 1)) ≤ 1000000000 := by simpa [oneT, Nat.add_comm, Nat.add_left_comm] using hlen
      unfold maxLen at hl
      have HO : Hid (∀ o : ByteArray, o.data.toList = oneT s true k → o = ⟨(oneT s true k).toArray⟩) := fun o ho => ba_eq ho
      generalize hL : k.len = L at *
      have HL := Lib.hid hL
      generalize hT : (⟨(oneT s true k).toArray⟩ : ByteArray) = T at *
      clear hlen hL hT
      go_enter Try.func29, Try.ntmps29
      go_wp2_with fail
      go_loopw [3, 4] (fun v i wr => ∃ (j : Nat) (o : ByteArray), j ≤ L ∧ v = .string o ∧ i = .int .i64 j ∧ Hid (o.data.toList ++ (k.drop j).tk (decide (j = 0)) = 40 :: k.tk true) ∧ Hid (HB wr w.heap.size 42 #[.string s, .bool true, .slice A L c]) ∧ Hid (Below w.heap.size w wr)) (fun _ i _ => L - (intOf i).toNat)
      case atStart => exact ⟨0, ⟨#[40]⟩, by omega, rfl, rfl, by rw [Fo.drop_zero]; exact Lib.hid rfl, HB.new _ _ _, new_below _ _⟩
      case round =>
        obtain ⟨j, o, hj, rfl, rfl, HE, HX, HW⟩ := hrel
        obtain ⟨x0, x1, x2, _⟩ := HX.out.three
        have hwl := HX.out.lt
        by_cases hlj : j < L
        · obtain ⟨bb, oo, s', l', k', A', c', rfl, hbb, hd, c0, c1, c2, hs, hk1, hk2, hk3⟩ := fo_cell_in HA.out HW.out (by rw [HL.out]; exact hlj)
          have HD := Lib.hid hd
          have HKA := Lib.hid (hk3.below HW.out)
          have LK := Lib.hid (Nat.le_trans hk1 hk2)
          have t3 : decide ((j : Int) < L) = true := by simpa using hlj
          have hlenE : o.size + ((if decide (j = 0) then [] else [32] : List UInt8).length + ((oneT s' l' k').length + ((k.drop (j + 1)).tk false).length)) ≤ 1000000000 := by
            have := congrArg List.length HE.out
            rw [tk_drop HD.out] at this
            simp only [List.length_append, List.length_cons] at this
            have e : o.data.toList.length = o.size := rfl
            omega
          clear hd hk3 hk1 hk2 hs
          by_cases hj0 : j = 0
          · have t4 : decide ((0 : Int) < j) = false := by simp; omega
            have t5 : ¬ 0 < j := by omega
            have hlen3 : o.size + (oneT s' l' k').length ≤ 1000000000 := by simp [hj0] at hlenE; omega
            have HJ0 := Lib.hid hj0
            clear hlenE hj0
            go_wp2_with fail
            refine (IH.out s' l' k' A' c' _ (by have := (kid_size HD.out).1; have := HN.out; omega) LK.out HKA.out (by omega)).mono ?_
            rintro e w2 ⟨rfl, hw2⟩
            have G2 : Hid (Below w.heap.size w w2) := bw_below (Nat.le_refl _) HW.out hw2
            have X2 := Lib.hid (HX.out.below hw2)
            clear hw2
            generalize hT2 : (⟨(oneT s' l' k').toArray⟩ : ByteArray) = T2 at *
            have HT2 := Lib.hid (show T2.data.toList = oneT s' l' k' by rw [← hT2])
            have HS2 : T2.size ≤ 1000000000 := by have : T2.size = (oneT s' l' k').length := by rw [← hT2]; simp [ByteArray.size]
                                                  omega
            clear hT2
            go_wp2_with fail
            go_round
            case rel => exact ⟨j + 1, _, by omega, by rfl, by go_num, by
              have := HE.out
              rw [tk_drop HD.out] at this
              refine Lib.hid ?_
              rw [Joins.data_append, HT2.out]
              simpa [HJ0.out] using this, X2.out, G2.out⟩
            case measure => simp [intOf]; omega
          · have t4 : decide ((0 : Int) < j) = true := by simp; omega
            have t5 : 0 < j := by omega
            have hlen3 : o.size + 1 + (oneT s' l' k').length ≤ 1000000000 := by simp [hj0] at hlenE; omega
            have HJ0 := Lib.hid hj0
            clear hlenE hj0
            go_wp2_with fail
            refine (IH.out s' l' k' A' c' _ (by have := (kid_size HD.out).1; have := HN.out; omega) LK.out HKA.out (by omega)).mono ?_
            rintro e w2 ⟨rfl, hw2⟩
            have G2 : Hid (Below w.heap.size w w2) := bw_below (Nat.le_refl _) HW.out hw2
            have X2 := Lib.hid (HX.out.below hw2)
            clear hw2
            generalize hT2 : (⟨(oneT s' l' k').toArray⟩ : ByteArray) = T2 at *
            have HT2 := Lib.hid (show T2.data.toList = oneT s' l' k' by rw [← hT2])
            have HS2 : T2.size ≤ 1000000000 := by have : T2.size = (oneT s' l' k').length := by rw [← hT2]; simp [ByteArray.size]
                                                  omega
            clear hT2
            go_wp2_with fail
            go_round
            case rel => exact ⟨j + 1, _, by omega, by rfl, by go_num, by
              have := HE.out
              rw [tk_drop HD.out] at this
              refine Lib.hid ?_
              rw [Joins.data_append, Joins.data_append, HT2.out]
              simpa [HJ0.out] using this, X2.out, G2.out⟩
            case measure => simp [intOf]; omega
        · have HE2 := Lib.hid (show (o ++ ⟨#[41]⟩) = T from HO.out _ (by
            have := HE.out
            rw [drop_here HL.out hlj hj] at this
            rw [Joins.data_append]
            simp [Fo.tk] at this
            simp [oneT, this]))
          have hos : o.size ≤ 1000000000 := by
            have := congrArg List.length HE.out
            rw [drop_here HL.out hlj hj] at this
            simp [Fo.tk] at this
            have e : o.data.toList.length = o.size := rfl
            simp at e
            omega
          obtain rfl : j = L := by omega
          have t3 : decide ((j : Int) < j) = false := by simp
          go_wp2_with fail
          go_ret
          exact ⟨by rw [← HE2.out]; rfl, HW.out⟩
set_option maxHeartbeats 2000000 in
theorem reftext_bad (f : Fo) (A : Option Addr) (c : Nat) (w : World) (hl : f.len ≤ maxLen) (hbig : f.size ≤ 1000000000000000000) (h : f.At w A) (hc : ¬ f.chkC = 0) : Calls Try.prog 17 #[.slice A f.len c] w (GivesS [] f.chkC f.chkI w) := by
  have H1 := Lib.hid (fun (W : World) (hW : f.At W A) => refcheck_any f A c W hl hbig hW)
  have HA := Lib.hid h
  generalize f.chkC = q at *
  generalize f.chkI = i at *
  generalize f.len = L at *
  have d1 : (q != 0) = true := by simpa using hc
  clear h hl
  go_enter Try.func17, Try.ntmps17
  go_wp2_with fail
  refine (H1.out _ (HA.out.below (new_below _ _))).mono ?_
  rintro e w1 ⟨rfl, hb1⟩
  have R1 := (HB.new w 27 #[.int .i64 0, .int .i64 0]).below hb1
  have HR1 := Lib.hid R1
  have G1 : Hid (Below w.heap.size w w1) := bw_below (Nat.le_refl _) (new_below _ _) hb1
  have l1 := R1.lt
  obtain ⟨r0, r1, r2, r3⟩ := R1.two
  clear hb1 R1
  go_wp2_with fail
  have HT := Lib.hid ((((hb_set2 (n := .int .i64 q) (d := .int .i64 i) HR1.out).alloc (.cells #[.int .i64 q, .int .i64 i] 27))).drew)
  go_region
  go_wp2_with fail
  obtain ⟨y0, y1, _, _⟩ := HT.out.two
  refine bodyPost_ret (v := .tuple #[.string ⟨#[]⟩, .agg #[.int .i64 q, .int .i64 i]]) (by simp [results, Try.results17, go_sem, y0, y1]) rfl ⟨rfl, ?_⟩
  have F := bw_far G1.out (Nat.le_refl _) (far2 w1 w.heap.size (.int .i64 q) (.int .i64 i))
  exact below_dn (Below.alloc F F.size _) 1
set_option maxHeartbeats 4000000 in
theorem reftext_good (f : Fo) (A : Option Addr) (c : Nat) (w : World) (hl : f.len ≤ maxLen) (h : f.At w A) (hc : f.chkC = 0) (T : ByteArray) (C : Int) (hT : (4000 < f.lines.length → T = ⟨#[]⟩ ∧ C = 10) ∧ (¬ 4000 < f.lines.length → T = ⟨f.lines.toArray⟩ ∧ C = 0)) : Calls Try.prog 17 #[.slice A f.len c] w fun e w' => e = .returned (.tuple #[.string T, .agg #[.int .i64 C, .int .i64 0]]) ∧ Below w.heap.size w w' := by
  obtain ⟨hi0, hsz, hb0⟩ := Fo.chk_good hc
  have H1 := Lib.hid (fun (W : World) (hW : f.At W A) => refcheck_any f A c W hl (by omega) hW)
  rw [hc, hi0] at H1
  have hlen := Fo.lines_len f 0 hb0
  have hlen2 : f.lines.length ≤ 200000 := by omega
  have HA := Lib.hid h
  have HT := Lib.hid hT
  unfold maxLen at hl
  generalize hL : f.len = L at *
  have HL := Lib.hid hL
  clear h hi0 hc hb0 hlen hL hsz hT
  go_enter Try.func17, Try.ntmps17
  go_wp2_with fail
  refine (H1.out _ (HA.out.below (new_below _ _))).mono ?_
  rintro e w1 ⟨rfl, hb1⟩
  have R1 := (HB.new w 27 #[.int .i64 0, .int .i64 0]).below hb1
  have HR1 := Lib.hid R1
  have G1 : Hid (Below w.heap.size w w1) := bw_below (Nat.le_refl _) (new_below _ _) hb1
  have l1 := R1.lt
  clear hb1 R1
  go_wp2_with fail
  have HR2 := Lib.hid (HR1.out.alloc (.cells #[.int .i64 0, .int .i64 0] 27))
  have G2 : Hid (Below w.heap.size w (w1.alloc (.cells #[.int .i64 0, .int .i64 0] 27))) := Lib.hid (Below.alloc G1.out G1.out.size _)
  generalize hw2 : w1.alloc (.cells #[.int .i64 0, .int .i64 0] 27) = w2 at *
  clear hw2
  go_loopw [5, 6] (fun v i wr => ∃ (j : Nat) (o : ByteArray), j ≤ L ∧ v = .string o ∧ i = .int .i64 j ∧ Hid (o.data.toList ++ (f.drop j).lines = f.lines) ∧ Hid (HB wr w.heap.size 27 #[.int .i64 0, .int .i64 0]) ∧ Hid (Below w.heap.size w wr)) (fun _ i _ => L - (intOf i).toNat)
  case atStart => exact ⟨0, ⟨#[]⟩, by omega, rfl, rfl, by rw [Fo.drop_zero]; exact Lib.hid rfl, HR2.out, G2.out⟩
  case round =>
    obtain ⟨j, o, hj, rfl, rfl, HE, HR, HW⟩ := hrel
    have hwl := HR.out.lt
    by_cases hlj : j < L
    · obtain ⟨bb, oo, s', l', k', A', c', rfl, hbb, hd, c0, c1, c2, hs, hk1, hk2, hk3⟩ := fo_cell_in HA.out HW.out (by rw [HL.out]; exact hlj)
      have HD := Lib.hid hd
      have HKA := Lib.hid (hk3.below HW.out)
      have LK := Lib.hid (Nat.le_trans hk1 hk2)
      have t3 : decide ((j : Int) < L) = true := by simpa using hlj
      have hlenE : o.size + ((oneT s' l' k').length + 1) ≤ 200000 := by
        have := congrArg List.length HE.out
        rw [Fo.lines_drop HD.out] at this
        simp only [List.length_append, List.length_cons] at this
        have e : o.data.toList.length = o.size := rfl
        omega
      clear hd hk3 hk1 hk2 hs
      go_wp2_with fail
      refine (sexpof_any (k'.size + 1) s' l' k' A' c' _ (by omega) LK.out HKA.out (by omega)).mono ?_
      rintro e w3 ⟨rfl, hw3⟩
      have G3 : Hid (Below w.heap.size w w3) := bw_below (Nat.le_refl _) HW.out hw3
      have R3 := Lib.hid (HR.out.below hw3)
      clear hw3
      generalize hT2 : (⟨(oneT s' l' k').toArray⟩ : ByteArray) = T2 at *
      have HT2 := Lib.hid (show T2.data.toList = oneT s' l' k' by rw [← hT2])
      have HS2 : T2.size ≤ 1000000000 := by have : T2.size = (oneT s' l' k').length := by rw [← hT2]; simp [ByteArray.size]
                                            omega
      clear hT2
      go_wp2_with fail
      go_round
      case rel => exact ⟨j + 1, _, by omega, by rfl, by go_num, by
        have := HE.out
        rw [Fo.lines_drop HD.out] at this
        refine Lib.hid ?_
        rw [Joins.data_append, Joins.data_append, HT2.out]
        simpa using this, R3.out, G3.out⟩
      case measure => simp [intOf]; omega
    · have HE2 := Lib.hid (show o.data.toList = f.lines by have := HE.out; rw [drop_here HL.out hlj hj] at this; simpa [Fo.lines] using this)
      have hos : o.size = f.lines.length := by rw [← HE2.out]; rfl
      obtain rfl : j = L := by omega
      have t3 : decide ((j : Int) < j) = false := by simp
      obtain ⟨r0, r1, r2, r3⟩ := HR.out.two
      by_cases h4 : 4000 < f.lines.length
      · have d4 : decide ((4000 : Int) < o.size) = true := by simp; omega
        have d5 : 4000 < o.size := by omega
        obtain ⟨rfl, rfl⟩ := HT.out.1 h4
        clear hos
        go_wp2_with fail
        refine bodyPost_ret (v := .tuple #[.string ⟨#[]⟩, .agg #[.int .i64 10, .int .i64 0]]) (by simp [results, Try.results17, go_sem, r0, r1]) rfl ⟨rfl, ?_⟩
        exact bw_far HW.out (Nat.le_refl _) (far2 _ _ _ _)
      · have d4 : decide ((4000 : Int) < o.size) = false := by simp; omega
        have d5 : ¬ 4000 < o.size := by omega
        obtain ⟨hT1, rfl⟩ := HT.out.2 h4
        have HO : Hid (o = T) := Lib.hid (by rw [hT1]; exact ba_eq HE2.out)
        clear HT hT1 hos h4
        go_wp2_with fail
        refine bodyPost_ret (v := .tuple #[.string o, .agg #[.int .i64 0, .int .i64 0]]) (by simp [results, Try.results17, go_sem, r0, r1]) rfl ⟨by rw [HO.out], ?_⟩
        exact bw_far HW.out (Nat.le_refl _) (far2 _ _ _ _)
theorem reftext_any (f : Fo) (A : Option Addr) (c : Nat) (w : World) (hl : f.len ≤ maxLen) (hbig : f.size ≤ 1000000000000000000) (h : f.At w A) : Calls Try.prog 17 #[.slice A f.len c] w (GivesS f.txS f.txC f.txI w) := by
  by_cases hc : f.chkC = 0
  · have e : f.txI = 0 := by simp [Fo.txI, hc]
    rw [e]
    refine reftext_good f A c w hl h hc ⟨f.txS.toArray⟩ f.txC ⟨fun z => ?_, fun z => ?_⟩
    · simp [Fo.txS, Fo.txC, hc, z]
    · simp [Fo.txS, Fo.txC, hc, z]
  · have e : f.txS = [] ∧ f.txC = f.chkC ∧ f.txI = f.chkI := by simp [Fo.txS, Fo.txC, Fo.txI, hc]
    rw [e.1, e.2.1, e.2.2]
    exact reftext_bad f A c w hl hbig h hc
set_option maxHeartbeats 2000000 in
theorem textsays_any (f : Fo) (A : Option Addr) (c : Nat) (w : World) (hl : f.len ≤ maxLen) (hbig : f.size ≤ 1000000000000000000) (h : f.At w A) : Calls Try.prog 7 #[.slice A f.len c] w fun e w' => e = .returned (.bool true) ∧ Below w.heap.size w w' := by
  have H1 := Lib.hid (fun (W : World) (hW : f.At W A) => text_any f A c W hl hW)
  have H2 := Lib.hid (fun (W : World) (hW : f.At W A) => reftext_any f A c W hl hbig hW)
  have HA := Lib.hid h
  unfold GivesS at H1 H2
  generalize f.txC = q at *
  generalize f.txI = i at *
  generalize (⟨f.txS.toArray⟩ : ByteArray) = T at *
  generalize f.len = L at *
  clear h hl hbig
  go_enter Try.func7, Try.ntmps7
  go_wp2_with fail
  refine (H1.out _ HA.out).mono ?_
  rintro e w1 ⟨rfl, hb1⟩
  have G1 : Hid (Below w.heap.size w w1) := hb1
  clear hb1
  go_wp2_with fail
  have N1 := Lib.hid (HB.new w1 27 #[.int .i64 q, .int .i64 i])
  have GA : Hid (Below w.heap.size w (w1.alloc (.cells #[.int .i64 q, .int .i64 i] 27))) := Lib.hid (Below.alloc G1.out G1.out.size _)
  refine (H2.out _ (HA.out.below GA.out)).mono ?_
  rintro e w2 ⟨rfl, hb2⟩
  have G2 : Hid (Below w.heap.size w w2) := bw_below (Nat.le_refl _) GA.out hb2
  have N2 := N1.out.below hb2
  have l2 := N2.lt
  obtain ⟨r0, r1, r2, r3⟩ := N2.two
  clear hb2
  go_wp2_with fail
  go_ret
  exact ⟨by simp, Below.alloc G2.out G2.out.size _⟩
end Go.Proofs.Ytgkhkdohlbchoaa
