/-
  The reference's reading.
-/
import Derived.Test.YtgkhkdohlbchoaaSexT
import Derived.Test.YtgkhkdohlbchoaaSexS
namespace Go.Proofs.Ytgkhkdohlbchoaa
open Go.RowKit
theorem len_cons_sub {f : Fo} {outer : List Fo} {deep : Nat} (h : outer.length = deep) : (f :: outer).length - 1 = deep := by simp [h]
set_option maxRecDepth 100000 in
set_option maxHeartbeats 16000000 in
theorem from_any (n : Nat) : ∀ (s : ByteArray) (i deep : Nat) (w : World), s.size - i < n → s.size ≤ 4000 → i ≤ s.size → deep ≤ 41 → Calls Try.prog 30 #[.string s, .int .i64 i, .int .i64 deep] w (FromQ s i deep w) := by
  induction n with
  | zero => intro s i deep w hn; omega
  | succ n ih =>
    intro s i deep w hn hs hi hd
    have IH := Lib.hid ih
    clear ih
    go_enter Try.func30, Try.ntmps30
    go_wp2_with fail
    go_loopw [1, 9] (fun q v wr => ∃ (j : Nat) (f : Fo) (A : Option Addr) (cf : Nat), q = .int .i64 j ∧ v = .slice A f.len cf ∧ i ≤ j ∧ j ≤ s.size ∧ f.len ≤ j ∧ Hid (∀ outer : List Fo, outer.length = deep → run s i (.nil :: outer) = run s j (f :: outer)) ∧ Hid (Rw wr w.heap.size (.slice A f.len cf) f) ∧ Hid (HB wr w.heap.size 27 #[.int .i64 0, .int .i64 0]) ∧ Hid (Below w.heap.size w wr)) (fun q _ _ => s.size - (intOf q).toNat)
    case atStart => exact ⟨i, .nil, none, 0, rfl, rfl, Nat.le_refl _, hi, by simp [Fo.len], fun outer _ => rfl, (Rw.nil _ _), HB.new _ _ _, new_below _ _⟩
    case round =>
      obtain ⟨j, f, A, cf, rfl, rfl, hij, hjs, hfl, HRUN, HRW, HR1, HG1⟩ := hrel
      have l1 := HR1.out.lt
      obtain ⟨r0, r1, r2, r3⟩ := HR1.out.two
      by_cases hlt : j < s.size
      · have e := bs_of hlt
        have t0 : (0 : Int) ≤ (j : Int) := by omega
        have t1 : decide ((j : Int) < s.size) = true := by simp; omega
        by_cases hb : bs s j = 32 ∨ bs s j = 9 ∨ bs s j = 10 ∨ bs s j = 13
        · have HBL := Lib.hid hb
          rcases hb with hc | hc | hc | hc
          all_goals
            rw [hc] at e
            clear hc
            go_wp2_with fail
            go_round
            case rel => exact ⟨j + 1, f, A, cf, by go_num, rfl, by omega, by omega, by omega, fun outer ho => by rw [HRUN.out outer ho]; exact run_blank hlt HBL.out, HRW.out, HR1.out, HG1.out⟩
            case measure => simp [intOf]; omega
        have HNB := Lib.hid hb
        have n1 : bs s j ≠ 32 := fun z => hb (.inl z)
        have n2 : bs s j ≠ 9 := fun z => hb (.inr (.inl z))
        have n3 : bs s j ≠ 10 := fun z => hb (.inr (.inr (.inl z)))
        have n4 : bs s j ≠ 13 := fun z => hb (.inr (.inr (.inr z)))
        clear hb
        by_cases h59 : bs s j = 59
        · have HC := Lib.hid h59
          rw [h59] at e
          clear h59 n1 n2 n3 n4
          go_wp2_with fail
          go_loop [1] (fun q => ∃ k : Nat, q = .int .i64 k ∧ j ≤ k ∧ k ≤ s.size ∧ Hid (∀ m, j ≤ m → m < k → bs s m ≠ 10)) (fun q => s.size - (intOf q).toNat)
          case atStart => exact ⟨j, rfl, Nat.le_refl _, hjs, fun m h1 h2 => by omega⟩
          case round =>
            obtain ⟨k, rfl, hjk, hks, HM⟩ := hrel
            by_cases hk : k < s.size
            · have ek := bs_of hk
              have t2 : decide ((k : Int) < s.size) = true := by simp; omega
              by_cases h10 : bs s k = 10
              · have HE := Lib.hid (cEnd_here hjk hks HM.out (fun _ => h10))
                have hjk2 : j < k := by
                  rcases Nat.lt_or_ge j k with z | z
                  · exact z
                  · obtain rfl : j = k := by omega
                    have := HC.out
                    omega
                rw [h10] at ek
                clear h10
                go_wp2_with fail
                go_round
                case rel => exact ⟨k, f, A, cf, rfl, rfl, by omega, by omega, by omega, fun outer ho => by rw [HRUN.out outer ho, run_comment hlt HC.out, HE.out], HRW.out, HR1.out, HG1.out⟩
                case measure => simp [intOf]; omega
              · have H10 := Lib.hid h10
                have d1 : (bs s k != 10) = true := by simpa using h10
                clear h10
                go_wp2_with fail
                go_round
                case rel => exact ⟨k + 1, by go_num, by omega, by omega, fun m h1 h2 => by
                  rcases Nat.lt_or_ge m k with z | z
                  · exact HM.out m h1 z
                  · obtain rfl : m = k := by omega
                    exact H10.out⟩
                case measure => simp [intOf]; omega
            · have HE := Lib.hid (cEnd_here hjk hks HM.out (fun z => absurd z hk))
              obtain rfl : k = s.size := by omega
              have t2 : decide ((s.size : Int) < s.size) = false := by simp
              go_wp2_with fail
              go_round
              case rel => exact ⟨s.size, f, A, cf, rfl, rfl, by omega, by omega, by omega, fun outer ho => by rw [HRUN.out outer ho, run_comment hlt HC.out, HE.out], HRW.out, HR1.out, HG1.out⟩
              case measure => simp [intOf]; omega
        by_cases h41 : bs s j = 41
        · have HC := Lib.hid h41
          rw [h41] at e
          clear h41 n1 n2 n3 n4 h59
          by_cases hdz : deep = 0
          · subst hdz
            go_wp2_with fail
            refine bodyPost_ret (v := .tuple #[.slice none 0 0, .int .i64 j, .agg #[.int .i64 1, .int .i64 j]]) (by simp [results, Try.results30, go_sem, r0, r1]) rfl ⟨_, j, 1, j, rfl, bw_far HG1.out (Nat.le_refl _) (far2 _ _ _ _), .inl ⟨by decide, rfl, j, rfl, fun outer ho => ?_⟩⟩
            obtain rfl : outer = [] := List.length_eq_zero_iff.1 ho
            rw [HRUN.out [] rfl]
            exact run_close_top hlt HC.out
          · have d1 : ((deep : Int) == 0) = false := by simp; omega
            have HDZ := Lib.hid hdz
            go_wp2_with fail
            have k1 : Ke wr (wr.setCell ⟨w.heap.size, 0, none⟩ (.int .i64 0)) := (Ke.refl wr).cell HR1.out (by decide)
            have k2 := k1.cell (i := 1) (u := .int .i64 0) (HR1.out.set_ 0 (.int .i64 0)) (by decide)
            refine bodyPost_ret (v := .tuple #[.slice A f.len cf, .int .i64 j, .agg #[.int .i64 0, .int .i64 0]]) (by simp [results, Try.results30, go_sem, r0, r1]) rfl ⟨_, j, 0, 0, rfl, bw_far HG1.out (Nat.le_refl _) (far2 _ _ _ _), .inr ⟨rfl, rfl, f, HRW.out.ke k2, hfl, hij, hjs, fun z => absurd z HDZ.out, fun _ => ⟨hlt, HC.out, HRUN.out⟩⟩⟩
        by_cases h40 : bs s j = 40
        · have HC := Lib.hid h40
          rw [h40] at e
          clear h40 n1 n2 n3 n4 h59 h41
          by_cases hdd : 40 < deep
          · have d1 : (40 : Int) < deep := by omega
            go_wp2_with fail
            refine bodyPost_ret (v := .tuple #[.slice none 0 0, .int .i64 j, .agg #[.int .i64 10, .int .i64 j]]) (by simp [results, Try.results30, go_sem, r0, r1]) rfl ⟨_, j, 10, j, rfl, bw_far HG1.out (Nat.le_refl _) (far2 _ _ _ _), .inl ⟨by decide, rfl, j, rfl, fun outer ho => ?_⟩⟩
            rw [HRUN.out outer ho]
            exact run_open_deep hlt HC.out (by rw [len_cons_sub ho]; exact hdd)
          · have d1 : ¬ (40 : Int) < deep := by omega
            go_wp2_with fail
            rw [show (j : Int) + 1 = ((j + 1 : Nat) : Int) by omega, show (deep : Int) + 1 = ((deep + 1 : Nat) : Int) by omega]
            refine (IH.out s (j + 1) (deep + 1) _ (by omega) hs (by omega) (by omega)).mono ?_
            rintro e1 w1 ⟨v2, j2, c2, a2, rfl, hb1, hq⟩
            have R1 := Lib.hid (HR1.out.below hb1)
            have G1 : Hid (Below w.heap.size w w1) := bw_below (Nat.le_refl _) HG1.out hb1
            have K1 : Hid (Ke wr w1) := Ke.below hb1
            have lw := hb1.size
            have l2 := R1.out.lt
            clear r0 r1 r2 r3 hb1
            obtain ⟨r0, r1, r2, r3⟩ := R1.out.two
            rcases hq with ⟨hc0, rfl, a', rfl, hrun⟩ | ⟨rfl, rfl, f2, hrw, hfl2, hij2, hj2, _, hrun⟩
            · have d2 : (c2 != 0) = true := by simpa using hc0
              have HC0 := Lib.hid hc0
              have HRUN2 := Lib.hid hrun
              clear hrun hc0
              go_wp2_with fail
              have HT := Lib.hid (((hb_set2 (n := .int .i64 c2) (d := .int .i64 a') R1.out).alloc (.cells #[.int .i64 c2, .int .i64 a'] 27)).drew)
              go_region
              all_goals
                go_wp2_with fail
                obtain ⟨y0, y1, _, _⟩ := HT.out.two
                refine bodyPost_ret (v := .tuple #[.slice none 0 0, .int .i64 j2, .agg #[.int .i64 c2, .int .i64 a']]) (by simp [results, Try.results30, go_sem, y0, y1]) rfl ⟨_, j2, c2, a', rfl, ?_, .inl ⟨HC0.out, rfl, a', rfl, fun outer ho => ?_⟩⟩
                · have F := bw_far G1.out (Nat.le_refl _) (far2 w1 w.heap.size (.int .i64 c2) (.int .i64 a'))
                  exact below_dn (Below.alloc F F.size _) 1
                · rw [HRUN.out outer ho, run_open hlt HC.out (by rw [len_cons_sub ho]; exact hdd)]
                  exact HRUN2.out (f :: outer) (by simp [ho])
            · obtain ⟨hj2s, hbs2, hrun2⟩ := hrun (by omega)
              obtain ⟨A2, cf2, hv2, _⟩ := hrw.kid [] (by simp)
              have HRW2 := Lib.hid hrw
              have HBS2 := Lib.hid hbs2
              have HRUN2 := Lib.hid hrun2
              subst hv2
              obtain ⟨xs, hxo, hxr⟩ := HRW.out.ke K1.out
              have HXO := Lib.hid hxo
              have HXR := Lib.hid hxr
              have hkid : Hid (∀ S : List Nat, (∀ g ∈ S, g < w.heap.size) → Kid w1 (act [.slice A f.len cf] ++ S) f2 A2 cf2) := Lib.hid (fun S hS => by
                obtain ⟨A3, c3, e3, hk3⟩ := HRW2.out.kid (act [.slice A f.len cf] ++ S) (fun g hg => by
                  rcases List.mem_append.1 hg with z | z
                  · obtain ⟨cs, hh⟩ := own_mem (st := [f]) (vs := [.slice A f.len cf]) ⟨HRW.out.lv [] (by simp), trivial⟩ g z
                    have := hh.lt
                    simp; omega
                  · have := hS g z
                    simp; omega)
                injection e3 with e3 _ e4
                subst e3 e4
                exact hk3)
              clear hrw hbs2 hrun2 hrun hxo hxr
              go_wp2_with (at_builtin; refine wpl_app2 23 42 Try.underlying23 (.agg #[.string ⟨#[]⟩, .bool false, .slice none 0 0]) 3 48 info42 rfl (by decide) rfl _ _ rfl w.heap.size (.slice A f.len cf) f.len xs rfl (own_alloc (own_alloc HXO.out _) _) (w1.heap.size + 1) #[.string ⟨#[]⟩, .bool true, .slice A2 f2.len cf2] rfl (HB.new1 _ _ _ _) rfl (by simp [Value.oneCell']) (by omega) (by unfold maxLen; omega) (by simp; omega) ?_)
              intro g4 cap4 w4 hown4 hkp4 hb4 hfr4
              have K4 : Hid (∀ g t cs, some g ≠ (Value.slice A f.len cf).ownBlock → HB w1 g t cs → HB w4 g t cs) := fun g t cs h1 h2 => hkp4 g t cs h1 ((h2.alloc _).alloc _)
              have R4 := Lib.hid (K4.out w.heap.size 27 _ (own_ne HXO.out R1.out (by decide)) R1.out)
              have G4 : Hid (Below w.heap.size w w4) := Lib.hid (hb4 w (Below.alloc (Below.alloc G1.out (by omega) _) (by simp; omega) _))
              have hfr5 : Hid ((Value.slice A f.len cf).ownBlock = some g4 ∨ w1.heap.size ≤ g4) := Lib.hid (hfr4.out.imp_right (fun z => by first | omega | (rw [z]; simp; omega) | (rw [z]; simp) | (simp at z; omega)))
              have W4 := Lib.hid (Rw.app (x := ⟨#[]⟩) (l := true) (by unfold maxLen; exact Nat.zero_le _) HXO.out HXR.out hkid.out K4.out hown4.out hfr5.out)
              clear hkp4 hb4 hfr4 r0 r1 r2 r3
              obtain ⟨r0, r1, r2, r3⟩ := R4.out.two
              go_wp2_with fail
              go_round
              case rel => exact ⟨j2 + 1, f.snoc ⟨#[]⟩ true f2, some ⟨g4, 0, none⟩, cap4, by go_num, by rw [Fo.len_snoc], by omega, by omega, by rw [Fo.len_snoc]; omega, fun outer ho => by
                rw [HRUN.out outer ho, run_open hlt HC.out (by rw [len_cons_sub ho]; exact hdd), HRUN2.out (f :: outer) (by simp [ho]), run_close hj2s HBS2.out]
                rfl, by rw [Fo.len_snoc]; exact W4.out, R4.out, G4.out⟩
              case measure => simp [intOf]; omega
        by_cases hw : inW (bs s j) = true
        · have HC := Lib.hid hw
          obtain ⟨_, _, _, _⟩ := inW_not hw
          have d1 : (bs s j == 32) = false := by simpa using n1
          have d2 : (bs s j == 9) = false := by simpa using n2
          have d3 : (bs s j == 10) = false := by simpa using n3
          have d4 : (bs s j == 13) = false := by simpa using n4
          have d5 : (bs s j == 59) = false := by simpa using h59
          have d6 : (bs s j == 41) = false := by simpa using h41
          have d7 : (bs s j == 40) = false := by simpa using h40
          clear hw n1 n2 n3 n4 h59 h41 h40
          go_wp2_with fail
          refine (letter_any _ _).mono ?_
          rintro e' w1 ⟨rfl, rfl⟩
          rw [HC.out]
          go_wp2_with fail
          go_loop [1] (fun q => ∃ k : Nat, q = .int .i64 k ∧ j ≤ k ∧ k ≤ s.size ∧ Hid (∀ m, j ≤ m → m < k → inW (bs s m) = true)) (fun q => s.size - (intOf q).toNat)
          case atStart => exact ⟨j, rfl, Nat.le_refl _, hjs, fun m h1 h2 => by omega⟩
          case round =>
            obtain ⟨k, rfl, hjk, hks, HM⟩ := hrel
            by_cases hmore : k < s.size ∧ inW (bs s k) = true
            · obtain ⟨hk, hin⟩ := hmore
              have ek := bs_of hk
              have t2 : decide ((k : Int) < s.size) = true := by simp; omega
              have HIN := Lib.hid hin
              clear hin
              go_wp2_with fail
              refine (letter_any _ _).mono ?_
              rintro e' w1 ⟨rfl, rfl⟩
              rw [HIN.out]
              go_wp2_with fail
              go_round
              case rel => exact ⟨k + 1, by go_num, by omega, by omega, fun m h1 h2 => by
                rcases Nat.lt_or_ge m k with z | z
                · exact HM.out m h1 z
                · obtain rfl : m = k := by omega
                  exact HIN.out⟩
              case measure => simp [intOf]; omega
            · have HE := Lib.hid (wEnd_here hjk hks HM.out (fun z => by
                by_cases q : inW (bs s k) = true
                · exact absurd ⟨z, q⟩ hmore
                · simpa using q))
              have hjk2 : j < k := by
                rcases Nat.lt_or_ge j k with z | z
                · exact z
                · obtain rfl : j = k := by omega
                  exact absurd ⟨hlt, HC.out⟩ hmore
              have HMORE := Lib.hid hmore
              clear hmore
              by_cases hk : k < s.size
              · have ek := bs_of hk
                have t2 : decide ((k : Int) < s.size) = true := by simp; omega
                have HIN : Hid (inW (bs s k) = false) := Lib.hid (by
                  have := HMORE.out
                  by_cases q : inW (bs s k) = true
                  · exact absurd ⟨hk, q⟩ this
                  · simpa using q)
                go_wp2_with fail
                refine (letter_any _ _).mono ?_
                rintro e' w1 ⟨rfl, rfl⟩
                rw [HIN.out]
                by_cases hl : 24 < k - j
                · have HL := Lib.hid hl
                  have u1 : (24 : Int) < (k : Int) - j := by omega
                  go_wp2_with fail
                  refine bodyPost_ret (v := .tuple #[.slice none 0 0, .int .i64 k, .agg #[.int .i64 12, .int .i64 j]]) (by simp [results, Try.results30, go_sem, r0, r1]) rfl ⟨_, k, 12, j, rfl, bw_far HG1.out (Nat.le_refl _) (far2 _ _ _ _), .inl ⟨by decide, rfl, j, rfl, fun outer ho => ?_⟩⟩
                  rw [HRUN.out outer ho]
                  exact run_word_long hlt HC.out (by rw [HE.out]; exact HL.out)
                · have HL := Lib.hid hl
                  have u1 : ¬ (24 : Int) < (k : Int) - j := by omega
                  by_cases hdd : 40 < deep
                  · have u2 : (40 : Int) < deep := by omega
                    go_wp2_with fail
                    refine bodyPost_ret (v := .tuple #[.slice none 0 0, .int .i64 k, .agg #[.int .i64 10, .int .i64 j]]) (by simp [results, Try.results30, go_sem, r0, r1]) rfl ⟨_, k, 10, j, rfl, bw_far HG1.out (Nat.le_refl _) (far2 _ _ _ _), .inl ⟨by decide, rfl, j, rfl, fun outer ho => ?_⟩⟩
                    rw [HRUN.out outer ho]
                    exact run_word_deep hlt HC.out (by rw [HE.out]; exact HL.out) (by rw [len_cons_sub ho]; exact hdd)
                  · have u2 : ¬ (40 : Int) < deep := by omega
                    have u3 : (j : Int) ≤ k := by omega
                    have u4 : (k : Int) ≤ s.size := by omega
                    obtain ⟨xs, hxo, hxr⟩ := HRW.out
                    have HXO := Lib.hid hxo
                    have HXR := Lib.hid hxr
                    clear hxo hxr
                    go_wp2_with (at_builtin; refine wpl_app2 23 42 Try.underlying23 (.agg #[.string ⟨#[]⟩, .bool false, .slice none 0 0]) 3 48 info42 rfl (by decide) rfl _ _ rfl w.heap.size (.slice A f.len cf) f.len xs rfl (own_alloc HXO.out _) wr.heap.size #[.string (s.extract j k), .bool false, .slice none 0 0] rfl (HB.new _ _ _) rfl (by simp [Value.oneCell']) (by omega) (by unfold maxLen; omega) (by simp; omega) ?_)
                    intro g4 cap4 w4 hown4 hkp4 hb4 hfr4
                    have K4 : Hid (∀ g t cs, some g ≠ (Value.slice A f.len cf).ownBlock → HB wr g t cs → HB w4 g t cs) := fun g t cs h1 h2 => hkp4 g t cs h1 (h2.alloc _)
                    have R4 := Lib.hid (K4.out w.heap.size 27 _ (own_ne HXO.out HR1.out (by decide)) HR1.out)
                    have G4 : Hid (Below w.heap.size w w4) := Lib.hid (hb4 w (Below.alloc HG1.out (by omega) _))
                    have hfr5 : Hid ((Value.slice A f.len cf).ownBlock = some g4 ∨ wr.heap.size ≤ g4) := Lib.hid (hfr4.out.imp_right (fun z => by first | omega | (rw [z]; simp; omega) | (rw [z]; simp) | (simp at z; omega)))
                    have W4 := Lib.hid (Rw.app (x := s.extract j k) (l := false) (k := .nil) (A := none) (c := 0) (by rw [ByteArray.size_extract]; unfold maxLen; omega) HXO.out HXR.out (fun S _ => ⟨Nat.le_refl _, by unfold maxLen; omega, fun z => absurd z (by simp [Fo.len])⟩) K4.out hown4.out hfr5.out)
                    clear hkp4 hb4 hfr4 r0 r1 r2 r3
                    obtain ⟨r0, r1, r2, r3⟩ := R4.out.two
                    go_wp2_with fail
                    go_round
                    case rel => exact ⟨k, f.snoc (s.extract j k) false .nil, some ⟨g4, 0, none⟩, cap4, rfl, by rw [Fo.len_snoc], by omega, by omega, by rw [Fo.len_snoc]; omega, fun outer ho => by
                      rw [HRUN.out outer ho, run_word hlt HC.out (by rw [HE.out]; exact HL.out) (by rw [len_cons_sub ho]; exact hdd), HE.out]
                      rfl, by rw [Fo.len_snoc]; exact W4.out, R4.out, G4.out⟩
                    case measure => simp [intOf]; omega
              · obtain rfl : k = s.size := by omega
                have t2 : decide ((s.size : Int) < s.size) = false := by simp
                by_cases hl : 24 < s.size - j
                · have HL := Lib.hid hl
                  have u1 : (24 : Int) < (s.size : Int) - j := by omega
                  go_wp2_with fail
                  refine bodyPost_ret (v := .tuple #[.slice none 0 0, .int .i64 s.size, .agg #[.int .i64 12, .int .i64 j]]) (by simp [results, Try.results30, go_sem, r0, r1]) rfl ⟨_, s.size, 12, j, rfl, bw_far HG1.out (Nat.le_refl _) (far2 _ _ _ _), .inl ⟨by decide, rfl, j, rfl, fun outer ho => ?_⟩⟩
                  rw [HRUN.out outer ho]
                  exact run_word_long hlt HC.out (by rw [HE.out]; exact HL.out)
                · have HL := Lib.hid hl
                  have u1 : ¬ (24 : Int) < (s.size : Int) - j := by omega
                  by_cases hdd : 40 < deep
                  · have u2 : (40 : Int) < deep := by omega
                    go_wp2_with fail
                    refine bodyPost_ret (v := .tuple #[.slice none 0 0, .int .i64 s.size, .agg #[.int .i64 10, .int .i64 j]]) (by simp [results, Try.results30, go_sem, r0, r1]) rfl ⟨_, s.size, 10, j, rfl, bw_far HG1.out (Nat.le_refl _) (far2 _ _ _ _), .inl ⟨by decide, rfl, j, rfl, fun outer ho => ?_⟩⟩
                    rw [HRUN.out outer ho]
                    exact run_word_deep hlt HC.out (by rw [HE.out]; exact HL.out) (by rw [len_cons_sub ho]; exact hdd)
                  · have u2 : ¬ (40 : Int) < deep := by omega
                    have u3 : (j : Int) ≤ s.size := by omega
                    have u4 : (s.size : Int) ≤ s.size := by omega
                    obtain ⟨xs, hxo, hxr⟩ := HRW.out
                    have HXO := Lib.hid hxo
                    have HXR := Lib.hid hxr
                    clear hxo hxr
                    go_wp2_with (at_builtin; refine wpl_app2 23 42 Try.underlying23 (.agg #[.string ⟨#[]⟩, .bool false, .slice none 0 0]) 3 48 info42 rfl (by decide) rfl _ _ rfl w.heap.size (.slice A f.len cf) f.len xs rfl (own_alloc HXO.out _) wr.heap.size #[.string (s.extract j s.size), .bool false, .slice none 0 0] rfl (HB.new _ _ _) rfl (by simp [Value.oneCell']) (by omega) (by unfold maxLen; omega) (by simp; omega) ?_)
                    intro g4 cap4 w4 hown4 hkp4 hb4 hfr4
                    have K4 : Hid (∀ g t cs, some g ≠ (Value.slice A f.len cf).ownBlock → HB wr g t cs → HB w4 g t cs) := fun g t cs h1 h2 => hkp4 g t cs h1 (h2.alloc _)
                    have R4 := Lib.hid (K4.out w.heap.size 27 _ (own_ne HXO.out HR1.out (by decide)) HR1.out)
                    have G4 : Hid (Below w.heap.size w w4) := Lib.hid (hb4 w (Below.alloc HG1.out (by omega) _))
                    have hfr5 : Hid ((Value.slice A f.len cf).ownBlock = some g4 ∨ wr.heap.size ≤ g4) := Lib.hid (hfr4.out.imp_right (fun z => by first | omega | (rw [z]; simp; omega) | (rw [z]; simp) | (simp at z; omega)))
                    have W4 := Lib.hid (Rw.app (x := s.extract j s.size) (l := false) (k := .nil) (A := none) (c := 0) (by rw [ByteArray.size_extract]; unfold maxLen; omega) HXO.out HXR.out (fun S _ => ⟨Nat.le_refl _, by unfold maxLen; omega, fun z => absurd z (by simp [Fo.len])⟩) K4.out hown4.out hfr5.out)
                    clear hkp4 hb4 hfr4 r0 r1 r2 r3
                    obtain ⟨r0, r1, r2, r3⟩ := R4.out.two
                    go_wp2_with fail
                    go_round
                    case rel => exact ⟨s.size, f.snoc (s.extract j s.size) false .nil, some ⟨g4, 0, none⟩, cap4, rfl, by rw [Fo.len_snoc], by omega, by omega, by rw [Fo.len_snoc]; omega, fun outer ho => by
                      rw [HRUN.out outer ho, run_word hlt HC.out (by rw [HE.out]; exact HL.out) (by rw [len_cons_sub ho]; exact hdd), HE.out]
                      rfl, by rw [Fo.len_snoc]; exact W4.out, R4.out, G4.out⟩
                    case measure => simp [intOf]; omega
        · have hw2 : inW (bs s j) = false := by simpa using hw
          have HW := Lib.hid hw2
          have H1 := Lib.hid h40
          have H2 := Lib.hid h41
          have H3 := Lib.hid h59
          have d1 : (bs s j == 32) = false := by simpa using n1
          have d2 : (bs s j == 9) = false := by simpa using n2
          have d3 : (bs s j == 10) = false := by simpa using n3
          have d4 : (bs s j == 13) = false := by simpa using n4
          have d5 : (bs s j == 59) = false := by simpa using h59
          have d6 : (bs s j == 41) = false := by simpa using h41
          have d7 : (bs s j == 40) = false := by simpa using h40
          clear hw hw2 n1 n2 n3 n4 h59 h41 h40
          go_wp2_with fail
          refine (letter_any _ _).mono ?_
          rintro e' w1 ⟨rfl, rfl⟩
          rw [HW.out]
          go_wp2_with fail
          refine bodyPost_ret (v := .tuple #[.slice none 0 0, .int .i64 j, .agg #[.int .i64 1, .int .i64 j]]) (by simp [results, Try.results30, go_sem, r0, r1]) rfl ⟨_, j, 1, j, rfl, bw_far HG1.out (Nat.le_refl _) (far2 _ _ _ _), .inl ⟨by decide, rfl, j, rfl, fun outer ho => ?_⟩⟩
          rw [HRUN.out outer ho]
          exact run_other hlt HW.out H1.out H2.out H3.out HNB.out
      · obtain rfl : j = s.size := by omega
        have t1 : decide ((s.size : Int) < s.size) = false := by simp
        by_cases hdz : deep = 0
        · subst hdz
          go_wp2_with fail
          have k1 : Ke wr (wr.setCell ⟨w.heap.size, 0, none⟩ (.int .i64 0)) := (Ke.refl wr).cell HR1.out (by decide)
          have k2 := k1.cell (i := 1) (u := .int .i64 0) (HR1.out.set_ 0 (.int .i64 0)) (by decide)
          refine bodyPost_ret (v := .tuple #[.slice A f.len cf, .int .i64 s.size, .agg #[.int .i64 0, .int .i64 0]]) (by simp [results, Try.results30, go_sem, r0, r1]) rfl ⟨_, s.size, 0, 0, rfl, bw_far HG1.out (Nat.le_refl _) (far2 _ _ _ _), .inr ⟨rfl, rfl, f, HRW.out.ke k2, hfl, hij, hjs, fun _ => ?_, fun z => absurd z (Nat.lt_irrefl _)⟩⟩
          rw [HRUN.out [] rfl]
          exact run_end [f] (Nat.le_refl _)
        · have d1 : (0 : Int) < deep := by omega
          have d2 : 0 < deep := by omega
          go_wp2_with fail
          refine bodyPost_ret (v := .tuple #[.slice none 0 0, .int .i64 s.size, .agg #[.int .i64 1, .int .i64 s.size]]) (by simp [results, Try.results30, go_sem, r0, r1]) rfl ⟨_, s.size, 1, s.size, rfl, bw_far HG1.out (Nat.le_refl _) (far2 _ _ _ _), .inl ⟨by decide, rfl, s.size, rfl, fun outer ho => ?_⟩⟩
          rw [HRUN.out outer ho, run_end _ (Nat.le_refl _)]
          match outer, ho with
          | g :: outer, _ => rfl
          | [], ho => exact absurd ho.symm hdz
end Go.Proofs.Ytgkhkdohlbchoaa
