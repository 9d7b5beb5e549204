/-
  SexpSpread's walk.
-/
import Derived.Test.YtgkhkdohlbchoaaSPC
import Derived.Test.YtgkhkdohlbchoaaSPD

namespace Go.Proofs.Ytgkhkdohlbchoaa
open Go.RowKit
theorem picked3 (a : Int) (w : World) : Calls Try.prog 14 #[.int .i64 a, .int .i64 3] w fun e w' => e = .returned (.int .i64 (a % 3)) ∧ w' = w := picked_any a 3 (by omega) (by omega) w
theorem picked2 (a : Int) (w : World) : Calls Try.prog 14 #[.int .i64 a, .int .i64 2] w fun e w' => e = .returned (.int .i64 (a % 2)) ∧ w' = w := picked_any a 2 (by omega) (by omega) w
theorem tdiv_bd3 {g : Int} (h1 : -9223372036854775808 ≤ g) (h2 : g ≤ 9223372036854775807) : -4000000000000000000 ≤ g.tdiv 3 ∧ g.tdiv 3 ≤ 4000000000000000000 := by
  have e := Int.tmod_add_mul_tdiv g 3
  have b := tmod_bd g 3 (by omega)
  omega
theorem tdiv_bd9 {g : Int} (h1 : -9223372036854775808 ≤ g) (h2 : g ≤ 9223372036854775807) : -4000000000000000000 ≤ g.tdiv 9 ∧ g.tdiv 9 ≤ 4000000000000000000 := by
  have e := Int.tmod_add_mul_tdiv g 9
  have b := tmod_bd g 9 (by omega)
  omega
theorem byte_at {s : ByteArray} {i : Nat} (h : i < s.size) : ∃ c : UInt8, s.data.toList[i]? = some c ∧ bs s i = (c.toNat : Int) ∧ (s.extract i (i + 1)).data.toList = [c] := by
  obtain ⟨c, e1, e2⟩ := bs_get h
  refine ⟨c, e1, e2, ?_⟩
  rw [Lib.extract_data, show i + 1 - i = 1 by omega]
  apply List.ext_getElem?
  intro k
  cases k with
  | zero => rw [List.getElem?_take_of_lt (by omega), List.getElem?_drop, Nat.add_zero, e1]; rfl
  | succ k => rw [List.getElem?_take_eq_none (by omega)]; rfl
theorem byte_is {c : UInt8} {n : Nat} (hn : n < 256) (h : (c.toNat : Int) = n) : c = n.toUInt8 := by
  apply UInt8.toNat_inj.1
  have h1 : c.toNat = n := by omega
  rw [h1]
  simp [Nat.toUInt8, UInt8.toNat_ofNat', Nat.mod_eq_of_lt hn]
theorem exs_step {g : Int} {t : List UInt8} {i : Nat} {c : UInt8} (h : t[i]? = some c) : exs g 0 (t.take (i + 1)) = exs g 0 (t.take i) ++ ex g i c := by
  have hi : i < t.length := by
    rcases Nat.lt_or_ge i t.length with z | z
    · exact z
    · rw [List.getElem?_eq_none z] at h; cases h
  rw [List.take_add_one, h, exs_app]
  show exs g 0 (t.take i) ++ (ex g _ c ++ []) = _
  rw [List.append_nil, List.length_take, Nat.min_eq_left (by omega), Nat.zero_add]
theorem size_add {o x : ByteArray} {n : Nat} (h : o.size ≤ n) (hx : x.size ≤ 5) : (o ++ x).size ≤ n + 5 := by rw [ByteArray.size_append]; omega
def GoodLoop (g : Int) (s o : ByteArray) (i : Nat) : Prop := o.data.toList = headT (g % 3) ++ exs g 0 (s.data.toList.take i)
theorem GoodLoop.step {g : Int} {s o x : ByteArray} {i : Nat} {c : UInt8} (h : GoodLoop g s o i) (hc : s.data.toList[i]? = some c) (hx : x.data.toList = ex g i c) : GoodLoop g s (o ++ x) (i + 1) := by
  unfold GoodLoop at h ⊢
  rw [Joins.data_append, h, hx, exs_step hc, List.append_assoc]
theorem ba_eq2 {s : ByteArray} {l : List UInt8} (h : s.data.toList = l) : s = ⟨l.toArray⟩ := by
  cases s with | mk d => simp at h; subst h; simp
theorem GoodLoop.done {g : Int} {s o : ByteArray} {t : List UInt8} (hs : s.data.toList = t) (h : GoodLoop g s o s.size) : o = ⟨(wideT g t).toArray⟩ := by
  unfold GoodLoop at h
  rw [show s.size = s.data.toList.length from rfl, List.take_length, hs] at h
  exact ba_eq2 h
set_option maxRecDepth 100000 in
set_option maxHeartbeats 16000000 in
theorem spread_good (A : Option Addr) (c : Nat) (zs : List Int) (g : Int) (hg1 : -9223372036854775808 ≤ g) (hg2 : g ≤ 9223372036854775807) (w : World) (HTH : Calls Try.prog 9 #[.slice A zs.length c, .int .i64 5] w (ThingsQ A zs 5 w)) :
    Calls Try.prog 4 #[.slice A zs.length c, .int .i64 g] w fun e w' => e = .returned (.bool true) ∧ Below w.heap.size w w' := by
  have HTH2 := Lib.hid HTH
  clear HTH
  obtain ⟨b1, b2⟩ := tdiv_bd3 hg1 hg2
  obtain ⟨b3, b4⟩ := tdiv_bd9 hg1 hg2
  generalize hq3 : g.tdiv 3 = q3 at *
  generalize hq9 : g.tdiv 9 = q9 at *
  have HQ3 := Lib.hid hq3
  have HQ9 := Lib.hid hq9
  generalize zs.length = n at *
  go_enter Try.func4, Try.ntmps4
  go_wp2_with fail
  refine HTH2.out.mono ?_
  rintro e w1 ⟨v, f, A', c', zs', rfl, hrw, hbad, hlen, _, _, _, hb1⟩
  obtain ⟨Af, cf, rfl, hf1, hf2, hat⟩ := (hrw.lv [] (by simp)).at
  have G1 := Lib.hid hb1
  have HAT := Lib.hid hat
  have hb0 := hbad 0 (by omega)
  have HT := Lib.hid (fun (W : World) (hW : f.At W Af) => text_any f Af cf W (Nat.le_trans hf1 hf2) hW)
  unfold GivesS at HT
  have HP := Lib.hid (fun (h : f.chkC = 0) (hl : (wideT g f.lines).length ≤ 4000) W => parse_wide g h hl ▸ parse_any ⟨(wideT g f.lines).toArray⟩ W)
  have HS := Lib.hid (fun (W : World) (A3 : Option Addr) (c3 : Nat) (h1 : f.At W A3) (h2 : f.At W Af) => same_any (f.size + 1) f A3 Af c3 cf W (by omega) (Nat.le_trans hf1 hf2) h1 h2)
  clear hrw hbad hlen hf1 hf2 hat hb1
  rcases tx_cases hb0 with ⟨i, e1, e2, e3⟩ | ⟨e1, e2, e3⟩ | ⟨e1, e2, e3, e4, e5⟩
  · rw [e1, e2, e3] at HT
    clear HP HS hb0 e1 e2 e3
    generalize f.len = m at *
    go_wp2_with fail
    refine (HT.out _ HAT.out).mono ?_
    rintro e w2 ⟨rfl, hb2⟩
    have G2 : Hid (Below w.heap.size w w2) := bw_below (Nat.le_refl _) G1.out hb2
    clear hb2
    go_wp2_with fail
    refine (sure_any _).mono ?_
    rintro e w3 ⟨rfl, hb3⟩
    have G3 : Hid (Below w.heap.size w w3) := bw_below (Nat.le_refl _) (Below.alloc G2.out G2.out.size _) hb3
    clear hb3
    go_wp2_with fail
    go_ret
    exact ⟨rfl, G3.out⟩
  · rw [e1, e2, e3] at HT
    clear HP HS hb0 e1 e2 e3
    generalize f.len = m at *
    go_wp2_with fail
    refine (HT.out _ HAT.out).mono ?_
    rintro e w2 ⟨rfl, hb2⟩
    have G2 : Hid (Below w.heap.size w w2) := bw_below (Nat.le_refl _) G1.out hb2
    clear hb2
    go_wp2_with fail
    refine (sure_any _).mono ?_
    rintro e w3 ⟨rfl, hb3⟩
    have G3 : Hid (Below w.heap.size w w3) := bw_below (Nat.le_refl _) (Below.alloc G2.out G2.out.size _) hb3
    clear hb3
    go_wp2_with fail
    go_ret
    exact ⟨rfl, G3.out⟩
  · rw [e1, e2, e3] at HT
    have HP2 := Lib.hid (HP.out e4)
    have hts : (⟨f.lines.toArray⟩ : ByteArray).data.toList = f.lines := by simp
    have htz : (⟨f.lines.toArray⟩ : ByteArray).size ≤ 4000 := by
      have : (⟨f.lines.toArray⟩ : ByteArray).size = f.lines.length := by simp [ByteArray.size]
      omega
    generalize hT : (⟨f.lines.toArray⟩ : ByteArray) = T at *
    have HTS := Lib.hid hts
    clear HP hb0 e1 e2 e3 e4 e5 hT hts
    go_wp2_with fail
    refine (HT.out _ HAT.out).mono ?_
    rintro e w2 ⟨rfl, hb2⟩
    have G2 : Hid (Below w.heap.size w w2) := bw_below (Nat.le_refl _) G1.out hb2
    have A2 := Lib.hid ((HAT.out.below hb2).below (new_below w2 (.cells #[.int .i64 0, .int .i64 0] 27)))
    have N2 := Lib.hid (HB.new w2 27 #[.int .i64 0, .int .i64 0])
    have G2' : Hid (Below w.heap.size w (w2.alloc (.cells #[.int .i64 0, .int .i64 0] 27))) := Lib.hid (Below.alloc G2.out G2.out.size _)
    have hl2 := N2.out.lt
    clear hb2
    go_wp2_with fail
    refine (picked3 _ _).mono ?_
    rintro e w3 ⟨rfl, rfl⟩
    have hr0 : 0 ≤ g % (3 : Int) := Int.emod_nonneg _ (by decide)
    have hr1 : g % (3 : Int) < 3 := Int.emod_lt_of_pos _ (by decide)
    have HG3 : Hid (∀ r, g % 3 = r → GoodLoop g T ⟨(headT r).toArray⟩ 0) := Lib.hid (fun r h => by subst h; unfold GoodLoop; simp [exs])
    have N9 := HB.new1 w2 (.cells #[.int .i64 0, .int .i64 0] 27) 9 #[.string ⟨#[]⟩, .string ⟨#[32]⟩, .string ⟨#[59, 32, 40, 10]⟩]
    have A3 := Lib.hid (A2.out.below (new_below _ (.cells #[.string ⟨#[]⟩, .string ⟨#[32]⟩, .string ⟨#[59, 32, 40, 10]⟩] 9)))
    have N3 := Lib.hid (N2.out.alloc (.cells #[.string ⟨#[]⟩, .string ⟨#[32]⟩, .string ⟨#[59, 32, 40, 10]⟩] 9))
    have G3 := Lib.hid (Below.alloc G2'.out G2'.out.size (.cells #[.string ⟨#[]⟩, .string ⟨#[32]⟩, .string ⟨#[59, 32, 40, 10]⟩] 9))
    generalize hw0 : (w2.alloc (.cells #[.int .i64 0, .int .i64 0] 27)).alloc (.cells #[.string ⟨#[]⟩, .string ⟨#[32]⟩, .string ⟨#[59, 32, 40, 10]⟩] 9) = w0 at *
    obtain ⟨k, hk⟩ : ∃ k : Nat, g % (3 : Int) = k := ⟨(g % 3).toNat, by omega⟩
    have HG4 := Lib.hid (HG3.out _ hk)
    have hk3 : k < 3 := by omega
    have c9 : w0.cell? ⟨w2.heap.size + 1, k, none⟩ = some (.string ⟨(headT k).toArray⟩) := by
      rw [N9.cell k]
      match k, hk3 with
      | 0, _ => rfl
      | 1, _ => rfl
      | 2, _ => rfl
    have hO : (⟨(headT k).toArray⟩ : ByteArray).size ≤ 4 := by
      match k, hk3 with
      | 0, _ => decide
      | 1, _ => decide
      | 2, _ => decide
    generalize (⟨(headT k).toArray⟩ : ByteArray) = O at *
    rw [hk]
    have u1 : (0 : Int) ≤ (k : Int) := by omega
    have u2 : (k : Int) < 3 := by omega
    have hl0 := N3.out.lt
    generalize hb8 : w2.heap.size = b8 at *
    clear hw0 N9 hr0 hr1 HG3 hk G2' N2 A2 G2 hb8
    go_wp2_with fail
    go_loopw [9, 10] (fun v q wr => ∃ (o : ByteArray) (i : Nat), v = .string o ∧ q = .int .i64 i ∧ i ≤ T.size ∧ o.size ≤ 10 + 5 * i ∧ Hid (GoodLoop g T o i) ∧ Hid (Below w0.heap.size w0 wr)) (fun _ q _ => T.size - (intOf q).toNat)
    case atStart => exact ⟨O, 0, rfl, rfl, by omega, by omega, HG4.out, Below.refl _ _⟩
    case round =>
      obtain ⟨o, i, rfl, rfl, hi, ho, HGL, HBW⟩ := hrel
      by_cases hlt : i < T.size
      · obtain ⟨c, hc1, hc2, hc3⟩ := byte_at hlt
        have e := bs_of hlt
        have HC1 := Lib.hid hc1
        have HC3 := Lib.hid hc3
        have t0 : (0 : Int) ≤ (i : Int) := by omega
        have t1 : decide ((i : Int) < T.size) = true := by simp; omega
        have hxs : (T.extract i (i + 1)).size = 1 := by rw [show (T.extract i (i + 1)).size = (T.extract i (i + 1)).data.toList.length from rfl, hc3]; rfl
        by_cases hb : bs T i = 32 ∨ bs T i = 10
        · have hcc : c = 32 ∨ c = 10 := by
            rcases hb with z | z
            · exact .inl (byte_is (n := 32) (by omega) (by rw [← hc2, z]; rfl))
            · exact .inr (byte_is (n := 10) (by omega) (by rw [← hc2, z]; rfl))
          have HEX := Lib.hid (ex_blank g i hcc)
          rw [HQ3.out] at HEX
          have r0 : 0 ≤ (q3 + i) % (3 : Int) := Int.emod_nonneg _ (by decide)
          have r1 : (q3 + i) % (3 : Int) < 3 := Int.emod_lt_of_pos _ (by decide)
          have HPK : Hid (∀ W, Calls Try.prog 14 #[.int .i64 (q3 + i), .int .i64 3] W fun e w' => e = .returned (.int .i64 ((q3 + i) % 3)) ∧ w' = W) := Lib.hid (fun W => picked3 (q3 + i) W)
          generalize (q3 + i) % (3 : Int) = r at *
          have hrr : r = 0 ∨ r = 1 ∨ r = 2 := by omega
          clear hc1 hc3 hcc r0 r1
          rcases hb with hc | hc
          all_goals
            rw [hc] at e
            clear hc
            rcases hrr with rfl | rfl | rfl
          · go_wp2_with fail
            refine (HPK.out _).mono ?_
            rintro e' w5 ⟨rfl, rfl⟩
            go_wp2_with fail
            go_round
            case rel => exact ⟨o ++ ⟨#[32, 32]⟩, i + 1, rfl, by go_num, by omega, by have := size_add ho (show (⟨#[32, 32]⟩ : ByteArray).size ≤ 5 by decide); omega, HGL.out.step HC1.out (by rw [HEX.out]; rfl), Below.alloc HBW.out HBW.out.size _⟩
            case measure => simp [intOf]; omega
          · go_wp2_with fail
            refine (HPK.out _).mono ?_
            rintro e' w5 ⟨rfl, rfl⟩
            go_wp2_with fail
            go_round
            case rel => exact ⟨o ++ ⟨#[9, 13, 32]⟩, i + 1, rfl, by go_num, by omega, by have := size_add ho (show (⟨#[9, 13, 32]⟩ : ByteArray).size ≤ 5 by decide); omega, HGL.out.step HC1.out (by rw [HEX.out]; rfl), Below.alloc HBW.out HBW.out.size _⟩
            case measure => simp [intOf]; omega
          · go_wp2_with fail
            refine (HPK.out _).mono ?_
            rintro e' w5 ⟨rfl, rfl⟩
            go_wp2_with fail
            go_round
            case rel => exact ⟨o ++ ⟨#[10, 59, 41, 120, 10]⟩, i + 1, rfl, by go_num, by omega, by have := size_add ho (show (⟨#[10, 59, 41, 120, 10]⟩ : ByteArray).size ≤ 5 by decide); omega, HGL.out.step HC1.out (by rw [HEX.out]; rfl), Below.alloc HBW.out HBW.out.size _⟩
            case measure => simp [intOf]; omega
          · go_wp2_with fail
            refine (HPK.out _).mono ?_
            rintro e' w5 ⟨rfl, rfl⟩
            go_wp2_with fail
            go_round
            case rel => exact ⟨o ++ ⟨#[32, 32]⟩, i + 1, rfl, by go_num, by omega, by have := size_add ho (show (⟨#[32, 32]⟩ : ByteArray).size ≤ 5 by decide); omega, HGL.out.step HC1.out (by rw [HEX.out]; rfl), Below.alloc HBW.out HBW.out.size _⟩
            case measure => simp [intOf]; omega
          · go_wp2_with fail
            refine (HPK.out _).mono ?_
            rintro e' w5 ⟨rfl, rfl⟩
            go_wp2_with fail
            go_round
            case rel => exact ⟨o ++ ⟨#[9, 13, 32]⟩, i + 1, rfl, by go_num, by omega, by have := size_add ho (show (⟨#[9, 13, 32]⟩ : ByteArray).size ≤ 5 by decide); omega, HGL.out.step HC1.out (by rw [HEX.out]; rfl), Below.alloc HBW.out HBW.out.size _⟩
            case measure => simp [intOf]; omega
          · go_wp2_with fail
            refine (HPK.out _).mono ?_
            rintro e' w5 ⟨rfl, rfl⟩
            go_wp2_with fail
            go_round
            case rel => exact ⟨o ++ ⟨#[10, 59, 41, 120, 10]⟩, i + 1, rfl, by go_num, by omega, by have := size_add ho (show (⟨#[10, 59, 41, 120, 10]⟩ : ByteArray).size ≤ 5 by decide); omega, HGL.out.step HC1.out (by rw [HEX.out]; rfl), Below.alloc HBW.out HBW.out.size _⟩
            case measure => simp [intOf]; omega
        · by_cases hk : bs T i = 40 ∨ bs T i = 41
          · have hcc : c = 40 ∨ c = 41 := by
              rcases hk with z | z
              · exact .inl (byte_is (n := 40) (by omega) (by rw [← hc2, z]; rfl))
              · exact .inr (byte_is (n := 41) (by omega) (by rw [← hc2, z]; rfl))
            have HEX := Lib.hid (ex_brack g i hcc)
            rw [HQ9.out] at HEX
            have r0 : 0 ≤ (q9 + i) % (2 : Int) := Int.emod_nonneg _ (by decide)
            have r1 : (q9 + i) % (2 : Int) < 2 := Int.emod_lt_of_pos _ (by decide)
            have HPK : Hid (∀ W, Calls Try.prog 14 #[.int .i64 (q9 + i), .int .i64 2] W fun e w' => e = .returned (.int .i64 ((q9 + i) % 2)) ∧ w' = W) := Lib.hid (fun W => picked2 (q9 + i) W)
            generalize (q9 + i) % (2 : Int) = r at *
            have hrr : r = 0 ∨ r = 1 := by omega
            have u3 : (i : Int) ≤ (i : Int) + 1 := by omega
            have u4 : (i : Int) + 1 ≤ T.size := by omega
            have v1 : i ≤ i + 1 := by omega
            have v2 : i + 1 ≤ T.size := by omega
            generalize hX : T.extract i (i + 1) = X at *
            have tw : IntKind.i64.wrap ((i : Int) + 1) = (i : Int) + 1 := IntWalk.i64_in _ (by omega)
            have tq0 : IntKind.i64.wrap q9 = q9 := IntWalk.i64_in _ (by omega)
            have tq : IntKind.i64.wrap (q9 + (i : Int)) = q9 + (i : Int) := IntWalk.i64_in _ (by omega)
            clear hc1 hc3 hcc r0 r1 hb
            rcases hk with hc | hc
            all_goals
              rw [hc] at e
              clear hc
              rcases hrr with rfl | rfl
            · go_wp2_with fail
              go_region_with (go_at_call 14; (with_reducible refine (HPK.out _).mono ?_); rintro e' w5 ⟨rfl, rfl⟩)
              all_goals
                go_wp2_with fail
                go_round
                case rel => exact ⟨o ++ (⟨#[32]⟩ ++ X ++ ⟨#[]⟩), i + 1, rfl, by go_num, by omega, by
                  have h5 : (⟨#[]⟩ : ByteArray).size ≤ 1 := by decide
                  have h6 : (⟨#[32]⟩ : ByteArray).size = 1 := by decide
                  have := size_add ho (x := ⟨#[32]⟩ ++ X ++ ⟨#[]⟩) (by rw [ByteArray.size_append, ByteArray.size_append]; omega)
                  omega, HGL.out.step HC1.out (by rw [HEX.out, Joins.data_append, Joins.data_append, HC3.out]; rfl), by
                  first | exact below_dn (Below.alloc HBW.out HBW.out.size _) 1 | exact Below.alloc (below_dn HBW.out 1) HBW.out.size _⟩
                case measure => simp [intOf]; omega
            · go_wp2_with fail
              go_region_with (go_at_call 14; (with_reducible refine (HPK.out _).mono ?_); rintro e' w5 ⟨rfl, rfl⟩)
              all_goals
                go_wp2_with fail
                go_round
                case rel => exact ⟨o ++ (⟨#[32]⟩ ++ X ++ ⟨#[10]⟩), i + 1, rfl, by go_num, by omega, by
                  have h5 : (⟨#[10]⟩ : ByteArray).size ≤ 1 := by decide
                  have h6 : (⟨#[32]⟩ : ByteArray).size = 1 := by decide
                  have := size_add ho (x := ⟨#[32]⟩ ++ X ++ ⟨#[10]⟩) (by rw [ByteArray.size_append, ByteArray.size_append]; omega)
                  omega, HGL.out.step HC1.out (by rw [HEX.out, Joins.data_append, Joins.data_append, HC3.out]; rfl), by
                  first | exact below_dn (Below.alloc HBW.out HBW.out.size _) 1 | exact Below.alloc (below_dn HBW.out 1) HBW.out.size _⟩
                case measure => simp [intOf]; omega
            · go_wp2_with fail
              go_region_with (go_at_call 14; (with_reducible refine (HPK.out _).mono ?_); rintro e' w5 ⟨rfl, rfl⟩)
              all_goals
                go_wp2_with fail
                go_round
                case rel => exact ⟨o ++ (⟨#[32]⟩ ++ X ++ ⟨#[]⟩), i + 1, rfl, by go_num, by omega, by
                  have h5 : (⟨#[]⟩ : ByteArray).size ≤ 1 := by decide
                  have h6 : (⟨#[32]⟩ : ByteArray).size = 1 := by decide
                  have := size_add ho (x := ⟨#[32]⟩ ++ X ++ ⟨#[]⟩) (by rw [ByteArray.size_append, ByteArray.size_append]; omega)
                  omega, HGL.out.step HC1.out (by rw [HEX.out, Joins.data_append, Joins.data_append, HC3.out]; rfl), by
                  first | exact below_dn (Below.alloc HBW.out HBW.out.size _) 1 | exact Below.alloc (below_dn HBW.out 1) HBW.out.size _⟩
                case measure => simp [intOf]; omega
            · go_wp2_with fail
              go_region_with (go_at_call 14; (with_reducible refine (HPK.out _).mono ?_); rintro e' w5 ⟨rfl, rfl⟩)
              all_goals
                go_wp2_with fail
                go_round
                case rel => exact ⟨o ++ (⟨#[32]⟩ ++ X ++ ⟨#[10]⟩), i + 1, rfl, by go_num, by omega, by
                  have h5 : (⟨#[10]⟩ : ByteArray).size ≤ 1 := by decide
                  have h6 : (⟨#[32]⟩ : ByteArray).size = 1 := by decide
                  have := size_add ho (x := ⟨#[32]⟩ ++ X ++ ⟨#[10]⟩) (by rw [ByteArray.size_append, ByteArray.size_append]; omega)
                  omega, HGL.out.step HC1.out (by rw [HEX.out, Joins.data_append, Joins.data_append, HC3.out]; rfl), by
                  first | exact below_dn (Below.alloc HBW.out HBW.out.size _) 1 | exact Below.alloc (below_dn HBW.out 1) HBW.out.size _⟩
                case measure => simp [intOf]; omega
          · have HN1 : Hid (¬ (c = 32 ∨ c = 10)) := Lib.hid (by
              rintro (rfl | rfl)
              · exact hb (.inl (by rw [hc2]; rfl))
              · exact hb (.inr (by rw [hc2]; rfl)))
            have HN2 : Hid (¬ (c = 40 ∨ c = 41)) := Lib.hid (by
              rintro (rfl | rfl)
              · exact hk (.inl (by rw [hc2]; rfl))
              · exact hk (.inr (by rw [hc2]; rfl)))
            have HEX : Hid (ex g i c = [c]) := Lib.hid (by unfold ex; rw [if_neg HN1.out, if_neg HN2.out])
            have d1 : (bs T i == 32) = false := by simpa using fun z => hb (.inl z)
            have d2 : (bs T i == 10) = false := by simpa using fun z => hb (.inr z)
            have d3 : (bs T i == 40) = false := by simpa using fun z => hk (.inl z)
            have d4 : (bs T i == 41) = false := by simpa using fun z => hk (.inr z)
            have u3 : (i : Int) ≤ (i : Int) + 1 := by omega
            have u4 : (i : Int) + 1 ≤ T.size := by omega
            have v1 : i ≤ i + 1 := by omega
            have v2 : i + 1 ≤ T.size := by omega
            generalize hX : T.extract i (i + 1) = X at *
            clear hb hk hc1 hc3
            go_wp2_with fail
            go_round
            case rel => exact ⟨o ++ X, i + 1, rfl, by go_num, by omega, by have := size_add ho (show X.size ≤ 5 by omega); omega, HGL.out.step HC1.out (by rw [HEX.out]; exact HC3.out), HBW.out⟩
            case measure => simp [intOf]; omega
      · obtain rfl : i = T.size := by omega
        have t1 : decide ((T.size : Int) < T.size) = false := by simp
        have HO := Lib.hid (HGL.out.done HTS.out)
        have G5 : Hid (Below w.heap.size w wr) := Lib.hid (bw_below (Nat.le_refl _) G3.out HBW.out)
        have A5 := Lib.hid (A3.out.below HBW.out)
        have N5 := Lib.hid (N3.out.below HBW.out)
        have l5 := N5.out.lt
        by_cases hbig : 4000 < o.size
        · have d1 : decide ((4000 : Int) < o.size) = true := by simp; omega
          go_wp2_with fail
          refine (sure_any _).mono ?_
          rintro e w6 ⟨rfl, hb6⟩
          have G6 : Hid (Below w.heap.size w w6) := bw_below (Nat.le_refl _) G5.out hb6
          clear hb6
          go_wp2_with fail
          go_ret
          exact ⟨rfl, G6.out⟩
        · have d1 : decide ((4000 : Int) < o.size) = false := by simp; omega
          have HP3 : Hid (∀ W, Calls Try.prog 12 #[.string o] W (ParseQ W (.good f))) := Lib.hid (fun W => by
            rw [HO.out]
            refine HP2.out ?_ W
            have : o.size = (wideT g f.lines).length := by rw [HO.out]; simp [ByteArray.size]
            omega)
          clear HP2 HO
          go_wp2_with fail
          refine (HP3.out _).mono ?_
          rintro e w6 ⟨A6, cp6, rfl, h1, h2, hA6, hb6⟩
          have G6 : Hid (Below w.heap.size w w6) := bw_below (Nat.le_refl _) G5.out hb6
          have A7 := Lib.hid (A5.out.below hb6)
          have N6 := Lib.hid (N5.out.below hb6)
          have HA6 := Lib.hid hA6
          have l6 := N6.out.lt
          obtain ⟨r0, r1, _, _⟩ := N6.out.two
          clear h1 h2 hb6 hA6
          go_wp2_with fail
          refine (sure_any _).mono ?_
          rintro e w7 ⟨rfl, hb7⟩
          have G7 : Hid (Below w.heap.size w w7) := bw_below (Nat.le_refl _) (Below.alloc G6.out G6.out.size _) hb7
          have A8 := Lib.hid ((A7.out.below (new_below w6 (.cells #[.int .i64 0, .int .i64 0] 27))).below hb7)
          have A8' := Lib.hid ((HA6.out.below (new_below w6 (.cells #[.int .i64 0, .int .i64 0] 27))).below hb7)
          clear hb7 r0 r1
          go_wp2_with fail
          refine (HS.out w7 A6 cp6 A8'.out A8.out).mono ?_
          rintro e w8 ⟨rfl, m, rfl⟩
          go_wp2_with fail
          go_ret
          exact ⟨rfl, below_dn G7.out m⟩
end Go.Proofs.Ytgkhkdohlbchoaa
