/-
  The contracts of row's long numbers: times, plus.
-/
import Derived.Test.YtkjollifghmkbaaRowA
import Derived.Laws.MakeOwn
namespace Go.Proofs.Ytkjollifghmkbaa
open Go.RowKit

/-- The first digits of a number. -/
def digs (n k : Nat) : List Value := (List.range k).map fun i => .int .u32 (dig n i)
theorem digs_succ (n k : Nat) : digs n (k + 1) = digs n k ++ [.int .u32 (dig n k)] := by simp [digs, List.range_succ]
theorem digs_len (n k : Nat) : (digs n k).length = k := by simp [digs]
theorem digs_get {n k i : Nat} (h : i < k) : (digs n k)[i]? = some (.int .u32 (dig n i)) := by simp [digs, h]
theorem sl_own {w : World} {base g L c n : Nat} (h : w.ownsRow base 87 1 (.slice (some ⟨g, 0, none⟩) L c) L (digs n L)) (hn : n < 4294967296 ^ L) : Sl w (some ⟨g, 0, none⟩) L n := by
  refine ⟨hn, fun _ => ⟨g, rfl, ?_⟩⟩
  rcases h.2 with ⟨e, _⟩ | ⟨g', cap, cur, e, hb, hh, hcap, _, hsz, htk⟩
  · cases e
  · injection e with e _ _
    injection e with e
    injection e with e _ _
    subst e
    refine ⟨cur, hh, fun k hk => ?_⟩
    have := digs_get (n := n) hk
    rw [← htk, Nat.mul_one, List.getElem?_take_of_lt hk] at this
    simpa using this
theorem mul_num {a b m c : Nat} (h : a = b * m + c) : a % 4294967296 = (c + b % 4294967296 * m) % 4294967296 ∧ a / 4294967296 = b / 4294967296 * m + (c + b % 4294967296 * m) / 4294967296 := by
  have e := Nat.div_add_mod b 4294967296
  have e2 : b * m = b / 4294967296 * m * 4294967296 + b % 4294967296 * m := by
    conv => lhs; rw [← e]
    rw [Nat.add_mul, Nat.mul_assoc, Nat.mul_comm]
  rw [e2] at h
  generalize b / 4294967296 * m = q at *
  generalize b % 4294967296 * m = r at *
  omega
theorem mul_dig {X m c i : Nat} (h : X * m / 4294967296 ^ i = X / 4294967296 ^ i * m + c) :
    dig (X * m) i = (c + dig X i * m) % 4294967296 ∧ X * m / 4294967296 ^ (i + 1) = X / 4294967296 ^ (i + 1) * m + (c + dig X i * m) / 4294967296 := by
  unfold dig
  rw [Nat.pow_succ, ← Nat.div_div_eq_div_mul, ← Nat.div_div_eq_div_mul]
  exact mul_num h
theorem mul_carry {c d m : Nat} (hc : c ≤ 4294967295) (hd : d ≤ 4294967295) (hm : m ≤ 4294967295) : c + d * m ≤ 18446744069414584320 ∧ (c + d * m) / 4294967296 ≤ 4294967295 := by
  have h : d * m ≤ 18446744065119617025 := Nat.mul_le_mul hd hm
  omega
set_option maxHeartbeats 2000000 in
theorem times_any (A : Option Addr) (L c X m : Nat) (hL : L ≤ 1000) (hm : m ≤ 4294967295) (w : World) (h : Sl w A L X) :
    Calls Try.prog 69 #[.slice A L c, .int .i64 m] w (GivesLg (X * m) (L + 1) w) := by
  obtain ⟨i0, hi0, hz0, hz1, hz2⟩ := info_parts u32_info
  have HX := Lib.hid h
  have HI : Hid (X * m / 4294967296 ^ 0 = X / 4294967296 ^ 0 * m + 0) := by show _ = _; simp
  clear h
  go_enter Try.func69, Try.ntmps69
  go_wp2_with (at_make; refine wpList_make_own _ rfl _ _ _ rfl w.heap.size 87 i0 (.int .u32 0) 1 Try.underlying63 hi0 hz0 hz1 _ _ _ (L + 1) rfl rfl (by simp) (by rw [hz2]; omega) (by unfold maxLen; omega) (Nat.le_refl _) ?_)
  intro w1 hown1 hg1
  have hb1 : Below w.heap.size w w1 := (Below.refl _ _).grown hg1 (Nat.le_refl _) (by simp)
  have HO := Lib.hid hown1
  clear hown1 hg1 hz0 hz2
  go_wp2
  go_loopw [5, 6, 15] (fun v cc k wr => ∃ i q : Nat, i ≤ L ∧ k = .int .i64 i ∧ cc = .int .u64 q ∧ q ≤ 4294967295 ∧ v = .slice (some ⟨w.heap.size, 0, none⟩) i (L + 1) ∧ Hid (wr.ownsRow w.heap.size 87 1 (.slice (some ⟨w.heap.size, 0, none⟩) i (L + 1)) i (digs (X * m) i)) ∧ Hid (X * m / 4294967296 ^ i = X / 4294967296 ^ i * m + q) ∧ Below w.heap.size w wr) (fun _ _ k _ => L - (intOf k).toNat)
  case atStart => exact ⟨0, 0, by omega, rfl, rfl, by omega, rfl, HO, HI, hb1⟩
  case round =>
    obtain ⟨i, q, hi, rfl, rfl, hq, rfl, hown, HE, hb⟩ := hrel
    obtain ⟨hc, hf⟩ := bcell hb
    have hz := hb.size
    by_cases hlt : i < L
    · obtain ⟨gx, rfl, rx⟩ := HX.out.2 (by omega)
      have gl := rx.lt
      have cx := rx.cell hlt
      have lx := dig_lt X i
      obtain ⟨m1, m2⟩ := mul_dig HE.out
      obtain ⟨k1, k2⟩ := mul_carry hq lx hm
      have M1 := Lib.hid m1
      have M2 := Lib.hid m2
      have K2 := Lib.hid k2
      have t1 : (0 : Int) ≤ i := by omega
      have t2 : (i : Int) < L := by omega
      have t3 : decide (i < L) = true := by simpa using hlt
      have t4 : (0 : Int) ≤ (dig X i : Int) * (m : Int) := by rw [← Int.natCast_mul]; omega
      have t5 : (dig X i : Int) * (m : Int) ≤ 18446744065119617025 := by rw [← Int.natCast_mul]; have := Nat.mul_le_mul lx hm; omega
      clear rx m1 m2 k1 k2
      go_wp2_with (at_builtin; refine wpList_append_fits _ rfl (.tmp 26) (.tmp 29) _ rfl w.heap.size 87 i0 1 Try.underlying63 hi0 hz1 w.heap.size i (L + 1) _ rfl (hown.out.alloc _) ⟨wr.heap.size, 0, none⟩ 1 1 [.int .u32 (((q : Int) + (dig X i : Int) * (m : Int)) % 4294967296)] rfl rfl (World.news_of_block (cs := #[_]) (t := 87) (fr := (0, 0)) (heap_alloc_new wr _)) (by simp [Value.oneCell']) (by omega) ?_)
      intro w2 hown2 hg2
      have hb2 : Below w.heap.size w w2 := (hb.alloc hb.size _).grown hg2 (by simp; omega) (fun k hk => by simp at hk; omega)
      have HO2 := Lib.hid hown2
      clear hown2 hg2
      go_wp2
      go_roundw
      case rel =>
        refine ⟨i + 1, (q + dig X i * m) / 4294967296, by omega, by go_num, by go_num, K2.out, rfl, ?_, M2, hb2⟩
        show World.ownsRow _ _ _ _ _ _ _
        rw [digs_succ, M1.out]
        simpa using HO2.out
      case measure => simp [intOf]; omega
    · obtain rfl : i = L := by omega
      have e1 := dig_over HX.out.1 (Nat.le_refl _)
      have e3 : dig (X * m) i = q := by
        have := (mul_dig HE.out).1
        rw [e1] at this
        omega
      have e4 : X * m < 4294967296 ^ (i + 1) := by
        have h := HE.out
        rw [Nat.div_eq_of_lt HX.out.1, Nat.zero_mul, Nat.zero_add] at h
        have h2 : X * m / 4294967296 ^ i < 4294967296 := by omega
        rw [Nat.pow_succ, Nat.mul_comm (4294967296 ^ i)]
        exact (Nat.div_lt_iff_lt_mul (pow_pos' i)).1 h2
      have E3 := Lib.hid e3
      have E4 := Lib.hid e4
      have t3 : decide (i < i) = false := by simp
      clear e1 e3 e4 hlt
      go_wp2_with (at_builtin; refine wpList_append_fits _ rfl (.tmp 34) (.tmp 37) _ rfl w.heap.size 87 i0 1 Try.underlying63 hi0 hz1 w.heap.size i (i + 1) _ rfl (hown.out.alloc _) ⟨wr.heap.size, 0, none⟩ 1 1 [.int .u32 (q : Int)] rfl rfl (World.news_of_block (cs := #[_]) (t := 87) (fr := (0, 0)) (heap_alloc_new wr _)) (by simp [Value.oneCell']) (by omega) ?_)
      intro w2 hown2 hg2
      have hb2 : Below w.heap.size w w2 := (hb.alloc hb.size _).grown hg2 (by simp; omega) (fun k hk => by simp at hk; omega)
      have hs2 : Sl w2 (some ⟨w.heap.size, 0, none⟩) (i + 1) (X * m) := by
        refine sl_own (base := w.heap.size) (c := i + 1) ?_ E4.out
        rw [digs_succ, E3.out]
        exact hown2
      have HS2 := Lib.hid hs2
      clear hown2 hg2 hs2
      go_wp2_with fail
      refine (cut_any _ (i + 1) (i + 1) (X * m) (by omega) (Nat.le_refl _) _ HS2.out).mono ?_
      rintro e w3 ⟨A3, L3, c3, rfl, h1, h2, h3, h4⟩
      have H3 := Lib.hid h3
      clear h3
      go_wp2
      go_ret
      exact ⟨A3, L3, c3, rfl, h1, h2, H3.out, hb2.trans (h4.mono hb2.size)⟩
theorem sl_longer {w : World} {A : Option Addr} {L n M : Nat} (h : Sl w A L n) (hM : L ≤ M) : n < 4294967296 ^ M := Nat.lt_of_lt_of_le h.1 (Nat.pow_le_pow_right (by omega) hM)
set_option maxHeartbeats 4000000 in
theorem plus_in (A A' : Option Addr) (L L' c c' X Y M : Nat) (hL : M ≤ 1000) (w : World) (hx : Sl w A L X) (hy : Sl w A' L' Y) (hM : L < L' ∧ L' = M ∨ ¬ L < L' ∧ L = M) :
    Calls Try.prog 70 #[.slice A L c, .slice A' L' c'] w (GivesLg (X + Y) (M + 1) w) := by
  obtain ⟨i0, hi0, hz0, hz1, hz2⟩ := info_parts u32_info
  have HX := Lib.hid hx
  have HY := Lib.hid hy
  have HI : Hid ((X + Y) / 4294967296 ^ 0 = X / 4294967296 ^ 0 + Y / 4294967296 ^ 0 + 0) := by show _ = _; simp
  have hX := sl_longer hx (M := M) (by omega)
  have hY := sl_longer hy (M := M) (by omega)
  have HLX := Lib.hid hX
  have HLY := Lib.hid hY
  clear hx hy hX hY
  rcases hM with ⟨hlt, rfl⟩ | ⟨hlt, rfl⟩
  · go_enter Try.func70, Try.ntmps70
    go_wp2_with (at_make; refine wpList_make_own _ rfl _ _ _ rfl w.heap.size 87 i0 (.int .u32 0) 1 Try.underlying63 hi0 hz0 hz1 _ _ _ (L' + 1) rfl rfl (by simp) (by rw [hz2]; omega) (by unfold maxLen; omega) (Nat.le_refl _) ?_)
    intro w1 hown1 hg1
    have hb1 : Below w.heap.size w w1 := (Below.refl _ _).grown hg1 (Nat.le_refl _) (by simp)
    have HO := Lib.hid hown1
    clear hown1 hg1 hz0 hz2
    go_wp2
    go_loopw [5, 6, 20] (fun v cc k wr => ∃ i q : Nat, i ≤ L' ∧ k = .int .i64 i ∧ cc = .int .u64 q ∧ q ≤ 1 ∧ v = .slice (some ⟨w.heap.size, 0, none⟩) i (L' + 1) ∧ Hid (wr.ownsRow w.heap.size 87 1 (.slice (some ⟨w.heap.size, 0, none⟩) i (L' + 1)) i (digs (X + Y) i)) ∧ Hid ((X + Y) / 4294967296 ^ i = X / 4294967296 ^ i + Y / 4294967296 ^ i + q) ∧ Below w.heap.size w wr) (fun _ _ k _ => L' - (intOf k).toNat)
    case atStart => exact ⟨0, 0, by omega, rfl, rfl, by omega, rfl, HO, HI, hb1⟩
    case round =>
      obtain ⟨i, q, hi, rfl, rfl, hq, rfl, hown, HE, hb⟩ := hrel
      obtain ⟨m1, m2⟩ := sum_step HE.out
      have hz := hb.size
      by_cases hlt2 : i < L'
      · have lx := dig_lt X i
        have ly := dig_lt Y i
        have M1 := Lib.hid m1
        have M2 := Lib.hid m2
        have t1 : (0 : Int) ≤ i := by omega
        have t2 : (i : Int) < L' := by omega
        have t3 : decide (i < L') = true := by simpa using hlt2
        have HX2 := Lib.hid (HX.out.below hb)
        have HY2 := Lib.hid (HY.out.below hb)
        clear m1 m2 hlt
        go_wp2_with fail
        refine (at_any A L c X i _ HX2.out).mono ?_
        rintro e w2 ⟨rfl, rfl⟩
        go_wp2_with fail
        refine (at_any A' L' c' Y i _ HY2.out).mono ?_
        rintro e w2 ⟨rfl, rfl⟩
        go_wp2_with (at_builtin; refine wpList_append_fits _ rfl (.tmp 32) (.tmp 35) _ rfl w.heap.size 87 i0 1 Try.underlying63 hi0 hz1 w.heap.size i (L' + 1) _ rfl (hown.out.alloc _) ⟨wr.heap.size, 0, none⟩ 1 1 [.int .u32 (((q : Int) + ((dig X i : Int) + (dig Y i : Int))) % 4294967296)] rfl rfl (World.news_of_block (cs := #[_]) (t := 87) (fr := (0, 0)) (heap_alloc_new wr _)) (by simp [Value.oneCell']) (by omega) ?_)
        intro w2 hown2 hg2
        have hb2 : Below w.heap.size w w2 := (hb.alloc hb.size _).grown hg2 (by simp; omega) (fun k hk => by simp at hk; omega)
        have HO2 := Lib.hid hown2
        clear hown2 hg2
        go_wp2
        go_roundw
        case rel =>
          refine ⟨i + 1, (q + (dig X i + dig Y i)) / 4294967296, by omega, by go_num, by go_num, by omega, rfl, ?_, ?_, hb2⟩
          · show World.ownsRow _ _ _ _ _ _ _
            rw [digs_succ, M1.out]
            have := HO2.out
            rw [Nat.add_assoc]
            simpa using this
          · have := M2.out
            rw [Nat.add_assoc q] at this
            exact this
        case measure => simp [intOf]; omega
      · obtain rfl : i = L' := by omega
        have e1 := dig_over HLX.out (Nat.le_refl _)
        have e2 := dig_over HLY.out (Nat.le_refl _)
        have e3 : dig (X + Y) i = q := by rw [e1, e2] at m1; omega
        have e4 : X + Y < 4294967296 ^ (i + 1) := by
          rw [Nat.pow_succ]
          have h1 := HLX.out
          have h2 := HLY.out
          omega
        have E3 := Lib.hid e3
        have E4 := Lib.hid e4
        have t3 : decide (i < i) = false := by simp
        clear e1 e2 e3 e4 hlt2 m1 m2 hlt
        go_wp2_with (at_builtin; refine wpList_append_fits _ rfl (.tmp 40) (.tmp 43) _ rfl w.heap.size 87 i0 1 Try.underlying63 hi0 hz1 w.heap.size i (i + 1) _ rfl (hown.out.alloc _) ⟨wr.heap.size, 0, none⟩ 1 1 [.int .u32 (q : Int)] rfl rfl (World.news_of_block (cs := #[_]) (t := 87) (fr := (0, 0)) (heap_alloc_new wr _)) (by simp [Value.oneCell']) (by omega) ?_)
        intro w2 hown2 hg2
        have hb2 : Below w.heap.size w w2 := (hb.alloc hb.size _).grown hg2 (by simp; omega) (fun k hk => by simp at hk; omega)
        have hs2 : Sl w2 (some ⟨w.heap.size, 0, none⟩) (i + 1) (X + Y) := by
          refine sl_own (base := w.heap.size) (c := i + 1) ?_ E4.out
          rw [digs_succ, E3.out]
          exact hown2
        have HS2 := Lib.hid hs2
        clear hown2 hg2 hs2
        go_wp2_with fail
        refine (cut_any _ (i + 1) (i + 1) (X + Y) (by omega) (Nat.le_refl _) _ HS2.out).mono ?_
        rintro e w3 ⟨A3, L3, c3, rfl, h1, h2, h3, h4⟩
        have H3 := Lib.hid h3
        clear h3
        go_wp2
        go_ret
        exact ⟨A3, L3, c3, rfl, h1, h2, H3.out, hb2.trans (h4.mono hb2.size)⟩
  · go_enter Try.func70, Try.ntmps70
    go_wp2_with (at_make; refine wpList_make_own _ rfl _ _ _ rfl w.heap.size 87 i0 (.int .u32 0) 1 Try.underlying63 hi0 hz0 hz1 _ _ _ (L + 1) rfl rfl (by simp) (by rw [hz2]; omega) (by unfold maxLen; omega) (Nat.le_refl _) ?_)
    intro w1 hown1 hg1
    have hb1 : Below w.heap.size w w1 := (Below.refl _ _).grown hg1 (Nat.le_refl _) (by simp)
    have HO := Lib.hid hown1
    clear hown1 hg1 hz0 hz2
    go_wp2
    go_loopw [5, 6, 20] (fun v cc k wr => ∃ i q : Nat, i ≤ L ∧ k = .int .i64 i ∧ cc = .int .u64 q ∧ q ≤ 1 ∧ v = .slice (some ⟨w.heap.size, 0, none⟩) i (L + 1) ∧ Hid (wr.ownsRow w.heap.size 87 1 (.slice (some ⟨w.heap.size, 0, none⟩) i (L + 1)) i (digs (X + Y) i)) ∧ Hid ((X + Y) / 4294967296 ^ i = X / 4294967296 ^ i + Y / 4294967296 ^ i + q) ∧ Below w.heap.size w wr) (fun _ _ k _ => L - (intOf k).toNat)
    case atStart => exact ⟨0, 0, by omega, rfl, rfl, by omega, rfl, HO, HI, hb1⟩
    case round =>
      obtain ⟨i, q, hi, rfl, rfl, hq, rfl, hown, HE, hb⟩ := hrel
      obtain ⟨m1, m2⟩ := sum_step HE.out
      have hz := hb.size
      by_cases hlt2 : i < L
      · have lx := dig_lt X i
        have ly := dig_lt Y i
        have M1 := Lib.hid m1
        have M2 := Lib.hid m2
        have t1 : (0 : Int) ≤ i := by omega
        have t2 : (i : Int) < L := by omega
        have t3 : decide (i < L) = true := by simpa using hlt2
        have HX2 := Lib.hid (HX.out.below hb)
        have HY2 := Lib.hid (HY.out.below hb)
        clear m1 m2 hlt
        go_wp2_with fail
        refine (at_any A L c X i _ HX2.out).mono ?_
        rintro e w2 ⟨rfl, rfl⟩
        go_wp2_with fail
        refine (at_any A' L' c' Y i _ HY2.out).mono ?_
        rintro e w2 ⟨rfl, rfl⟩
        go_wp2_with (at_builtin; refine wpList_append_fits _ rfl (.tmp 32) (.tmp 35) _ rfl w.heap.size 87 i0 1 Try.underlying63 hi0 hz1 w.heap.size i (L + 1) _ rfl (hown.out.alloc _) ⟨wr.heap.size, 0, none⟩ 1 1 [.int .u32 (((q : Int) + ((dig X i : Int) + (dig Y i : Int))) % 4294967296)] rfl rfl (World.news_of_block (cs := #[_]) (t := 87) (fr := (0, 0)) (heap_alloc_new wr _)) (by simp [Value.oneCell']) (by omega) ?_)
        intro w2 hown2 hg2
        have hb2 : Below w.heap.size w w2 := (hb.alloc hb.size _).grown hg2 (by simp; omega) (fun k hk => by simp at hk; omega)
        have HO2 := Lib.hid hown2
        clear hown2 hg2
        go_wp2
        go_roundw
        case rel =>
          refine ⟨i + 1, (q + (dig X i + dig Y i)) / 4294967296, by omega, by go_num, by go_num, by omega, rfl, ?_, ?_, hb2⟩
          · show World.ownsRow _ _ _ _ _ _ _
            rw [digs_succ, M1.out]
            have := HO2.out
            rw [Nat.add_assoc]
            simpa using this
          · have := M2.out
            rw [Nat.add_assoc q] at this
            exact this
        case measure => simp [intOf]; omega
      · obtain rfl : i = L := by omega
        have e1 := dig_over HLX.out (Nat.le_refl _)
        have e2 := dig_over HLY.out (Nat.le_refl _)
        have e3 : dig (X + Y) i = q := by rw [e1, e2] at m1; omega
        have e4 : X + Y < 4294967296 ^ (i + 1) := by
          rw [Nat.pow_succ]
          have h1 := HLX.out
          have h2 := HLY.out
          omega
        have E3 := Lib.hid e3
        have E4 := Lib.hid e4
        have t3 : decide (i < i) = false := by simp
        clear e1 e2 e3 e4 hlt2 m1 m2 hlt
        go_wp2_with (at_builtin; refine wpList_append_fits _ rfl (.tmp 40) (.tmp 43) _ rfl w.heap.size 87 i0 1 Try.underlying63 hi0 hz1 w.heap.size i (i + 1) _ rfl (hown.out.alloc _) ⟨wr.heap.size, 0, none⟩ 1 1 [.int .u32 (q : Int)] rfl rfl (World.news_of_block (cs := #[_]) (t := 87) (fr := (0, 0)) (heap_alloc_new wr _)) (by simp [Value.oneCell']) (by omega) ?_)
        intro w2 hown2 hg2
        have hb2 : Below w.heap.size w w2 := (hb.alloc hb.size _).grown hg2 (by simp; omega) (fun k hk => by simp at hk; omega)
        have hs2 : Sl w2 (some ⟨w.heap.size, 0, none⟩) (i + 1) (X + Y) := by
          refine sl_own (base := w.heap.size) (c := i + 1) ?_ E4.out
          rw [digs_succ, E3.out]
          exact hown2
        have HS2 := Lib.hid hs2
        clear hown2 hg2 hs2
        go_wp2_with fail
        refine (cut_any _ (i + 1) (i + 1) (X + Y) (by omega) (Nat.le_refl _) _ HS2.out).mono ?_
        rintro e w3 ⟨A3, L3, c3, rfl, h1, h2, h3, h4⟩
        have H3 := Lib.hid h3
        clear h3
        go_wp2
        go_ret
        exact ⟨A3, L3, c3, rfl, h1, h2, H3.out, hb2.trans (h4.mono hb2.size)⟩
theorem plus_any (A A' : Option Addr) (L L' c c' X Y : Nat) (hL : L ≤ 1000) (hL' : L' ≤ 1000) (w : World) (hx : Sl w A L X) (hy : Sl w A' L' Y) :
    Calls Try.prog 70 #[.slice A L c, .slice A' L' c'] w (GivesLg (X + Y) (max L L' + 1) w) := by
  by_cases h : L < L'
  · have := plus_in A A' L L' c c' X Y L' hL' w hx hy (.inl ⟨h, rfl⟩)
    rwa [show max L L' = L' by omega]
  · have := plus_in A A' L L' c c' X Y L hL w hx hy (.inr ⟨h, rfl⟩)
    rwa [show max L L' = L by omega]
end Go.Proofs.Ytkjollifghmkbaa
