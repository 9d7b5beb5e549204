/-
  The contracts of row's long numbers: minus, over, small.
  The contract of a sum's value.
  The contract of row.Value.
  The mathematics of a sum's values: a point's sum is the sum of both.
-/
import Derived.Test.YtkjollifghmkbaaRowB
import Derived.Test.YtkjollifghmkbaaRowN
import Derived.Test.YtkjollifghmkbaaRowK
import Derived.Test.YtkjollifghmkbaaRowT
import Derived.Test.YtkjollifghmkbaaFracM
import Derived.Test.YtkjollifghmkbaaRowH
import Derived.Test.YtkjollifghmkbaaWideR
namespace Go.Proofs.Ytkjollifghmkbaa
open Go.RowKit

/-- A row of n cells, those from i on a number's digits. -/
def VSuf (w : World) (g n i V : Nat) : Prop := ∃ cs, w.heap[g]? = some (.cells cs 87 (0, 0)) ∧ cs.size = n ∧ ∀ k, i ≤ k → k < n → cs[k]? = some (.int .u32 (dig V k))
theorem VSuf.new (w : World) (n V : Nat) : VSuf (w.alloc (.cells (zeros n) 87)) w.heap.size n n V := ⟨_, heap_alloc_new _ _, zeros_size n, fun k h1 h2 => by omega⟩
theorem VSuf.lt {w : World} {g n i V : Nat} (h : VSuf w g n i V) : g < w.heap.size := by
  obtain ⟨cs, e, hs, _⟩ := h
  exact Part.lt (i := 0) (V := V) ⟨cs, e, hs, fun k hk => by omega⟩
theorem VSuf.cell {w : World} {g n i V k : Nat} (h : VSuf w g n i V) (hk : k < n) : ∃ u, w.cell? ⟨g, k, none⟩ = some u := by
  obtain ⟨cs, e, hs, _⟩ := h
  exact Part.cell (i := 0) (V := V) ⟨cs, e, hs, fun k hk => by omega⟩ hk
theorem VSuf.frozen {w : World} {g n i V : Nat} (h : VSuf w g n i V) (k : Nat) : w.frozen? ⟨g, k, none⟩ = false := by
  obtain ⟨cs, e, _⟩ := h
  simp [World.frozen?, e]
theorem VSuf.put {w : World} {g n i V : Nat} (h : VSuf w g n (i + 1) V) (hi : i < n) {d : Int} (hd : d = (dig V i : Int)) : VSuf (w.setCell ⟨g, i, none⟩ (.int .u32 d)) g n i V := by
  obtain ⟨cs, e, hs, hk⟩ := h
  refine ⟨cs.setIfInBounds i (.int .u32 d), by simp [World.setCell, Array.getElem?_modify, e], by simp [hs], fun k hk' hk2 => ?_⟩
  rw [Array.getElem?_setIfInBounds]
  by_cases z : i = k
  · subst z; rw [if_pos rfl, if_pos (by omega), hd]
  · rw [if_neg z]; exact hk k (by omega) hk2
theorem VSuf.row {w : World} {g n V : Nat} (h : VSuf w g n 0 V) : Row w g n V := by
  obtain ⟨cs, e, hs, hk⟩ := h
  exact ⟨cs, e, fun k hk' => hk k (by omega) hk'⟩
theorem vshort_step {X y k : Nat} (hy : 0 < y) : dig (X / y) k = (X / 4294967296 ^ (k + 1) % y * 4294967296 + dig X k) / y ∧
    (X / 4294967296 ^ (k + 1) % y * 4294967296 + dig X k) % y = X / 4294967296 ^ k % y ∧ X / 4294967296 ^ (k + 1) % y * 4294967296 + dig X k < y * 4294967296 := by
  have u := up_digit X k
  have l := dig_lt X k
  have m := Nat.mod_lt (X / 4294967296 ^ (k + 1)) hy
  have d := Nat.div_add_mod (X / 4294967296 ^ (k + 1)) y
  have hlt : X / 4294967296 ^ (k + 1) % y * 4294967296 + dig X k < y * 4294967296 := by
    have := Nat.mul_le_mul_right 4294967296 (show X / 4294967296 ^ (k + 1) % y + 1 ≤ y from m)
    omega
  have e1 : dig (X / y) k = X / 4294967296 ^ k / y % 4294967296 := by
    unfold dig; rw [Nat.div_div_eq_div_mul, Nat.mul_comm, ← Nat.div_div_eq_div_mul]
  have e2 : X / 4294967296 ^ k = (X / 4294967296 ^ (k + 1) % y * 4294967296 + dig X k) + y * (X / 4294967296 ^ (k + 1) / y * 4294967296) := by
    rw [u]
    conv => lhs; rw [← d]
    rw [Nat.add_mul, Nat.mul_assoc]; omega
  refine ⟨?_, ?_, hlt⟩
  · rw [e1, e2, Nat.add_mul_div_left _ _ hy, Nat.add_mul_mod_self_right, Nat.mod_eq_of_lt]
    exact Nat.div_lt_of_lt_mul hlt
  · rw [e2, Nat.add_mul_mod_self_left]
theorem vshort_mod {rr d r' : Nat} {z : Int} (y : Nat) (h : z = ((rr * 4294967296 + d : Nat) : Int)) (e : (rr * 4294967296 + d) % y = r') : z.tmod (y : Int) = (r' : Int) := by
  rw [h, ← e, Int.tmod_eq_emod_of_nonneg (by omega)]; simp
theorem vshort_div {rr d q : Nat} {z : Int} (y : Nat) (h : z = ((rr * 4294967296 + d : Nat) : Int)) (e : q = (rr * 4294967296 + d) / y) (l : rr * 4294967296 + d < y * 4294967296) : IntKind.u64.wrap (z.tdiv (y : Int)) % 4294967296 = (q : Int) := by
  have hq : q < 4294967296 := by rw [e]; exact Nat.div_lt_of_lt_mul l
  have e1 : z.tdiv (y : Int) = (q : Int) := by rw [h, e, Int.tdiv_eq_ediv_of_nonneg (by omega)]; simp
  rw [e1, IntKind.wrap_u64]; omega

theorem vshort_div2 {rr d q : Nat} {z : Int} (y : Nat) (h : z = ((rr * 4294967296 + d : Nat) : Int)) (e : q = (rr * 4294967296 + d) / y) (l : rr * 4294967296 + d < y * 4294967296) : z / (y : Int) % 4294967296 = (q : Int) := by
  have hq : q < 4294967296 := by rw [e]; exact Nat.div_lt_of_lt_mul l
  have e1 : z / (y : Int) = (q : Int) := by rw [h, e]; simp
  rw [e1]; omega
theorem make_longs (n : Nat) (hn : n ≤ 1073741825) (w : World) : (Instr.makeSlice 63 (.int .i64 n) (.int .i64 n)).run Try.prog w = .ok (.slice (some ⟨w.heap.size, 0, none⟩) n n) (w.alloc (.cells (zeros n) 87)) := by
  obtain ⟨i0, hi0, hz0, hz1, hz2⟩ := info_parts u32_info
  have h := run_make (P := Try.prog) w 63 87 i0 (.int .u32 0) Try.underlying63 hi0 hz0 .i64 .i64 (n : Int) (n : Int) (by omega) (by omega) (by rw [hz2]; omega) (by omega)
  rw [hz1] at h
  exact h
theorem minus_dig {Y Z q i : Nat} {dx : Nat} (hq : q ≤ 1) (h : (Y + Z) / 4294967296 ^ i = Y / 4294967296 ^ i + Z / 4294967296 ^ i + q) (hx : dx = dig (Y + Z) i) :
    ∃ q', q' ≤ 1 ∧ (Y + Z) / 4294967296 ^ (i + 1) = Y / 4294967296 ^ (i + 1) + Z / 4294967296 ^ (i + 1) + q' ∧ dx + 4294967296 * q' = dig Y i + dig Z i + q := by
  obtain ⟨m1, m2⟩ := sum_step h
  have l1 := dig_lt Y i
  have l2 := dig_lt Z i
  refine ⟨_, ?_, m2, ?_⟩
  · omega
  · omega
set_option maxHeartbeats 4000000 in
theorem minus_any (A A' : Option Addr) (L L' c c' Y Z : Nat) (hL : L ≤ 1000) (w : World) (hx : Sl w A L (Y + Z)) (hy : Sl w A' L' Y) :
    Calls Try.prog 65 #[.slice A L c, .slice A' L' c'] w (GivesLg Z L w) := by
  obtain ⟨i0, hi0, hz0, hz1, hz2⟩ := info_parts u32_info
  have HX := Lib.hid hx
  have HY := Lib.hid hy
  have HI : Hid ((Y + Z) / 4294967296 ^ 0 = Y / 4294967296 ^ 0 + Z / 4294967296 ^ 0 + 0) := by show _ = _; simp
  clear hx hy
  go_enter Try.func65, Try.ntmps65
  go_wp2_with (at_make; refine wpList_make_own _ rfl _ _ _ rfl w.heap.size 87 i0 (.int .u32 0) 1 Try.underlying63 hi0 hz0 hz1 _ _ _ L rfl rfl (by simp) (by rw [hz2]; omega) (by unfold maxLen; omega) (Nat.le_refl _) ?_)
  intro w1 hown1 hg1
  have hb1 : Below w.heap.size w w1 := (Below.refl _ _).grown hg1 (Nat.le_refl _) (by simp)
  have HO := Lib.hid hown1
  clear hown1 hg1 hz0 hz2
  go_wp2
  go_loopw [5, 6, 14] (fun v cc k wr => ∃ i q : Nat, i ≤ L ∧ k = .int .i64 i ∧ cc = .int .u64 q ∧ q ≤ 1 ∧ v = .slice (some ⟨w.heap.size, 0, none⟩) i L ∧ Hid (wr.ownsRow w.heap.size 87 1 (.slice (some ⟨w.heap.size, 0, none⟩) i L) i (digs Z i)) ∧ Hid ((Y + Z) / 4294967296 ^ i = Y / 4294967296 ^ i + Z / 4294967296 ^ i + q) ∧ Below w.heap.size w wr) (fun _ _ k _ => L - (intOf k).toNat)
  case atStart => exact ⟨0, 0, by omega, rfl, rfl, by omega, rfl, HO, HI, hb1⟩
  case round =>
    obtain ⟨i, q, hi, rfl, rfl, hq, rfl, hown, HE, hb⟩ := hrel
    have hz := hb.size
    by_cases hlt2 : i < L
    · obtain ⟨q', hq', e1, e2⟩ := minus_dig hq HE.out rfl
      have lx := dig_lt (Y + Z) i
      have ly := dig_lt Y i
      have lz := dig_lt Z i
      have M1 := Lib.hid e1
      have t1 : (0 : Int) ≤ i := by omega
      have t2 : (i : Int) < L := by omega
      have t3 : decide (i < L) = true := by simpa using hlt2
      have HX2 := Lib.hid (HX.out.below hb)
      have HY2 := Lib.hid (HY.out.below hb)
      have T1 := Lib.hid (show (4294967296 + (dig (Y + Z) i : Int) - (dig Y i : Int) - (q : Int)) % 4294967296 = (dig Z i : Int) from by omega)
      have T2 := Lib.hid (show 1 - (4294967296 + (dig (Y + Z) i : Int) - (dig Y i : Int) - (q : Int)) / 4294967296 = (q' : Int) from by omega)
      have b1 : (0 : Int) ≤ 4294967296 + (dig (Y + Z) i : Int) - (dig Y i : Int) - (q : Int) := by omega
      have b3 : 4294967296 + (dig (Y + Z) i : Int) - (dig Y i : Int) - (q : Int) ≤ 8589934591 := by omega
      have b4 : (4294967296 + (dig (Y + Z) i : Int) - (dig Y i : Int) - (q : Int)) / 4294967296 ≤ 1 := by omega
      have b5 : 0 ≤ (4294967296 + (dig (Y + Z) i : Int) - (dig Y i : Int) - (q : Int)) / 4294967296 := by omega
      clear e1 e2
      go_wp2_with fail
      refine (at_any A L c (Y + Z) i _ HX2.out).mono ?_
      rintro e w2 ⟨rfl, rfl⟩
      go_wp2_with fail
      refine (at_any A' L' c' Y i _ HY2.out).mono ?_
      rintro e w2 ⟨rfl, rfl⟩
      go_wp2_with (at_builtin; refine wpList_append_fits _ rfl (.tmp 27) (.tmp 30) _ rfl w.heap.size 87 i0 1 Try.underlying63 hi0 hz1 w.heap.size i L _ rfl (hown.out.alloc _) ⟨wr.heap.size, 0, none⟩ 1 1 [.int .u32 ((4294967296 + (dig (Y + Z) i : Int) - (dig Y i : Int) - (q : Int)) % 4294967296)] rfl rfl (World.news_of_block (cs := #[_]) (t := 87) (fr := (0, 0)) (heap_alloc_new wr _)) (by simp [Value.oneCell']) (by omega) ?_)
      intro w2 hown2 hg2
      have hb2 : Below w.heap.size w w2 := (hb.alloc hb.size _).grown hg2 (by simp; omega) (fun k hk => by simp at hk; omega)
      have HO2 := Lib.hid hown2
      clear hown2 hg2
      go_wp2
      go_roundw
      case rel =>
        refine ⟨i + 1, q', by omega, by go_num, int_u64 T2.out, hq', rfl, ?_, M1, hb2⟩
        show World.ownsRow _ _ _ _ _ _ _
        rw [digs_succ]
        have := HO2.out
        rw [T1.out] at this
        simpa using this
      case measure => simp [intOf]; omega
    · obtain rfl : i = L := by omega
      have e4 : Z < 4294967296 ^ i := by have := HX.out.1; omega
      have hs2 : Sl wr (some ⟨w.heap.size, 0, none⟩) i Z := sl_own (base := w.heap.size) (c := i) hown.out e4
      have HS2 := Lib.hid hs2
      have t3 : decide (i < i) = false := by simp
      clear e4 hs2 hlt2
      go_wp2_with fail
      refine (cut_any _ i i Z (by omega) (Nat.le_refl _) _ HS2.out).mono ?_
      rintro e w3 ⟨A3, L3, c3, rfl, h1, h2, h3, h4⟩
      have H3 := Lib.hid h3
      clear h3
      go_wp2
      go_ret
      exact ⟨A3, L3, c3, rfl, h1, h2, H3.out, hb.trans (h4.mono hb.size)⟩
/-- The way in which a division of a long number ends. -/
def GivesOver (n r K : Nat) (w : World) (e : Ending) (w' : World) : Prop := ∃ A L c, e = .returned (.tuple #[.slice A L c, .int .i64 r]) ∧ L ≤ K ∧ L ≤ c ∧ Lg w' A L n ∧ Below w.heap.size w w'
set_option maxHeartbeats 4000000 in
theorem over_any (A : Option Addr) (L c X y : Nat) (hL : L ≤ 1000) (hy : 0 < y) (y2 : y ≤ 4294967295) (w : World) (hx : Sl w A L X) :
    Calls Try.prog 66 #[.slice A L c, .int .i64 y] w (GivesOver (X / y) (X % y) L w) := by
  have hmk : ∀ w : World, (Instr.makeSlice 63 (.int .i64 (L : Int)) (.int .i64 (L : Int))).run Try.prog w = .ok (.slice (some ⟨w.heap.size, 0, none⟩) L L) (w.alloc (.cells (zeros L) 87)) := fun w => make_longs L (by omega) w
  have HX := Lib.hid hx
  have hy0 : ((y : Int) == 0) = false := by simp; omega
  have yi : (0 : Int) < y := by omega
  clear hx
  go_enter Try.func66, Try.ntmps66
  go_wp2
  go_loopw [7, 8] (fun r k wr => ∃ j rr : Nat, j ≤ L ∧ k = .int .i64 ((j : Int) - 1) ∧ r = .int .u64 rr ∧ rr < y ∧ Hid (rr = X / 4294967296 ^ j % y) ∧ Hid (VSuf wr w.heap.size L j (X / y)) ∧ Below w.heap.size w wr) (fun _ k _ => (intOf k + 1).toNat)
  case atStart =>
    exact ⟨L, 0, Nat.le_refl _, rfl, rfl, hy, by show _ = _; rw [Nat.div_eq_of_lt HX.out.1]; simp, VSuf.new w L _, new_below w _⟩
  case round =>
    obtain ⟨j, rr, hj, rfl, rfl, hr, HR, HS, hb⟩ := hrel
    obtain ⟨hc, hf⟩ := bcell hb
    have hs := HS.out.lt
    rcases Nat.eq_zero_or_pos j with rfl | hp
    · have HR' : rr = X % y := by have := HR.out; simpa using this
      have HR2 := Lib.hid HR'
      have lq : X / y < 4294967296 ^ L := Nat.lt_of_le_of_lt (Nat.div_le_self _ _) HX.out.1
      have HSl : Hid (Sl wr (some ⟨w.heap.size, 0, none⟩) L (X / y)) := ⟨lq, fun _ => ⟨_, rfl, HS.out.row⟩⟩
      clear HR' lq hc hf
      rw [show (((0 : Nat) : Int) - 1) = (-1 : Int) from rfl]
      go_wp2_with fail
      refine (cut_any _ L L (X / y) (by omega) (Nat.le_refl _) _ HSl.out).mono ?_
      rintro e w3 ⟨A3, L3, c3, rfl, h1, h2, h3, h4⟩
      have H3 := Lib.hid h3
      clear h3
      go_wp2
      go_ret2
      exact ⟨A3, L3, c3, by rw [HR2.out]; rfl, h1, h2, H3.out, hb.trans (h4.mono hb.size)⟩
    · obtain ⟨k, rfl⟩ : ∃ k, j = k + 1 := ⟨j - 1, by omega⟩
      obtain ⟨gx, rfl, rx⟩ := HX.out.2 (by omega)
      have glx := rx.lt
      have cx := rx.cell (k := k) (by omega)
      have lx := dig_lt X k
      have hk : (0 : Int) ≤ k := by omega
      have hk2 : (k : Int) < L := by omega
      obtain ⟨u, hu⟩ := HS.out.cell (k := k) (by omega)
      have hfz := HS.out.frozen k
      obtain ⟨m1, m2, m3⟩ := vshort_step (X := X) (k := k) hy
      rw [← HR.out] at m1 m2 m3
      have M1 := Lib.hid m1
      have M2 := Lib.hid m2
      have M3 := Lib.hid m3
      have oj := Lib.hid (show ((rr : Int) * 4294967296 + (dig X k : Int)) = ((rr * 4294967296 + dig X k : Nat) : Int) by omega)
      clear m1 m2 m3 rx
      have q1 := Lib.hid (vshort_mod y oj.out M2.out)
      have q2 := Lib.hid (vshort_div2 y oj.out M1.out M3.out)
      have q3 := Lib.hid (Nat.mod_lt (X / 4294967296 ^ k) hy)
      go_wp2
      go_roundw
      case rel => exact ⟨k, X / 4294967296 ^ k % y, by omega, rfl, int_u64 q1.out, q3.out, rfl, HS.out.put (by omega) q2.out, hb.setCell (Nat.le_refl _) _⟩
      case measure => simp [intOf]
theorem small_yes (A : Option Addr) (L c X : Nat) (hX : X < 4294967296) (w : World) (hx : Lg w A L X) :
    Calls Try.prog 67 #[.slice A L c] w fun e w' => e = .returned (.tuple #[.int .i64 X, .bool true]) ∧ w = w' := by
  have hL : L ≤ 1 := lg_len hx (by simpa using hX)
  have HX := Lib.hid hx.1
  have d : decide (1 < L) = false := by simp; omega
  have e0 : dig X 0 = X := by rw [dig_zero]; omega
  have E := Lib.hid e0
  clear hx e0
  go_enter Try.func67, Try.ntmps67
  go_wp2_with fail
  refine (at_any A L c X 0 _ HX.out).mono ?_
  rintro e w2 ⟨rfl, rfl⟩
  rw [E.out]
  go_wp2
  go_ret2
  exact ⟨rfl, rfl⟩
theorem small_no (A : Option Addr) (L c X : Nat) (hX : ¬ X < 4294967296) (w : World) (hx : Lg w A L X) :
    Calls Try.prog 67 #[.slice A L c] w fun e w' => e = .returned (.tuple #[.int .i64 0, .bool false]) ∧ w = w' := by
  have hL : 1 < L := by
    rcases Nat.lt_or_ge 1 L with h | h
    · exact h
    · exfalso
      have := sl_longer hx.1 h
      exact hX (by simpa using this)
  have d : decide (1 < L) = true := by simpa using hL
  clear hx hX
  go_enter Try.func67, Try.ntmps67
  go_wp2
  go_ret2
  exact ⟨rfl, rfl⟩
end Go.Proofs.Ytkjollifghmkbaa
namespace Go.Proofs.Ytkjollifghmkbaa
open Go.RowKit

/-- The product of the first of a list of denominators. -/
def pD (ds : List Int) : Nat → Nat
  | 0 => 1
  | i + 1 => pD ds i * (nth ds i).toNat
theorem isl_own {w : World} {base c n : Nat} {A : Option Addr} {ds : List Int} (h : w.ownsRow base 3 1 (.slice A n c) n (ds.map (.int .i64))) (hn : n = ds.length) : Is w A ds := fun z => by
  rcases h.2 with ⟨_, e⟩ | ⟨g, cap, cur, e, _, hh, hc, _, hsz, htk⟩
  · omega
  · injection e with e _ _
    refine ⟨g, 0, e, ?_, fun k hk => ?_⟩
    · rcases Nat.lt_or_ge g w.heap.size with l | l
      · exact l
      · rw [Array.getElem?_eq_none l] at hh; cases hh
    · have e1 : (ds.map (Value.int .i64))[k]? = some (.int .i64 (nth ds k)) := by simp [nth, List.getD, hk]
      rw [← htk, Nat.mul_one, List.getElem?_take_of_lt (by omega)] at e1
      rw [Nat.zero_add, cell_of_row w g k cur 3 (0, 0) hh]
      simpa using e1
theorem gcd_over {n d g : Nat} (hd : 1 ≤ d) (hg : g = Int.gcd (d : Int) ((n % d : Nat) : Int)) : 1 ≤ g ∧ g ≤ d ∧ g ∣ d ∧ g ∣ n := by
  have e : g = Nat.gcd d (n % d) := by rw [hg]; unfold Int.gcd; rw [Int.natAbs_natCast, Int.natAbs_natCast]
  have h1 : g ∣ d := e ▸ Nat.gcd_dvd_left _ _
  have h2 : g ∣ n % d := e ▸ Nat.gcd_dvd_right _ _
  refine ⟨Nat.pos_of_dvd_of_pos h1 (by omega), Nat.le_of_dvd (by omega) h1, h1, ?_⟩
  have := Nat.dvd_add (Nat.dvd_mul_right_of_dvd h1 (n / d)) h2
  rwa [Nat.div_add_mod] at this
theorem val_step {n N den P d g : Nat} (h : n * P = N * den) (h1 : g ∣ d) (h2 : g ∣ n) (hg : 1 ≤ g) : n / g * (P * d) = N * (den * (d / g)) := by
  obtain ⟨x, rfl⟩ := h1
  obtain ⟨y, rfl⟩ := h2
  rw [Nat.mul_div_cancel_left _ hg, Nat.mul_div_cancel_left _ hg]
  have : y * (P * (g * x)) = g * y * P * x := by grind
  rw [this, h]
  grind
theorem SumAt.below {w w' : World} {base K a b u : Nat} {v : Value} {ds : List Int} (h : SumAt w base v K a b u ds) (hb : Below w.heap.size w w') : SumAt w' base v K a b u ds := by
  obtain ⟨A1, L1, c1, A2, L2, c2, A3, L3, c3, A4, n4, c4, e, h1, h2, h3, r1, r2, r3, hn, ho⟩ := h
  exact ⟨A1, L1, c1, A2, L2, c2, A3, L3, c3, A4, n4, c4, e, h1, h2, h3, r1.below hb, r2.below hb, r3.below hb, hn, own_below ho hb⟩
def ValOf (a b u : Nat) (p q c : Int) : Prop := (c = 10 ∧ p = 0 ∧ q = 0) ∨ (c = 0 ∧ fvalid p q = true ∧ p * (u : Int) = ((a : Int) - b) * q)
theorem made_two {num den : Int} (hd : den ≠ 0) : (madeC num den = 10 ∧ madeN num den = 0 ∧ madeD num den = 0) ∨ madeC num den = 0 := by
  unfold madeC madeN madeD
  rw [if_neg hd, if_neg hd, if_neg hd]
  split
  · left; exact ⟨rfl, rfl, rfl⟩
  · right; rfl
theorem val_made {a b u n N : Nat} {den : Nat} {num s : Int} (hd : (den : Int) ≠ 0) (h : n * u = N * den) (hs : (a : Int) - b = s * N) (hn : num = s * n) : ValOf a b u (madeN num den) (madeD num den) (madeC num den) := by
  rcases made_two hd (num := num) with k | k
  · exact .inl k
  · obtain ⟨v, e⟩ := made_spec hd k
    refine .inr ⟨k, v, ?_⟩
    have h' : (n : Int) * u = N * den := by exact_mod_cast h
    apply Int.eq_of_mul_eq_mul_right hd
    generalize madeN num den = p at *
    generalize madeD num den = q at *
    rw [hs]
    subst hn
    have e1 : p * u * den = (p * den) * u := by grind
    rw [e1, e]
    have e2 : s * n * q * u = s * q * ((n : Int) * u) := by grind
    rw [e2, h']
    grind
def GivesVal (a b u : Nat) (w : World) (e : Ending) (w' : World) : Prop := ∃ p q c : Int, e = .returned (.tuple #[.agg #[.int .i64 p, .int .i64 q], .agg #[.int .i64 c, .int .i64 0]]) ∧ ValOf a b u p q c ∧ Below w.heap.size w w'
set_option maxRecDepth 100000 in
set_option maxHeartbeats 8000000 in
theorem val_any (base K a b u m : Nat) (ds : List Int) (v : Value) (hK : K ≤ 900) (hm : m = ds.length) (hm2 : m ≤ 12) (hds : ∀ i, i < m → 1 ≤ nth ds i ∧ nth ds i ≤ 1073741824) (hu : u = pD ds m) (w : World) (h : SumAt w base v K a b u ds) :
    Calls Try.prog 34 #[v] w (GivesVal a b u w) := by
  have hsg := fun W hW => sign_any' base K a b u ds v (by omega) W hW
  obtain ⟨N, s, hs, hN⟩ : ∃ (N : Nat) (s : Int), (s = -1 ∧ a < b ∧ b = a + N ∨ s = 1 ∧ ¬ a < b ∧ a = b + N) ∧ (a : Int) - b = s * N := by
    by_cases k : a < b
    · exact ⟨b - a, -1, .inl ⟨rfl, k, by omega⟩, by omega⟩
    · exact ⟨a - b, 1, .inr ⟨rfl, k, by omega⟩, by omega⟩
  have hS := h
  obtain ⟨A1, L1, c1, A2, L2, c2, A3, L3, c3, A4, n4, c4, rfl, h1, h2, h3, r1, r2, r3, hn, ho⟩ := h
  have R1 := Lib.hid r1
  have R2 := Lib.hid r2
  obtain rfl : n4 = m := by omega
  have RD := Lib.hid (isl_own ho hn)
  have HS := Lib.hid hS
  have HSG := Lib.hid hsg
  have HN := Lib.hid hN
  have HD := Lib.hid hds
  have HM := Lib.hid hm
  have HU := Lib.hid hu
  clear r1 r2 r3 ho hS hsg hN hds hm hu hn
  have SZ : Hid (∀ W, Below w.heap.size w W → SumAt W base (.agg #[.slice A1 L1 c1, .slice A2 L2 c2, .slice A3 L3 c3, .slice A4 n4 c4]) K a b u ds) := fun W hW => HS.out.below hW
  rcases hs with ⟨hs, hlt, hNN⟩ | ⟨hs, hlt, hNN⟩
  · have hc : cmpN a b < 0 := (cmpN_lt a b).1.2 (by omega)
    have d1 : decide (cmpN a b < 0) = true := by simpa using hc
    have HX2 : Hid (∀ W, Below w.heap.size w W → Calls Try.prog 65 #[.slice A2 L2 c2, .slice A1 L1 c1] W (GivesLg N L2 W)) := fun W hW => minus_any A2 A1 L2 L1 c2 c1 a N (by omega) W (hNN ▸ (R2.out.below hW).1) (R1.out.below hW).1
    have HSS := Lib.hid hs
    clear hlt hc hNN hs
    go_enter Try.func34, Try.ntmps34
    go_wp2_with fail
    refine (HSG.out _ (SZ.out _ (by go_grown))).mono ?_
    rintro e w1 ⟨rfl, hb1⟩
    have V1 := Lib.hid ((((HB.new w 65 #[.slice A1 L1 c1, .slice A2 L2 c2, .slice A3 L3 c3, .slice A4 n4 c4]).alloc _).alloc _).below hb1)
    have F1 := Lib.hid (((HB.new1 w _ 27 #[.int .i64 0, .int .i64 0]).alloc _).below hb1)
    have E1 := Lib.hid ((HB.new2 w _ _ 29 #[.int .i64 0, .int .i64 0]).below hb1)
    have G1 : Hid (Below w.heap.size w w1) := below_after (by go_grown) hb1
    obtain ⟨x0, x1, x2, x3, _⟩ := HB.four V1.out
    have l1 := V1.out.lt
    clear hb1
    go_wp2_with fail
    refine (HX2.out _ G1.out).mono ?_
    rintro e w2 ⟨A5, L5, c5, rfl, hl5, hc5, hg5, hb2⟩
    have HG5 := Lib.hid hg5
    have V2 := Lib.hid (V1.out.below hb2)
    have F2 := Lib.hid (F1.out.below hb2)
    have E2 := Lib.hid (E1.out.below hb2)
    have G2 := Lib.hid (bw_below (Nat.le_refl _) G1.out hb2)
    clear x0 x1 x2 x3 l1 hg5 hb2 V1 F1 E1 G1
    obtain ⟨x0, x1, x2, x3, _⟩ := HB.four V2.out
    have l1 := V2.out.lt
    have k5 : L5 ≤ 900 := by omega
    go_wp2
    clear x0 x1 x2 x3 l1 V2
    go_loopw [5, 6, 30] (fun v dv k wr => ∃ (i n den : Nat) (A6 : Option Addr) (L6 c6 : Nat), i ≤ n4 ∧ k = .int .i64 i ∧ v = .slice A6 L6 c6 ∧ dv = .int .i64 den ∧ 1 ≤ den ∧ den ≤ 1073741824 ∧ L6 ≤ 900 ∧ L6 ≤ c6 ∧ Hid (Lg wr A6 L6 n) ∧ Hid (n * pD ds i = N * den) ∧ Hid (HB wr (w.heap.size + 1) 27 #[.int .i64 0, .int .i64 0]) ∧ Hid (HB wr (w.heap.size + 1 + 1) 29 #[.int .i64 0, .int .i64 0]) ∧ Hid (Below w.heap.size w wr)) (fun _ _ k _ => n4 - (intOf k).toNat)
    case atStart => exact ⟨0, N, 1, A5, L5, c5, by omega, rfl, rfl, rfl, by omega, by omega, k5, hc5, HG5, by show _ = _; simp [pD], F2, E2, G2⟩
    case round =>
      obtain ⟨i, n, den, A6, L6, c6, hi, rfl, rfl, rfl, dn1, dn2, hl6, hc6, HG, HE, HF, HFE, HBl⟩ := hrel
      by_cases hlt : i < n4
      · obtain ⟨bb, oo, rfl, hbb, hcc⟩ := (RD.out.below HBl.out) (by rw [← HM.out]; omega)
        have cx := hcc i (by rw [← HM.out]; exact hlt)
        obtain ⟨q1, q2⟩ := HD.out i hlt
        obtain ⟨d, hd⟩ : ∃ d : Nat, nth ds i = d := ⟨(nth ds i).toNat, by omega⟩
        rw [hd] at cx q1 q2
        have HDD := Lib.hid hd
        have t1 : (0 : Int) ≤ i := by omega
        have t2 : (i : Int) < n4 := by omega
        have t3 : decide (i < n4) = true := by simpa using hlt
        have d1' : 1 ≤ d := by omega
        have d2' : d ≤ 1073741824 := by omega
        clear hcc hd
        have hpos : 0 < d := by omega
        have hr := Nat.mod_lt n hpos
        go_wp2_with fail
        refine (over_any A6 L6 c6 n d (by omega) (by omega) (by omega) _ HG.out.1).mono ?_
        rintro e w3 ⟨A7, L7, c7, rfl, _, _, _, hb3⟩
        have HG3 := Lib.hid (HG.out.below hb3)
        have F3 := Lib.hid (HF.out.below hb3)
        have E3 := Lib.hid (HFE.out.below hb3)
        have G3 := Lib.hid (bw_below (Nat.le_refl _) HBl.out hb3)
        clear hb3 HG HF HFE HBl cx
        generalize hrr : n % d = r at *
        have HR := Lib.hid hrr
        clear hrr
        go_wp2_with fail
        refine (rdiv_any (d : Int) (r : Int) (by omega) (by omega) (by omega) (by omega) _).mono ?_
        rintro e w4 ⟨rfl, n1, rfl⟩
        generalize hgg : Int.gcd (d : Int) (r : Int) = g at *
        obtain ⟨g1, g2, g3, g4⟩ := gcd_over (n := n) (g := g) d1' (by rw [HR.out]; exact hgg.symm)
        have g0 : ((g : Int) == 0) = false := by simp; omega
        have GD := Lib.hid g3
        have GN := Lib.hid g4
        have HV := Lib.hid (val_step HE.out g3 g4 g1)
        have qd : (d : Int) / (g : Int) = ((d / g : Nat) : Int) := by simp
        obtain ⟨x, hx⟩ : ∃ x : Nat, x = d / g := ⟨_, rfl⟩
        have x1 : x ≤ 1073741824 := by rw [hx]; exact Nat.le_trans (Nat.div_le_self _ _) d2'
        have x0 : 1 ≤ x := by rw [hx]; exact Nat.div_pos g2 g1
        rw [← hx] at qd
        have hm1 : den * x ≤ 1152921504606846976 := Nat.mul_le_mul dn2 x1
        have hm0 : 1 ≤ den * x := Nat.mul_le_mul dn1 x0
        obtain ⟨M, hM⟩ : ∃ M : Nat, M = den * x := ⟨_, rfl⟩
        have eM : (den : Int) * ((d : Int) / (g : Int)) = (M : Int) := by rw [qd, hM, Int.natCast_mul]
        have b1 : 0 ≤ (den : Int) * ((d : Int) / (g : Int)) := by omega
        have b2 : (den : Int) * ((d : Int) / (g : Int)) ≤ 1152921504606846976 := by omega
        have b3 : 0 ≤ (d : Int) / (g : Int) := by omega
        have b4 : (d : Int) / (g : Int) ≤ 1073741824 := by omega
        have EM := Lib.hid eM
        have HV2 : Hid (n / g * (pD ds (i + 1)) = N * M) := by
          show _ = _
          rw [pD, HDD.out, Int.toNat_natCast, HV.out, hM, hx]
        rw [← hM] at hm0 hm1
        clear hgg g3 g4 qd hx hM eM HV
        go_wp2_with fail
        have HG4 : Hid (Lg (w3.drewN n1) A6 L6 n) := HG3.out
        have F4 : Hid (HB (w3.drewN n1) (w.heap.size + 1) 27 #[.int .i64 0, .int .i64 0]) := F3.out
        have E4 : Hid (HB (w3.drewN n1) (w.heap.size + 1 + 1) 29 #[.int .i64 0, .int .i64 0]) := E3.out
        refine (over_any A6 L6 c6 n g (by omega) (by omega) (by omega) _ HG4.out.1).mono ?_
        rintro e w5 ⟨A8, L8, c8, rfl, hl8, hc8, hg8, hb5⟩
        have HG8 := Lib.hid hg8
        have F5 := Lib.hid (F4.out.below hb5)
        have E5 := Lib.hid (E4.out.below hb5)
        have G5 := Lib.hid (bw_below (Nat.le_refl _) (below_drewN G3.out n1) hb5)
        clear hb5 hg8 F3 E3 G3 HG3 F4 E4 HG4
        by_cases hbig : 1073741824 < M
        · have dd : decide (1073741824 < (den : Int) * ((d : Int) / (g : Int))) = true := by rw [EM.out]; simp; omega
          obtain ⟨y0, y1, y2, y3⟩ := HB.two F5.out
          obtain ⟨z0, z1, z2, z3⟩ := HB.two E5.out
          have l1 := F5.out.lt
          have l2 := E5.out.lt
          go_wp2
          refine bodyPost_ret (v := .tuple #[.agg #[.int .i64 0, .int .i64 0], .agg #[.int .i64 10, .int .i64 0]]) (by simp [results, Try.results34, go_sem, y0, y1, z0, z1]) rfl ⟨0, 0, 10, rfl, .inl ⟨rfl, rfl, rfl⟩, ?_⟩
          exact bw_far (g := w.heap.size + 1 + 1) (bw_far (g := w.heap.size + 1) G5.out (by omega) (far2 _ _ _ _)) (by omega) (far2 _ _ _ _)
        · have dd : decide (1073741824 < (den : Int) * ((d : Int) / (g : Int))) = false := by rw [EM.out]; simp; omega
          go_wp2
          go_roundw
          case rel => exact ⟨i + 1, n / g, M, A8, L8, c8, by omega, by go_num, rfl, by rw [EM.out], by omega, by omega, by omega, hc8, HG8, HV2, F5, E5, G5⟩
          case measure => simp [intOf]; omega
      · obtain rfl : i = n4 := by omega
        have t3 : decide (i < i) = false := by simp
        clear hlt
        by_cases hsm : n < 4294967296
        · have HSM := Lib.hid (small_yes A6 L6 c6 n hsm)
          have sw : IntKind.i64.wrap ((-1 : Int) * (n : Int)) = (-1 : Int) * (n : Int) := IntWalk.i64_in _ (by omega)
          have hden : (den : Int) ≠ 0 := by omega
          go_wp2_with fail
          refine (HSM.out _ HG.out).mono ?_
          rintro e w3 ⟨rfl, rfl⟩
          go_wp2_with fail
          refine (make_any (-(n : Int)) den (by omega) (by omega) (by omega) (by omega) _).mono ?_
          rintro e w3 ⟨rfl, hb3⟩
          have F3 := HF.out.below hb3
          have E3 := HFE.out.below hb3
          have G3 := Lib.hid (bw_below (Nat.le_refl _) HBl.out hb3)
          obtain ⟨y0, y1, y2, y3⟩ := HB.two F3
          obtain ⟨z0, z1, z2, z3⟩ := HB.two E3
          have l1 := F3.lt
          have l2 := E3.lt
          have HVO : Hid (ValOf a b u (madeN (-(n : Int)) den) (madeD (-(n : Int)) den) (madeC (-(n : Int)) den)) := val_made (n := n) (N := N) (s := s) hden (by rw [HU.out]; exact HE.out) HN.out (by rw [HSS.out]; omega)
          clear hb3 F3 E3
          generalize madeN (-(n : Int)) den = p at *
          generalize madeD (-(n : Int)) den = q at *
          generalize madeC (-(n : Int)) den = cc at *
          go_wp2
          refine bodyPost_ret (v := .tuple #[.agg #[.int .i64 p, .int .i64 q], .agg #[.int .i64 cc, .int .i64 0]]) (by simp [results, Try.results34, go_sem, y0, y1, z0, z1]) rfl ⟨p, q, cc, rfl, HVO.out, ?_⟩
          exact bw_far (g := w.heap.size + 1 + 1) (bw_far (g := w.heap.size + 1) G3.out (by omega) (far2 _ _ _ _)) (by omega) (far2 _ _ _ _)
        · have HSM := Lib.hid (small_no A6 L6 c6 n hsm)
          obtain ⟨y0, y1, y2, y3⟩ := HB.two HF.out
          obtain ⟨z0, z1, z2, z3⟩ := HB.two HFE.out
          have l1 := HF.out.lt
          have l2 := HFE.out.lt
          clear hsm
          go_wp2_with fail
          refine (HSM.out _ HG.out).mono ?_
          rintro e w3 ⟨rfl, rfl⟩
          go_wp2
          refine bodyPost_ret (v := .tuple #[.agg #[.int .i64 0, .int .i64 0], .agg #[.int .i64 10, .int .i64 0]]) (by simp [results, Try.results34, go_sem, y0, y1, z0, z1]) rfl ⟨0, 0, 10, rfl, .inl ⟨rfl, rfl, rfl⟩, ?_⟩
          exact bw_far (g := w.heap.size + 1 + 1) (bw_far (g := w.heap.size + 1) HBl.out (by omega) (far2 _ _ _ _)) (by omega) (far2 _ _ _ _)
  · have hc : ¬ cmpN a b < 0 := fun k => hlt (by have := (cmpN_lt a b).1.1 k; omega)
    have d1 : decide (cmpN a b < 0) = false := by simpa using hc
    have HX2 : Hid (∀ W, Below w.heap.size w W → Calls Try.prog 65 #[.slice A1 L1 c1, .slice A2 L2 c2] W (GivesLg N L1 W)) := fun W hW => minus_any A1 A2 L1 L2 c1 c2 b N (by omega) W (hNN ▸ (R1.out.below hW).1) (R2.out.below hW).1
    have HSS := Lib.hid hs
    clear hlt hc hNN hs
    go_enter Try.func34, Try.ntmps34
    go_wp2_with fail
    refine (HSG.out _ (SZ.out _ (by go_grown))).mono ?_
    rintro e w1 ⟨rfl, hb1⟩
    have V1 := Lib.hid ((((HB.new w 65 #[.slice A1 L1 c1, .slice A2 L2 c2, .slice A3 L3 c3, .slice A4 n4 c4]).alloc _).alloc _).below hb1)
    have F1 := Lib.hid (((HB.new1 w _ 27 #[.int .i64 0, .int .i64 0]).alloc _).below hb1)
    have E1 := Lib.hid ((HB.new2 w _ _ 29 #[.int .i64 0, .int .i64 0]).below hb1)
    have G1 : Hid (Below w.heap.size w w1) := below_after (by go_grown) hb1
    obtain ⟨x0, x1, x2, x3, _⟩ := HB.four V1.out
    have l1 := V1.out.lt
    clear hb1
    go_wp2_with fail
    refine (HX2.out _ G1.out).mono ?_
    rintro e w2 ⟨A5, L5, c5, rfl, hl5, hc5, hg5, hb2⟩
    have HG5 := Lib.hid hg5
    have V2 := Lib.hid (V1.out.below hb2)
    have F2 := Lib.hid (F1.out.below hb2)
    have E2 := Lib.hid (E1.out.below hb2)
    have G2 := Lib.hid (bw_below (Nat.le_refl _) G1.out hb2)
    clear x0 x1 x2 x3 l1 hg5 hb2 V1 F1 E1 G1
    obtain ⟨x0, x1, x2, x3, _⟩ := HB.four V2.out
    have l1 := V2.out.lt
    have k5 : L5 ≤ 900 := by omega
    go_wp2
    clear x0 x1 x2 x3 l1 V2
    go_loopw [5, 6, 30] (fun v dv k wr => ∃ (i n den : Nat) (A6 : Option Addr) (L6 c6 : Nat), i ≤ n4 ∧ k = .int .i64 i ∧ v = .slice A6 L6 c6 ∧ dv = .int .i64 den ∧ 1 ≤ den ∧ den ≤ 1073741824 ∧ L6 ≤ 900 ∧ L6 ≤ c6 ∧ Hid (Lg wr A6 L6 n) ∧ Hid (n * pD ds i = N * den) ∧ Hid (HB wr (w.heap.size + 1) 27 #[.int .i64 0, .int .i64 0]) ∧ Hid (HB wr (w.heap.size + 1 + 1) 29 #[.int .i64 0, .int .i64 0]) ∧ Hid (Below w.heap.size w wr)) (fun _ _ k _ => n4 - (intOf k).toNat)
    case atStart => exact ⟨0, N, 1, A5, L5, c5, by omega, rfl, rfl, rfl, by omega, by omega, k5, hc5, HG5, by show _ = _; simp [pD], F2, E2, G2⟩
    case round =>
      obtain ⟨i, n, den, A6, L6, c6, hi, rfl, rfl, rfl, dn1, dn2, hl6, hc6, HG, HE, HF, HFE, HBl⟩ := hrel
      by_cases hlt : i < n4
      · obtain ⟨bb, oo, rfl, hbb, hcc⟩ := (RD.out.below HBl.out) (by rw [← HM.out]; omega)
        have cx := hcc i (by rw [← HM.out]; exact hlt)
        obtain ⟨q1, q2⟩ := HD.out i hlt
        obtain ⟨d, hd⟩ : ∃ d : Nat, nth ds i = d := ⟨(nth ds i).toNat, by omega⟩
        rw [hd] at cx q1 q2
        have HDD := Lib.hid hd
        have t1 : (0 : Int) ≤ i := by omega
        have t2 : (i : Int) < n4 := by omega
        have t3 : decide (i < n4) = true := by simpa using hlt
        have d1' : 1 ≤ d := by omega
        have d2' : d ≤ 1073741824 := by omega
        clear hcc hd
        have hpos : 0 < d := by omega
        have hr := Nat.mod_lt n hpos
        go_wp2_with fail
        refine (over_any A6 L6 c6 n d (by omega) (by omega) (by omega) _ HG.out.1).mono ?_
        rintro e w3 ⟨A7, L7, c7, rfl, _, _, _, hb3⟩
        have HG3 := Lib.hid (HG.out.below hb3)
        have F3 := Lib.hid (HF.out.below hb3)
        have E3 := Lib.hid (HFE.out.below hb3)
        have G3 := Lib.hid (bw_below (Nat.le_refl _) HBl.out hb3)
        clear hb3 HG HF HFE HBl cx
        generalize hrr : n % d = r at *
        have HR := Lib.hid hrr
        clear hrr
        go_wp2_with fail
        refine (rdiv_any (d : Int) (r : Int) (by omega) (by omega) (by omega) (by omega) _).mono ?_
        rintro e w4 ⟨rfl, n1, rfl⟩
        generalize hgg : Int.gcd (d : Int) (r : Int) = g at *
        obtain ⟨g1, g2, g3, g4⟩ := gcd_over (n := n) (g := g) d1' (by rw [HR.out]; exact hgg.symm)
        have g0 : ((g : Int) == 0) = false := by simp; omega
        have GD := Lib.hid g3
        have GN := Lib.hid g4
        have HV := Lib.hid (val_step HE.out g3 g4 g1)
        have qd : (d : Int) / (g : Int) = ((d / g : Nat) : Int) := by simp
        obtain ⟨x, hx⟩ : ∃ x : Nat, x = d / g := ⟨_, rfl⟩
        have x1 : x ≤ 1073741824 := by rw [hx]; exact Nat.le_trans (Nat.div_le_self _ _) d2'
        have x0 : 1 ≤ x := by rw [hx]; exact Nat.div_pos g2 g1
        rw [← hx] at qd
        have hm1 : den * x ≤ 1152921504606846976 := Nat.mul_le_mul dn2 x1
        have hm0 : 1 ≤ den * x := Nat.mul_le_mul dn1 x0
        obtain ⟨M, hM⟩ : ∃ M : Nat, M = den * x := ⟨_, rfl⟩
        have eM : (den : Int) * ((d : Int) / (g : Int)) = (M : Int) := by rw [qd, hM, Int.natCast_mul]
        have b1 : 0 ≤ (den : Int) * ((d : Int) / (g : Int)) := by omega
        have b2 : (den : Int) * ((d : Int) / (g : Int)) ≤ 1152921504606846976 := by omega
        have b3 : 0 ≤ (d : Int) / (g : Int) := by omega
        have b4 : (d : Int) / (g : Int) ≤ 1073741824 := by omega
        have EM := Lib.hid eM
        have HV2 : Hid (n / g * (pD ds (i + 1)) = N * M) := by
          show _ = _
          rw [pD, HDD.out, Int.toNat_natCast, HV.out, hM, hx]
        rw [← hM] at hm0 hm1
        clear hgg g3 g4 qd hx hM eM HV
        go_wp2_with fail
        have HG4 : Hid (Lg (w3.drewN n1) A6 L6 n) := HG3.out
        have F4 : Hid (HB (w3.drewN n1) (w.heap.size + 1) 27 #[.int .i64 0, .int .i64 0]) := F3.out
        have E4 : Hid (HB (w3.drewN n1) (w.heap.size + 1 + 1) 29 #[.int .i64 0, .int .i64 0]) := E3.out
        refine (over_any A6 L6 c6 n g (by omega) (by omega) (by omega) _ HG4.out.1).mono ?_
        rintro e w5 ⟨A8, L8, c8, rfl, hl8, hc8, hg8, hb5⟩
        have HG8 := Lib.hid hg8
        have F5 := Lib.hid (F4.out.below hb5)
        have E5 := Lib.hid (E4.out.below hb5)
        have G5 := Lib.hid (bw_below (Nat.le_refl _) (below_drewN G3.out n1) hb5)
        clear hb5 hg8 F3 E3 G3 HG3 F4 E4 HG4
        by_cases hbig : 1073741824 < M
        · have dd : decide (1073741824 < (den : Int) * ((d : Int) / (g : Int))) = true := by rw [EM.out]; simp; omega
          obtain ⟨y0, y1, y2, y3⟩ := HB.two F5.out
          obtain ⟨z0, z1, z2, z3⟩ := HB.two E5.out
          have l1 := F5.out.lt
          have l2 := E5.out.lt
          go_wp2
          refine bodyPost_ret (v := .tuple #[.agg #[.int .i64 0, .int .i64 0], .agg #[.int .i64 10, .int .i64 0]]) (by simp [results, Try.results34, go_sem, y0, y1, z0, z1]) rfl ⟨0, 0, 10, rfl, .inl ⟨rfl, rfl, rfl⟩, ?_⟩
          exact bw_far (g := w.heap.size + 1 + 1) (bw_far (g := w.heap.size + 1) G5.out (by omega) (far2 _ _ _ _)) (by omega) (far2 _ _ _ _)
        · have dd : decide (1073741824 < (den : Int) * ((d : Int) / (g : Int))) = false := by rw [EM.out]; simp; omega
          go_wp2
          go_roundw
          case rel => exact ⟨i + 1, n / g, M, A8, L8, c8, by omega, by go_num, rfl, by rw [EM.out], by omega, by omega, by omega, hc8, HG8, HV2, F5, E5, G5⟩
          case measure => simp [intOf]; omega
      · obtain rfl : i = n4 := by omega
        have t3 : decide (i < i) = false := by simp
        clear hlt
        by_cases hsm : n < 4294967296
        · have HSM := Lib.hid (small_yes A6 L6 c6 n hsm)
          have sw : IntKind.i64.wrap ((1 : Int) * (n : Int)) = (1 : Int) * (n : Int) := IntWalk.i64_in _ (by omega)
          have hden : (den : Int) ≠ 0 := by omega
          go_wp2_with fail
          refine (HSM.out _ HG.out).mono ?_
          rintro e w3 ⟨rfl, rfl⟩
          go_wp2_with fail
          refine (make_any ((n : Int)) den (by omega) (by omega) (by omega) (by omega) _).mono ?_
          rintro e w3 ⟨rfl, hb3⟩
          have F3 := HF.out.below hb3
          have E3 := HFE.out.below hb3
          have G3 := Lib.hid (bw_below (Nat.le_refl _) HBl.out hb3)
          obtain ⟨y0, y1, y2, y3⟩ := HB.two F3
          obtain ⟨z0, z1, z2, z3⟩ := HB.two E3
          have l1 := F3.lt
          have l2 := E3.lt
          have HVO : Hid (ValOf a b u (madeN ((n : Int)) den) (madeD ((n : Int)) den) (madeC ((n : Int)) den)) := val_made (n := n) (N := N) (s := s) hden (by rw [HU.out]; exact HE.out) HN.out (by rw [HSS.out]; omega)
          clear hb3 F3 E3
          generalize madeN ((n : Int)) den = p at *
          generalize madeD ((n : Int)) den = q at *
          generalize madeC ((n : Int)) den = cc at *
          go_wp2
          refine bodyPost_ret (v := .tuple #[.agg #[.int .i64 p, .int .i64 q], .agg #[.int .i64 cc, .int .i64 0]]) (by simp [results, Try.results34, go_sem, y0, y1, z0, z1]) rfl ⟨p, q, cc, rfl, HVO.out, ?_⟩
          exact bw_far (g := w.heap.size + 1 + 1) (bw_far (g := w.heap.size + 1) G3.out (by omega) (far2 _ _ _ _)) (by omega) (far2 _ _ _ _)
        · have HSM := Lib.hid (small_no A6 L6 c6 n hsm)
          obtain ⟨y0, y1, y2, y3⟩ := HB.two HF.out
          obtain ⟨z0, z1, z2, z3⟩ := HB.two HFE.out
          have l1 := HF.out.lt
          have l2 := HFE.out.lt
          clear hsm
          go_wp2_with fail
          refine (HSM.out _ HG.out).mono ?_
          rintro e w3 ⟨rfl, rfl⟩
          go_wp2
          refine bodyPost_ret (v := .tuple #[.agg #[.int .i64 0, .int .i64 0], .agg #[.int .i64 10, .int .i64 0]]) (by simp [results, Try.results34, go_sem, y0, y1, z0, z1]) rfl ⟨0, 0, 10, rfl, .inl ⟨rfl, rfl, rfl⟩, ?_⟩
          exact bw_far (g := w.heap.size + 1 + 1) (bw_far (g := w.heap.size + 1) HBl.out (by omega) (far2 _ _ _ _)) (by omega) (far2 _ _ _ _)
end Go.Proofs.Ytkjollifghmkbaa
namespace Go.Proofs.Ytkjollifghmkbaa
open Go.RowKit

theorem nth_dens (ps : List (Int × Int)) (L i : Nat) (h : i < L) : nth (densOf ps L) i = fden ps i := by
  simp [nth, densOf, List.getD, h]
theorem pD_sA (xs : List Int) (ps : List (Int × Int)) (L k : Nat) (h : k ≤ L) : (sA xs ps k).2.2 = pD (densOf ps L) k := by
  induction k with
  | zero => rfl
  | succ k ih => unfold sA pD; rw [← ih (by omega), nth_dens _ _ _ (by omega)]
/-- What row.Value yields. -/
def ValueOf (kind tt : Int) (xs : List Int) (ps : List (Int × Int)) (p q c i : Int) : Prop :=
  (atC kind tt xs ps ≠ 0 ∧ p = 0 ∧ q = 0 ∧ c = atC kind tt xs ps ∧ i = atI kind tt xs ps) ∨
  (atC kind tt xs ps = 0 ∧ i = 0 ∧ ((c = 10 ∧ p = 0 ∧ q = 0) ∨ (c = 0 ∧ fvalid p q = true ∧ p * dD ps xs.length = dS xs ps xs.length * q)))
def GivesRVl (kind tt : Int) (xs : List Int) (ps : List (Int × Int)) (w : World) (e : Ending) (w' : World) : Prop := ∃ p q c i : Int, e = .returned (.tuple #[.agg #[.int .i64 p, .int .i64 q], .agg #[.int .i64 c, .int .i64 i]]) ∧ ValueOf kind tt xs ps p q c i ∧ Below w.heap.size w w'
set_option maxHeartbeats 4000000 in
theorem value_bad (A A' : Option Addr) (xs : List Int) (ps : List (Int × Int)) (L c L' c' : Nat) (kind tt : Int) (hL : L = xs.length) (hL' : L' = ps.length) (w : World) (h : Is w A xs) (hp : Fs w A' ps) (x y : Int) (hx : atC kind tt xs ps = x) (hy : atI kind tt xs ps = y) (h0 : x ≠ 0) :
    Calls Try.prog 11 #[.agg #[.slice A L c, .int .i64 kind, .int .i64 tt], .slice A' L' c'] w (GivesRVl kind tt xs ps w) := by
  have d : (x == 0) = false := by simpa using h0
  have HV : Hid (ValueOf kind tt xs ps 0 0 x y) := .inl ⟨by rw [hx]; exact h0, rfl, rfl, hx.symm, hy.symm⟩
  have HX := Lib.hid h
  have HP := Lib.hid hp
  have HL := Lib.hid hL
  have HL' := Lib.hid hL'
  have H1 := Lib.hid hx
  have H2 := Lib.hid hy
  clear h hp hL hL' hx hy h0
  go_enter Try.func11, Try.ntmps11
  go_wp2_with fail
  refine (checkat_any A A' xs ps L c L' c' kind tt HL.out HL'.out _ (HX.out.below (by go_grown)) (HP.out.below (by go_grown))).mono ?_
  rw [H1.out, H2.out]
  rintro e w1 ⟨rfl, hb1⟩
  have F1 := Lib.hid (((HB.new1 w (.cells #[.slice A L c, .int .i64 kind, .int .i64 tt] 24) 27 #[.int .i64 0, .int .i64 0]).alloc _).below hb1)
  have E1 := Lib.hid ((HB.new2 w (.cells #[.slice A L c, .int .i64 kind, .int .i64 tt] 24) (.cells #[.int .i64 0, .int .i64 0] 27) 29 #[.int .i64 0, .int .i64 0]).below hb1)
  have G1 : Hid (Below w.heap.size w w1) := below_after (by go_grown) hb1
  obtain ⟨y0, y1, y2, y3⟩ := HB.two F1.out
  obtain ⟨z0, z1, z2, z3⟩ := HB.two E1.out
  have l1 := F1.out.lt
  have l2 := E1.out.lt
  clear hb1
  go_wp2
  go_region
  go_wp2
  refine bodyPost_ret (v := .tuple #[.agg #[.int .i64 0, .int .i64 0], .agg #[.int .i64 x, .int .i64 y]]) (by simp [results, Try.results11, go_sem, y0, y1, z0, z1, l1, l2]) rfl ⟨0, 0, x, y, rfl, HV.out, ?_⟩
  exact ((bw_far (g := w.heap.size + 1 + 1) (bw_far (g := w.heap.size + 1) G1.out (by omega) (far2 _ _ _ _)) (by omega) (far2 _ _ _ _)).alloc (by simp; omega) _).drew
set_option maxHeartbeats 4000000 in
theorem value_good (A A' : Option Addr) (xs : List Int) (ps : List (Int × Int)) (L c L' c' : Nat) (kind tt : Int) (hL : L = xs.length) (hL' : L' = ps.length) (w : World) (h : Is w A xs) (hp : Fs w A' ps) (h0 : atC kind tt xs ps = 0) :
    Calls Try.prog 11 #[.agg #[.slice A L c, .int .i64 kind, .int .i64 tt], .slice A' L' c'] w (GivesRVl kind tt xs ps w) := by
  obtain ⟨z0, z1, z2⟩ := at_zero h0
  obtain ⟨_, n0, n12, hk, hle, hbad, hin⟩ := chk_zero z1
  have hall := bad_all hbad
  have hfv := (pt_zero z2).2
  have l12 : L ≤ 12 := by omega
  have lle : L ≤ ps.length := by omega
  have hbd : ∀ i, i < L → 1 ≤ fden ps i ∧ fden ps i ≤ 1073741824 := fun i hi => by
    obtain ⟨q1, q2, _⟩ := fvalid_bd (hfv i (by omega))
    exact ⟨q1, q2⟩
  obtain ⟨e1, e2⟩ := sA_spec xs ps L (fun i hi => by have := hbd i hi; omega)
  have HVO : Hid (∀ p q c, ValOf (sA xs ps L).1 (sA xs ps L).2.1 (sA xs ps L).2.2 p q c → ValueOf kind tt xs ps p q c 0) := fun p q c hv => by
    refine .inr ⟨h0, rfl, ?_⟩
    rcases hv with k | ⟨k1, k2, k3⟩
    · exact .inl k
    · refine .inr ⟨k1, k2, ?_⟩
      rw [e1, e2, hL] at k3
      exact k3
  have hva := fun W v (hv : SumAt W W.heap.size v (4 * L + 1) (sA xs ps L).1 (sA xs ps L).2.1 (sA xs ps L).2.2 (densOf ps L)) => val_any W.heap.size (4 * L + 1) _ _ _ L (densOf ps L) v (by omega) (by simp [densOf]) l12 (fun i hi => by rw [nth_dens _ _ _ hi]; exact hbd i hi) (pD_sA xs ps L L (Nat.le_refl _)) W hv
  have hvb := fun W base v (hv : SumAt W base v (4 * L + 1) (sA xs ps L).1 (sA xs ps L).2.1 (sA xs ps L).2.2 (densOf ps L)) => val_any base (4 * L + 1) _ _ _ L (densOf ps L) v (by omega) (by simp [densOf]) l12 (fun i hi => by rw [nth_dens _ _ _ hi]; exact hbd i hi) (pD_sA xs ps L L (Nat.le_refl _)) W hv
  have HVB := Lib.hid hvb
  have HX := Lib.hid h
  have HP := Lib.hid hp
  have H1 := Lib.hid h0
  have H2 := Lib.hid z0
  have HL := Lib.hid hL
  have HL' := Lib.hid hL'
  have HA : Hid (∀ i, i < L → inB (nth xs i) = true) := by rw [hL]; exact hall
  have HF : Hid (∀ i, i < L → fvalid (fnum ps i) (fden ps i) = true) := fun i hi => hfv i (by omega)
  have HLE := Lib.hid lle
  clear h hp h0 z0 z1 z2 hL hL' hall hfv hle hbad hin n0 n12 lle hva hvb hbd e1 e2 hk
  go_enter Try.func11, Try.ntmps11
  go_wp2_with fail
  refine (checkat_any A A' xs ps L c L' c' kind tt HL.out HL'.out _ (HX.out.below (by go_grown)) (HP.out.below (by go_grown))).mono ?_
  rw [H1.out, H2.out]
  rintro e w1 ⟨rfl, hb1⟩
  have V1 := Lib.hid ((((HB.new w 24 #[.slice A L c, .int .i64 kind, .int .i64 tt]).alloc _).alloc _).below hb1)
  have F1 := Lib.hid (((HB.new1 w (.cells #[.slice A L c, .int .i64 kind, .int .i64 tt] 24) 27 #[.int .i64 0, .int .i64 0]).alloc _).below hb1)
  have E1 := Lib.hid ((HB.new2 w (.cells #[.slice A L c, .int .i64 kind, .int .i64 tt] 24) (.cells #[.int .i64 0, .int .i64 0] 27) 29 #[.int .i64 0, .int .i64 0]).below hb1)
  have G1 : Hid (Below w.heap.size w w1) := below_after (by go_grown) hb1
  obtain ⟨x0, x1, x2, _⟩ := HB.row' V1.out
  have l0 := V1.out.lt
  have G1' : Hid (Below w.heap.size w (w1.alloc (.cells #[.int .i64 0, .int .i64 0] 29))) := G1.out.alloc (by omega) _
  clear hb1
  go_wp2_with fail
  refine (sumat_any A A' xs ps L c L' c' kind tt HL.out HLE.out l12 HL'.out (w1.alloc (.cells #[.int .i64 0, .int .i64 0] 29)) (HX.out.below G1'.out) (HP.out.below G1'.out) HA.out HF.out).mono ?_
  rintro e w2 ⟨v2, rfl, hs2, hb2⟩
  have S2 := Lib.hid hs2
  have F2 := Lib.hid ((F1.out.alloc _).below hb2)
  have E2 := Lib.hid ((E1.out.alloc _).below hb2)
  have G2 := Lib.hid (bw_below (Nat.le_refl _) G1'.out hb2)
  clear hs2 hb2 x0 x1 x2 l0
  go_wp2_with fail
  refine (HVB.out _ _ v2 S2.out).mono ?_
  rintro e w3 ⟨p, q, cc, rfl, hv, hb3⟩
  have HV := Lib.hid (HVO.out p q cc hv)
  have F3 := F2.out.below hb3
  have E3 := E2.out.below hb3
  have G3 := Lib.hid (bw_below (Nat.le_refl _) G2.out hb3)
  obtain ⟨y0, y1, y2, y3⟩ := HB.two F3
  obtain ⟨z0, z1, z2, z3⟩ := HB.two E3
  have l1 := F3.lt
  have l2 := E3.lt
  clear hv hb3 F3 E3
  go_wp2
  refine bodyPost_ret (v := .tuple #[.agg #[.int .i64 p, .int .i64 q], .agg #[.int .i64 cc, .int .i64 0]]) (by simp [results, Try.results11, go_sem, y0, y1, z0, z1]) rfl ⟨p, q, cc, 0, rfl, HV.out, ?_⟩
  exact bw_far (g := w.heap.size + 1 + 1) (bw_far (g := w.heap.size + 1) G3.out (by omega) (far2 _ _ _ _)) (by omega) (far2 _ _ _ _)
theorem value_any (A A' : Option Addr) (xs : List Int) (ps : List (Int × Int)) (L c L' c' : Nat) (kind tt : Int) (hL : L = xs.length) (hL' : L' = ps.length) (w : World) (h : Is w A xs) (hp : Fs w A' ps) :
    Calls Try.prog 11 #[.agg #[.slice A L c, .int .i64 kind, .int .i64 tt], .slice A' L' c'] w (GivesRVl kind tt xs ps w) := by
  by_cases h0 : atC kind tt xs ps = 0
  · exact value_good A A' xs ps L c L' c' kind tt hL hL' w h hp h0
  · exact value_bad A A' xs ps L c L' c' kind tt hL hL' w h hp _ _ rfl rfl h0
end Go.Proofs.Ytkjollifghmkbaa
namespace Go.Proofs.Ytkjollifghmkbaa
open Go.RowKit

theorem vmade_wide {num' den : Int} (hd : den ≠ 0) {N D : Nat} (hN : mag num' / Nat.gcd (mag num') (mag den) = N) (hD : mag den / Nat.gcd (mag num') (mag den) = D) :
    ofN (qsign (decide (num' < 0)) (decide (den < 0)) N) N D = madeN num' den ∧ ofD N D = madeD num' den ∧ wideC N D = madeC num' den := by
  unfold madeN madeD madeC ofN ofD wideC
  rw [if_neg hd, if_neg hd, if_neg hd, hN, hD]
  by_cases h : 1073741824 < N ∨ 1073741824 < D
  · have hk : ofK N D = false := by unfold ofK; simp; omega
    rw [hk, if_pos h, if_pos h, if_pos h]
    simp
  · have hk : ofK N D = true := by unfold ofK; simp; omega
    rw [hk, if_neg h, if_neg h, if_neg h]
    refine ⟨?_, rfl, rfl⟩
    simp only [if_true]
    by_cases hs : (decide (num' < 0) == decide (den < 0)) = true
    · rw [if_pos hs]
      have e : qsign (decide (num' < 0)) (decide (den < 0)) N = false := by
        unfold qsign
        have : (decide (num' < 0) != decide (den < 0)) = false := by simp only [bne, hs]; rfl
        rw [this]; rfl
      rw [e]; simp [num]
    · rw [if_neg hs]
      have hs' : (decide (num' < 0) != decide (den < 0)) = true := by
        have : (decide (num' < 0) == decide (den < 0)) = false := by simpa using hs
        simp only [bne, this]; rfl
      unfold qsign
      rw [hs']
      by_cases z : N = 0
      · simp [num, z]
      · simp [num, z]

theorem red_made {P Q : Int} (hQ : Q ≠ 0) (hc : madeC P Q = 0) : redN P Q = madeN P Q ∧ (redD P Q : Int) = madeD P Q := by
  obtain ⟨h1, h2, _⟩ := vmade_wide (num' := P) hQ rfl rfl
  obtain ⟨v, _⟩ := made_spec hQ hc
  obtain ⟨v1, _⟩ := fvalid_bd v
  have hk : ofK (mag P / Nat.gcd (mag P) (mag Q)) (mag Q / Nat.gcd (mag P) (mag Q)) = true := by
    cases e : ofK (mag P / Nat.gcd (mag P) (mag Q)) (mag Q / Nat.gcd (mag P) (mag Q)) with
    | true => rfl
    | false =>
      rw [(of_no (s := false) e).2] at h2
      omega
  rw [(of_yes hk).1] at h1
  rw [(of_yes (s := false) hk).2] at h2
  exact ⟨h1, h2⟩
theorem of_made {P Q : Int} (hQ : Q ≠ 0) {N D : Nat} {s : Bool} (hN : mag P / Nat.gcd (mag P) (mag Q) = N) (hD : mag Q / Nat.gcd (mag P) (mag Q) = D) (hs : qsign (decide (P < 0)) (decide (Q < 0)) N = s) (hk : ofK N D = true) :
    fvalid (ofN s N D) (ofD N D) = true ∧ ofN s N D * Q = P * ofD N D := by
  obtain ⟨h1, h2, h3⟩ := vmade_wide (num' := P) hQ hN hD
  rw [hs] at h1
  have hc : madeC P Q = 0 := by
    rw [← h3]
    unfold wideC
    rw [if_pos hk]
  rw [h1, h2]
  exact made_spec hQ hc
theorem sum_lin (xs : List Int) (ps qs ss : List (Int × Int)) (k : Nat) (h : ∀ i, i < k → fnum ss i * (fden ps i * fden qs i) = (fnum ps i * fden qs i + fnum qs i * fden ps i) * fden ss i) :
    dS xs ss k * (dD ps k * dD qs k) = (dS xs ps k * dD qs k + dS xs qs k * dD ps k) * dD ss k := by
  induction k with
  | zero => simp [dS, dD]
  | succ k ih =>
    have i1 := ih (fun i hi => h i (by omega))
    have i2 := h k (by omega)
    have u : ∀ r : List (Int × Int), dS xs r (k + 1) = dS xs r k * fden r k + dD r k * (nth xs k * fnum r k) ∧ dD r (k + 1) = dD r k * fden r k := fun r => ⟨rfl, rfl⟩
    rw [(u ps).1, (u ps).2, (u qs).1, (u qs).2, (u ss).1, (u ss).2]
    clear u ih h
    generalize dS xs ss k = C at *
    generalize dS xs ps k = A at *
    generalize dS xs qs k = B at *
    generalize dD ss k = F at *
    generalize dD ps k = D at *
    generalize dD qs k = E at *
    generalize fnum ss k = sn at *
    generalize fnum ps k = pn at *
    generalize fnum qs k = qn at *
    generalize fden ss k = sd at *
    generalize fden ps k = pd at *
    generalize fden qs k = qd at *
    generalize nth xs k = x at *
    have j1 : C * (D * E) * (sd * pd * qd) = (A * E + B * D) * F * (sd * pd * qd) := by rw [i1]
    have j2 : sn * (pd * qd) * (F * x * D * E) = (pn * qd + qn * pd) * sd * (F * x * D * E) := by rw [i2]
    clear i1 i2
    grind
theorem val_sum {A B C D E F an ad bn bd cn cd : Int} (hD : 0 < D) (hE : 0 < E) (hF : 0 < F) (ha : an * D = A * ad) (hb : bn * E = B * bd) (hc : cn * F = C * cd) (h : C * (D * E) = (A * E + B * D) * F) :
    cn * (ad * bd) = (an * bd + bn * ad) * cd := by
  have hz : D * E * F ≠ 0 := Int.mul_ne_zero (Int.mul_ne_zero (by omega) (by omega)) (by omega)
  apply Int.eq_of_mul_eq_mul_right hz
  have e1 : cn * (ad * bd) * (D * E * F) = (cn * F) * (ad * bd * D * E) := by grind
  have e2 : C * cd * (ad * bd * D * E) = C * (D * E) * (cd * ad * bd) := by grind
  have e3 : (A * E + B * D) * F * (cd * ad * bd) = (A * ad) * (E * F * cd * bd) + (B * bd) * (D * F * cd * ad) := by grind
  rw [e1, hc, e2, h, e3, ← ha, ← hb]
  grind
end Go.Proofs.Ytkjollifghmkbaa
