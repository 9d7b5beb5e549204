/-
  The reference's values of whole numbers and of Bools.
  Asks: how many kids a node has, and which, by the reference.
-/
import Derived.Test.YtaodebpogibimaaGreatG07
import Derived.Test.YtaodebpogibimaaGreatAskV
import Derived.Test.YtaodebpogibimaaGreatAskR
namespace Go.Proofs.YtaodebpogibimaaGreat
open Go.RowKit

theorem wholevalue_any (n : Int) (w : World) : Calls Tryz.prog 52 #[.int .i64 n] w fun e w' => e = .returned (.agg #[.int .i64 n, .int .i64 1, .slice none 0 0, .int .i64 0]) ∧ Below w.heap.size w w' := by
  go_enter Tryz.func52, Tryz.ntmps52
  go_wp2_with fail
  exact bodyPost_ret (v := .agg #[.int .i64 n, .int .i64 1, .slice none 0 0, .int .i64 0]) (by simp [results, Tryz.results52, go_sem]) rfl ⟨rfl, by go_grown⟩
theorem bit_true (w : World) : Calls Tryz.prog 48 #[.bool true] w fun e w' => e = .returned (.agg #[.int .i64 1, .int .i64 1, .slice none 0 0, .int .i64 0]) ∧ Below w.heap.size w w' := by
  have XW := Lib.hid wholevalue_any
  go_enter Tryz.func48, Tryz.ntmps48
  go_wp2_with fail
  refine (XW.out _ _).mono ?_
  rintro e w1 ⟨rfl, hb⟩
  have N1 := Lib.hid ((HB.new w 47 #[.int .i64 0, .int .i64 0, .slice none 0 0, .int .i64 0]).below hb)
  have B1 := below_after (new_below w (.cells #[.int .i64 0, .int .i64 0, .slice none 0 0, .int .i64 0] 47)) hb
  obtain ⟨r0, r1, r2, r3, y0, y1, y2, y3⟩ := N1.out.four
  have P := hb_set4 (n := .int .i64 1) (d := .int .i64 1) (e := .slice none 0 0) (f := .int .i64 0) N1.out
  obtain ⟨z0, z1, z2, z3, -⟩ := P.four
  have FIN := Lib.hid (bw_far B1 (Nat.le_refl _) (far4 w1 w.heap.size (.int .i64 1) (.int .i64 1) (.slice none 0 0) (.int .i64 0)))
  clear P B1 hb
  go_wp2_with fail
  exact bodyPost_ret (v := .agg #[.int .i64 1, .int .i64 1, .slice none 0 0, .int .i64 0]) (by simp [results, Tryz.results48, go_sem, z0, z1, z2, z3]) rfl ⟨rfl, FIN.out⟩
theorem bit_false (w : World) : Calls Tryz.prog 48 #[.bool false] w fun e w' => e = .returned (.agg #[.int .i64 0, .int .i64 1, .slice none 0 0, .int .i64 0]) ∧ Below w.heap.size w w' := by
  have XW := Lib.hid wholevalue_any
  go_enter Tryz.func48, Tryz.ntmps48
  go_wp2_with fail
  refine (XW.out _ _).mono ?_
  rintro e w1 ⟨rfl, hb⟩
  have N1 := Lib.hid ((HB.new w 47 #[.int .i64 0, .int .i64 0, .slice none 0 0, .int .i64 0]).below hb)
  have B1 := below_after (new_below w (.cells #[.int .i64 0, .int .i64 0, .slice none 0 0, .int .i64 0] 47)) hb
  obtain ⟨r0, r1, r2, r3, y0, y1, y2, y3⟩ := N1.out.four
  have P := hb_set4 (n := .int .i64 0) (d := .int .i64 1) (e := .slice none 0 0) (f := .int .i64 0) N1.out
  obtain ⟨z0, z1, z2, z3, -⟩ := P.four
  have FIN := Lib.hid (bw_far B1 (Nat.le_refl _) (far4 w1 w.heap.size (.int .i64 0) (.int .i64 1) (.slice none 0 0) (.int .i64 0)))
  clear P B1 hb
  go_wp2_with fail
  exact bodyPost_ret (v := .agg #[.int .i64 0, .int .i64 1, .slice none 0 0, .int .i64 0]) (by simp [results, Tryz.results48, go_sem, z0, z1, z2, z3]) rfl ⟨rfl, FIN.out⟩
theorem bitvalue_any (b : Bool) (w : World) : Calls Tryz.prog 48 #[.bool b] w fun e w' => e = .returned (.agg #[.int .i64 (if b = true then 1 else 0), .int .i64 1, .slice none 0 0, .int .i64 0]) ∧ Below w.heap.size w w' := by
  cases b with
  | true => exact bit_true w
  | false => exact bit_false w
end Go.Proofs.YtaodebpogibimaaGreat
namespace Go.Proofs.YtaodebpogibimaaGreat
open Go.RowKit

/-- Does the list of letters end in a star? -/
def stB (s : ByteArray) : Bool := decide (0 < s.size) && (bs s (s.size - 1) == 42)
theorem wt_star {op : Int} (h1 : 1 ≤ op) (h2 : op ≤ 25) (h9 : op ≠ 9) : (stB (wtB op) = true ∧ kcN op = -1) ∨ (stB (wtB op) = false ∧ kcN op = ((wtB op).size : Int)) := by
  rcases op_cases h1 h2 with rfl | rfl | rfl | rfl | rfl | rfl | rfl | rfl | rfl | rfl | rfl | rfl | rfl | rfl | rfl | rfl | rfl | rfl | rfl | rfl | rfl | rfl | rfl | rfl | rfl <;> first | exact absurd rfl h9 | (left; decide) | (right; decide)
theorem wt_small {op : Int} (h1 : 1 ≤ op) (h2 : op ≤ 25) : (wtB op).size ≤ 3 := by
  rcases op_cases h1 h2 with rfl | rfl | rfl | rfl | rfl | rfl | rfl | rfl | rfl | rfl | rfl | rfl | rfl | rfl | rfl | rfl | rfl | rfl | rfl | rfl | rfl | rfl | rfl | rfl | rfl <;> decide
/-- What is wrong with a node's kids: how many there are, and which. -/
def kdC (qs : List Dc) (q : Nd) (i : Nat) : Int :=
  if 8 < q.kids.length ∨ (kWant qs q ≠ -1 ∧ (q.kids.length : Int) ≠ kWant qs q) then 9 else if kIn i q.kids = false then 3 else 0
theorem kin_not {i : Nat} {ks : List Int} {j : Nat} (hj : j < ks.length) (h : nth ks j < 0 ∨ (i : Int) ≤ nth ks j) : kIn i ks = false := by
  unfold kIn
  exact not_all hj (by simp; omega)
theorem kin_all {i : Nat} {ks : List Int} (h : ∀ j, j < ks.length → 0 ≤ nth ks j ∧ nth ks j < i) : kIn i ks = true := by
  unfold kIn
  exact all_of fun j hj => by simpa using h j hj
set_option maxHeartbeats 8000000 in
theorem kidsfault_any (qs : List Dc) (ns : List Nd) (Ad An Ah : Option Addr) (dc nc hL hc i : Nat) (hq : qs.length ≤ maxLen) (hi : i < ns.length) (_hnl : ns.length ≤ maxLen)
    (w : World) (hd : DsAt w Ad qs) (hn : NsAt w An ns) (ho1 : 1 ≤ (nn ns i).op) (ho2 : (nn ns i).op ≤ 25) (ho9 : (nn ns i).op = 9 → ¬ fdZ qs (nn ns i).name < 0) :
    Calls Tryz.prog 45 #[.agg #[.slice Ad qs.length dc, .slice An ns.length nc, .slice Ah hL hc], .int .i64 i] w fun e w' => e = .returned (.int .i64 (kdC qs (nn ns i) i)) ∧ Below w.heap.size w w' := by
  obtain ⟨bn, on, A', c', rfl, hb, c0, c1, c2, c3, c4, hns, ha, hx⟩ := ns_at hn hi
  have HD := Lib.hid hd
  have HX := Lib.hid hx
  have HDEC := Lib.hid (fun (W : World) (n : Nat) (hW : DsAt W Ad qs) => declof_any qs Ad dc (nn ns i).name hq (W.drewN n) hW)
  have HDA := Lib.hid (fun (W : World) (hW : DsAt W Ad qs) (z : fdI qs (nn ns i).name < qs.length) => ds_at hW z)
  unfold maxLen at ha _hnl hq
  have HND : Hid (kdC qs (nn ns i) i = if 8 < (nn ns i).kids.length ∨ (kWant qs (nn ns i) ≠ -1 ∧ ((nn ns i).kids.length : Int) ≠ kWant qs (nn ns i)) then 9 else if kIn i (nn ns i).kids = false then 3 else 0) := Lib.hid rfl
  have HKW : Hid (kWant qs (nn ns i) = if (nn ns i).op = 9 then ((dn qs (fdI qs (nn ns i).name)).args.length : Int) else kcN (nn ns i).op) := Lib.hid rfl
  clear hn hd hx hns
  generalize hkc : kdC qs (nn ns i) i = C at *
  generalize hkw : kWant qs (nn ns i) = kw at *
  clear hkc hkw
  generalize (nn ns i).op = op at *
  generalize (nn ns i).kids = ks at *
  generalize (nn ns i).n = nv at *
  generalize (nn ns i).d = dv at *
  generalize (nn ns i).name = nm at *
  generalize hkl : ks.length = kl at *
  generalize ns.length = nl at *
  generalize hql : qs.length = ql at *
  have HQL := Lib.hid hql
  have HKL := Lib.hid hkl
  clear hql hkl
  have N26 : Hid (HB ((w.alloc (.cells #[.slice Ad ql dc, .slice (some ⟨bn, on, none⟩) nl nc, .slice Ah hL hc] 26)).alloc (.cells #[.int .i64 op, .slice A' kl c', .int .i64 nv, .int .i64 dv, .string nm] 56)) w.heap.size 26 #[.slice Ad ql dc, .slice (some ⟨bn, on, none⟩) nl nc, .slice Ah hL hc]) := Lib.hid ((HB.new _ _ _).alloc _)
  have N8 : Hid (HB ((w.alloc (.cells #[.slice Ad ql dc, .slice (some ⟨bn, on, none⟩) nl nc, .slice Ah hL hc] 26)).alloc (.cells #[.int .i64 op, .slice A' kl c', .int .i64 nv, .int .i64 dv, .string nm] 56)) (w.heap.size + 1) 56 #[.int .i64 op, .slice A' kl c', .int .i64 nv, .int .i64 dv, .string nm]) := Lib.hid (HB.new1 _ _ _ _)
  have GX : Hid (Below w.heap.size w ((w.alloc (.cells #[.slice Ad ql dc, .slice (some ⟨bn, on, none⟩) nl nc, .slice Ah hL hc] 26)).alloc (.cells #[.int .i64 op, .slice A' kl c', .int .i64 nv, .int .i64 dv, .string nm] 56))) := Lib.hid (by go_grown)
  by_cases h8 : 8 < kl
  · rw [if_pos (.inl h8)] at HND
    clear N26 N8
    go_enter Tryz.func45, Tryz.ntmps45
    go_wp2_with fail
    go_ret
    rw [HND.out]
    exact ⟨rfl, GX.out⟩
  · by_cases h9 : op = 9
    · have t9 : (op == 9) = true := by simpa using h9
      rw [if_pos h9] at HKW
      have hf := ho9 h9
      have hlt : fdI qs nm < ql := by
        rw [← HQL.out]
        rcases Nat.lt_or_ge (fdI qs nm) qs.length with z | z
        · exact z
        · exfalso; apply hf; unfold fdZ; rw [if_neg (by omega)]; decide
      have HZ : Hid (fdZ qs nm = (fdI qs nm : Int)) := Lib.hid (by unfold fdZ; rw [if_pos (by rw [HQL.out]; exact hlt)])
      have HDB := Lib.hid (fun W (h : DsAt W Ad qs) => HDA.out W h hlt)
      have HDQ := Lib.hid (fun (W : World) (n : Nat) (hW : DsAt W Ad qs) => ((HDEC.out W n hW).mono fun e w' ⟨h1, h2⟩ => ⟨by rw [h1, HZ.out], h2.symm⟩ : Calls Tryz.prog 44 #[.slice Ad ql dc, .string nm] (W.drewN n) fun e w' => e = .returned (.int .i64 (fdI qs nm : Nat)) ∧ w' = W.drewN n))
      have hk1 := HKW.out
      subst hk1
      clear HKW HDA HDEC HZ hf ho9 h9
      generalize fdI qs nm = f at *
      obtain ⟨bd, od, A2, c2', rfl, hbd, e0, e1, e2, _, hal, _⟩ := HDB.out _ (HD.out.below GX.out)
      unfold maxLen at hal
      have HDR := Lib.hid (fun n => HDQ.out _ n (HD.out.below GX.out))
      clear HDB HDQ
      generalize (dn qs f).args.length = al at *
      generalize (dn qs f).sort = ds at *
      generalize (dn qs f).name = nm2 at *
      go_enter Tryz.func45, Tryz.ntmps45
      go_wp2_with fail
      obtain ⟨y0, y1, y2, _⟩ := N26.out.three
      obtain ⟨x0, x1, x2, x3, x4⟩ := ag5 N8.out
      have lx := N8.out.lt
      go_quiet ((go_at_call 44; exact Calls.quiet_of_same (HDR.out _)))
      have GY : Hid (Below w.heap.size w (((w.alloc (.cells #[.slice (some ⟨bd, od, none⟩) ql dc, .slice (some ⟨bn, on, none⟩) nl nc, .slice Ah hL hc] 26)).alloc (.cells #[.int .i64 op, .slice A' kl c', .int .i64 nv, .int .i64 dv, .string nm] 56)).drewN nq)) := Lib.hid (below_dn GX.out _)
      have N9 : Hid (HB (((w.alloc (.cells #[.slice (some ⟨bd, od, none⟩) ql dc, .slice (some ⟨bn, on, none⟩) nl nc, .slice Ah hL hc] 26)).alloc (.cells #[.int .i64 op, .slice A' kl c', .int .i64 nv, .int .i64 dv, .string nm] 56)).drewN nq) (w.heap.size + 1) 56 #[.int .i64 op, .slice A' kl c', .int .i64 nv, .int .i64 dv, .string nm]) := Lib.hid (N8.out.drewN _)
      clear GX N8 N26 HDR x0 x1 x2 x3 x4 y0 y1 y2 lx e0 e1 e2 hbd
      generalize ((w.alloc (.cells #[.slice (some ⟨bd, od, none⟩) ql dc, .slice (some ⟨bn, on, none⟩) nl nc, .slice Ah hL hc] 26)).alloc (.cells #[.int .i64 op, .slice A' kl c', .int .i64 nv, .int .i64 dv, .string nm] 56)).drewN nq = wx at *
      by_cases hn : (kl : Int) = al
      · rw [if_neg (by rintro (z | z); exact h8 z; exact z.2 hn)] at HND
        have te : ((kl : Int) != (al : Int)) = false := by simpa using hn
        clear hn
        go_wp2_with fail
        go_loopw [9] (fun k wr => ∃ j : Nat, j ≤ kl ∧ k = .int .i64 j ∧ Hid (∀ m, m < j → 0 ≤ nth ks m ∧ nth ks m < i) ∧ Hid (wx = wr)) (fun k _ => kl - (intOf k).toNat)
        case atStart => exact ⟨0, by omega, rfl, fun m hm => absurd hm (by omega), rfl⟩
        case round =>
          obtain ⟨j, hj, rfl, HP, HW⟩ := hrel
          have HW2 := HW.out
          subst HW2
          obtain ⟨x0, x1, x2, x3, x4⟩ := ag5 N9.out
          have lx := N9.out.lt
          by_cases hlt : j < kl
          · obtain ⟨bk, ok, rfl, hbk, z0⟩ := is_at (i := j) (HX.out.below GY.out) (by rw [HKL.out]; exact hlt)
            have t3 : decide ((j : Int) < kl) = true := by simpa using hlt
            by_cases hz1 : nth ks j < 0
            · have u1 : decide (nth ks j < 0) = true := by simpa using hz1
              rw [if_pos (kin_not (by rw [HKL.out]; exact hlt) (.inl hz1))] at HND
              clear hz1
              go_wp2_with fail
              go_ret
              rw [HND.out]
              exact ⟨rfl, GY.out⟩
            · have u1 : decide (nth ks j < 0) = false := by simpa using hz1
              by_cases hz2 : (i : Int) ≤ nth ks j
              · have u2 : decide ((i : Int) ≤ nth ks j) = true := by simpa using hz2
                rw [if_pos (kin_not (by rw [HKL.out]; exact hlt) (.inr hz2))] at HND
                clear hz1 hz2
                go_wp2_with fail
                go_ret
                rw [HND.out]
                exact ⟨rfl, GY.out⟩
              · have u2 : decide ((i : Int) ≤ nth ks j) = false := by simpa using hz2
                have HZZ := Lib.hid (show 0 ≤ nth ks j ∧ nth ks j < i by omega)
                clear hz1 hz2
                go_wp2_with fail
                go_round
                case rel => exact ⟨j + 1, by omega, by go_num, fun m hm => by
                  rcases Nat.lt_or_ge m j with z | z
                  · exact HP.out m z
                  · obtain rfl : m = j := by omega
                    exact HZZ.out, Lib.hid (by trivial)⟩
                case measure => simp [intOf]; omega
          · obtain rfl : j = kl := by omega
            have t3 : decide ((j : Int) < j) = false := by simp
            rw [if_neg (by rw [kin_all (fun m hm => HP.out m (by rw [HKL.out] at hm; exact hm))]; decide)] at HND
            clear hlt
            go_wp2_with fail
            go_ret
            rw [HND.out]
            exact ⟨rfl, GY.out⟩
      · rw [if_pos (.inr ⟨by omega, hn⟩)] at HND
        have te : ((kl : Int) != (al : Int)) = true := by simpa using hn
        clear hn
        go_wp2_with fail
        go_ret
        rw [HND.out]
        exact ⟨rfl, GY.out⟩
    · have t9 : (op == 9) = false := by simpa using h9
      rw [if_neg h9] at HKW
      have hk1 := HKW.out
      subst hk1
      have HWA := Lib.hid (fun W => wants_any op ho1 ho2 W)
      have HST := Lib.hid (wt_star ho1 ho2 h9)
      have hsm := wt_small ho1 ho2
      clear HKW HDA HDEC ho9 h9 ho1 ho2
      go_enter Tryz.func45, Tryz.ntmps45
      go_wp2_with fail
      refine (HWA.out _).mono ?_
      rintro e w1 ⟨rfl, hb1⟩
      have GY : Hid (Below w.heap.size w w1) := bw_below (Nat.le_refl _) GX.out hb1
      have N9 := Lib.hid (N8.out.below hb1)
      clear hb1 GX N8 N26 c0 c1 c2 c3 c4 hb HWA
      generalize wtB op = s at *
      generalize kcN op = kc at *
      generalize w1 = wx at *
      rcases HST.out with ⟨z1, z2⟩ | ⟨z1, z2⟩
      · subst z2
        rw [if_neg (by rintro (z | z); exact h8 z; exact z.1 rfl)] at HND
        have hs0 : 0 < s.size := by unfold stB at z1; simp at z1; omega
        have hsl : s.size - 1 < s.size := by omega
        have f1 : ((s[s.size - 1].toNat : Int) == 42) = true := by unfold stB at z1; rw [bs_of hsl]; simp at z1; simp [z1.2]
        clear HST z1
        go_wp2_with fail
        go_loopw [9] (fun k wr => ∃ j : Nat, j ≤ kl ∧ k = .int .i64 j ∧ Hid (∀ m, m < j → 0 ≤ nth ks m ∧ nth ks m < i) ∧ Hid (wx = wr)) (fun k _ => kl - (intOf k).toNat)
        case atStart => exact ⟨0, by omega, rfl, fun m hm => absurd hm (by omega), rfl⟩
        case round =>
          obtain ⟨j, hj, rfl, HP, HW⟩ := hrel
          have HW2 := HW.out
          subst HW2
          obtain ⟨x0, x1, x2, x3, x4⟩ := ag5 N9.out
          have lx := N9.out.lt
          by_cases hlt : j < kl
          · obtain ⟨bk, ok, rfl, hbk, z0⟩ := is_at (i := j) (HX.out.below GY.out) (by rw [HKL.out]; exact hlt)
            have t3 : decide ((j : Int) < kl) = true := by simpa using hlt
            by_cases hz1 : nth ks j < 0
            · have u1 : decide (nth ks j < 0) = true := by simpa using hz1
              rw [if_pos (kin_not (by rw [HKL.out]; exact hlt) (.inl hz1))] at HND
              clear hz1
              go_wp2_with fail
              go_ret
              rw [HND.out]
              exact ⟨rfl, GY.out⟩
            · have u1 : decide (nth ks j < 0) = false := by simpa using hz1
              by_cases hz2 : (i : Int) ≤ nth ks j
              · have u2 : decide ((i : Int) ≤ nth ks j) = true := by simpa using hz2
                rw [if_pos (kin_not (by rw [HKL.out]; exact hlt) (.inr hz2))] at HND
                clear hz1 hz2
                go_wp2_with fail
                go_ret
                rw [HND.out]
                exact ⟨rfl, GY.out⟩
              · have u2 : decide ((i : Int) ≤ nth ks j) = false := by simpa using hz2
                have HZZ := Lib.hid (show 0 ≤ nth ks j ∧ nth ks j < i by omega)
                clear hz1 hz2
                go_wp2_with fail
                go_round
                case rel => exact ⟨j + 1, by omega, by go_num, fun m hm => by
                  rcases Nat.lt_or_ge m j with z | z
                  · exact HP.out m z
                  · obtain rfl : m = j := by omega
                    exact HZZ.out, Lib.hid (by trivial)⟩
                case measure => simp [intOf]; omega
          · obtain rfl : j = kl := by omega
            have t3 : decide ((j : Int) < j) = false := by simp
            rw [if_neg (by rw [kin_all (fun m hm => HP.out m (by rw [HKL.out] at hm; exact hm))]; decide)] at HND
            clear hlt
            go_wp2_with fail
            go_ret
            rw [HND.out]
            exact ⟨rfl, GY.out⟩
      · subst z2
        by_cases hn : (kl : Int) = (s.size : Int)
        · rw [if_neg (by rintro (z | z); exact h8 z; exact z.2 hn)] at HND
          have te : ((kl : Int) != (s.size : Int)) = false := by simpa using hn
          by_cases hs0 : 0 < s.size
          · have hsl : s.size - 1 < s.size := by omega
            have f1 : ((s[s.size - 1].toNat : Int) == 42) = false := by unfold stB at z1; rw [bs_of hsl]; simp at z1; simpa using z1 hs0
            clear HST z1 hn
            go_wp2_with fail
            go_loopw [9] (fun k wr => ∃ j : Nat, j ≤ kl ∧ k = .int .i64 j ∧ Hid (∀ m, m < j → 0 ≤ nth ks m ∧ nth ks m < i) ∧ Hid (wx = wr)) (fun k _ => kl - (intOf k).toNat)
            case atStart => exact ⟨0, by omega, rfl, fun m hm => absurd hm (by omega), rfl⟩
            case round =>
              obtain ⟨j, hj, rfl, HP, HW⟩ := hrel
              have HW2 := HW.out
              subst HW2
              obtain ⟨x0, x1, x2, x3, x4⟩ := ag5 N9.out
              have lx := N9.out.lt
              by_cases hlt : j < kl
              · obtain ⟨bk, ok, rfl, hbk, z0⟩ := is_at (i := j) (HX.out.below GY.out) (by rw [HKL.out]; exact hlt)
                have t3 : decide ((j : Int) < kl) = true := by simpa using hlt
                by_cases hz1 : nth ks j < 0
                · have u1 : decide (nth ks j < 0) = true := by simpa using hz1
                  rw [if_pos (kin_not (by rw [HKL.out]; exact hlt) (.inl hz1))] at HND
                  clear hz1
                  go_wp2_with fail
                  go_ret
                  rw [HND.out]
                  exact ⟨rfl, GY.out⟩
                · have u1 : decide (nth ks j < 0) = false := by simpa using hz1
                  by_cases hz2 : (i : Int) ≤ nth ks j
                  · have u2 : decide ((i : Int) ≤ nth ks j) = true := by simpa using hz2
                    rw [if_pos (kin_not (by rw [HKL.out]; exact hlt) (.inr hz2))] at HND
                    clear hz1 hz2
                    go_wp2_with fail
                    go_ret
                    rw [HND.out]
                    exact ⟨rfl, GY.out⟩
                  · have u2 : decide ((i : Int) ≤ nth ks j) = false := by simpa using hz2
                    have HZZ := Lib.hid (show 0 ≤ nth ks j ∧ nth ks j < i by omega)
                    clear hz1 hz2
                    go_wp2_with fail
                    go_round
                    case rel => exact ⟨j + 1, by omega, by go_num, fun m hm => by
                      rcases Nat.lt_or_ge m j with z | z
                      · exact HP.out m z
                      · obtain rfl : m = j := by omega
                        exact HZZ.out, Lib.hid (by trivial)⟩
                    case measure => simp [intOf]; omega
              · obtain rfl : j = kl := by omega
                have t3 : decide ((j : Int) < j) = false := by simp
                rw [if_neg (by rw [kin_all (fun m hm => HP.out m (by rw [HKL.out] at hm; exact hm))]; decide)] at HND
                clear hlt
                go_wp2_with fail
                go_ret
                rw [HND.out]
                exact ⟨rfl, GY.out⟩
          · have f0 : decide (0 < s.size) = false := by simpa using hs0
            clear HST z1 hn
            go_wp2_with fail
            go_loopw [9] (fun k wr => ∃ j : Nat, j ≤ kl ∧ k = .int .i64 j ∧ Hid (∀ m, m < j → 0 ≤ nth ks m ∧ nth ks m < i) ∧ Hid (wx = wr)) (fun k _ => kl - (intOf k).toNat)
            case atStart => exact ⟨0, by omega, rfl, fun m hm => absurd hm (by omega), rfl⟩
            case round =>
              obtain ⟨j, hj, rfl, HP, HW⟩ := hrel
              have HW2 := HW.out
              subst HW2
              obtain ⟨x0, x1, x2, x3, x4⟩ := ag5 N9.out
              have lx := N9.out.lt
              by_cases hlt : j < kl
              · obtain ⟨bk, ok, rfl, hbk, z0⟩ := is_at (i := j) (HX.out.below GY.out) (by rw [HKL.out]; exact hlt)
                have t3 : decide ((j : Int) < kl) = true := by simpa using hlt
                by_cases hz1 : nth ks j < 0
                · have u1 : decide (nth ks j < 0) = true := by simpa using hz1
                  rw [if_pos (kin_not (by rw [HKL.out]; exact hlt) (.inl hz1))] at HND
                  clear hz1
                  go_wp2_with fail
                  go_ret
                  rw [HND.out]
                  exact ⟨rfl, GY.out⟩
                · have u1 : decide (nth ks j < 0) = false := by simpa using hz1
                  by_cases hz2 : (i : Int) ≤ nth ks j
                  · have u2 : decide ((i : Int) ≤ nth ks j) = true := by simpa using hz2
                    rw [if_pos (kin_not (by rw [HKL.out]; exact hlt) (.inr hz2))] at HND
                    clear hz1 hz2
                    go_wp2_with fail
                    go_ret
                    rw [HND.out]
                    exact ⟨rfl, GY.out⟩
                  · have u2 : decide ((i : Int) ≤ nth ks j) = false := by simpa using hz2
                    have HZZ := Lib.hid (show 0 ≤ nth ks j ∧ nth ks j < i by omega)
                    clear hz1 hz2
                    go_wp2_with fail
                    go_round
                    case rel => exact ⟨j + 1, by omega, by go_num, fun m hm => by
                      rcases Nat.lt_or_ge m j with z | z
                      · exact HP.out m z
                      · obtain rfl : m = j := by omega
                        exact HZZ.out, Lib.hid (by trivial)⟩
                    case measure => simp [intOf]; omega
              · obtain rfl : j = kl := by omega
                have t3 : decide ((j : Int) < j) = false := by simp
                rw [if_neg (by rw [kin_all (fun m hm => HP.out m (by rw [HKL.out] at hm; exact hm))]; decide)] at HND
                clear hlt
                go_wp2_with fail
                go_ret
                rw [HND.out]
                exact ⟨rfl, GY.out⟩
        · rw [if_pos (.inr ⟨by omega, hn⟩)] at HND
          have te : ((kl : Int) != (s.size : Int)) = true := by simpa using hn
          by_cases hs0 : 0 < s.size
          · have hsl : s.size - 1 < s.size := by omega
            have f1 : ((s[s.size - 1].toNat : Int) == 42) = false := by unfold stB at z1; rw [bs_of hsl]; simp at z1; simpa using z1 hs0
            clear HST z1 hn
            go_wp2_with fail
            go_ret
            rw [HND.out]
            exact ⟨rfl, GY.out⟩
          · have f0 : decide (0 < s.size) = false := by simpa using hs0
            clear HST z1 hn
            go_wp2_with fail
            go_ret
            rw [HND.out]
            exact ⟨rfl, GY.out⟩
end Go.Proofs.YtaodebpogibimaaGreat
