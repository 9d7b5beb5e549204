/-
  RowValue's walk: whatever the row and the points, true.
-/
import Derived.Test.YtkjollifghmkbaaRowVM
import Derived.Test.YtkjollifghmkbaaRowWhoA
namespace Go.Proofs.Ytkjollifghmkbaa
open Go.RowKit

/-- A fraction's wide one. -/
def RatMade (n : Int) (d : Nat) (w : World) (e : Ending) (w' : World) : Prop := e = .returned (.pointer (some ⟨w.heap.size + 1, 0, none⟩)) ∧ RV w' (w.heap.size + 1) n d ∧ Below w.heap.size w w'
theorem rat_any (n d : Int) (h : fvalid n d = true) (w : World) : Calls Try.prog 30 #[.agg #[.int .i64 n, .int .i64 d]] w (RatMade n (mag d) w) := by
  obtain ⟨h1, h2, h3, h4, hg⟩ := fvalid_bd h
  have HG := Lib.hid hg
  clear h hg
  go_enter Try.func30, Try.ntmps30
  go_wp2_with fail
  refine (newrat_z n d (by unfold mag; omega) (by omega) h2 HG.out _).mono ?_
  rintro en w1 ⟨rfl, hi, hb⟩
  have hi' : RV w1 (w.heap.size + 1) n (mag d) := by simpa using hi
  have HI := Lib.hid hi'
  clear hi hi'
  go_wp2
  go_ret
  exact ⟨rfl, HI.out, below_after (new_below w _) hb⟩
theorem val_cases {kind tt : Int} {xs : List Int} {ps : List (Int × Int)} {p q c i : Int} (h : ValueOf kind tt xs ps p q c i) :
    (c ≠ 0 ∧ p = 0 ∧ q = 0) ∨ (c = 0 ∧ atC kind tt xs ps = 0 ∧ fvalid p q = true ∧ p * dD ps xs.length = dS xs ps xs.length * q) := by
  rcases h with ⟨h1, h2, h3, h4, _⟩ | ⟨h1, _, ⟨h2, h3, h4⟩ | ⟨h2, h3, h4⟩⟩
  · exact .inl ⟨by rw [h4]; exact h1, h2, h3⟩
  · exact .inl ⟨by omega, h3, h4⟩
  · exact .inr ⟨h2, h1, h3, h4⟩
theorem mag_num (s : Bool) (n : Nat) : mag (num s n) = n := by cases s <;> simp [num, mag]
theorem red_fits {P Q : Int} (hQ : Q ≠ 0) (hk : ofK (mag (redN P Q)) (redD P Q) = true) : fvalid (redN P Q) (redD P Q) = true ∧ redN P Q * Q = P * redD P Q := by
  have e : mag (redN P Q) = mag P / Nat.gcd (mag P) (mag Q) := by unfold redN; rw [mag_num]
  rw [e] at hk
  have := of_made (D := redD P Q) hQ rfl rfl rfl hk
  rw [(of_yes hk).1, (of_yes (s := false) hk).2] at this
  exact this
/-- The sum of two fractions, not yet in lowest terms. -/
def sP (ps qs : List (Int × Int)) (j : Nat) : Int := fnum ps j * ((mag (fden qs j) : Nat) : Int) + fnum qs j * ((mag (fden ps j) : Nat) : Int)
def sQ (ps qs : List (Int × Int)) (j : Nat) : Int := ((mag (fden ps j) : Nat) : Int) * ((mag (fden qs j) : Nat) : Int)
def sumF (ps qs : List (Int × Int)) (j : Nat) : Int × Int := (redN (sP ps qs j) (sQ ps qs j), (redD (sP ps qs j) (sQ ps qs j) : Int))
def SumOk (ps qs : List (Int × Int)) (j : Nat) : Prop := fvalid (sumF ps qs j).1 (sumF ps qs j).2 = true ∧ (sumF ps qs j).1 * sQ ps qs j = sP ps qs j * (sumF ps qs j).2
def GivesOf (P Q : Int) (n d : Int) (k : Bool) : Prop := k = true → n = redN P Q ∧ d = (redD P Q : Int) ∧ fvalid n d = true ∧ n * Q = P * d
theorem fof_z (P Q : Int) (hP : mag P ≤ 18446744073709551615) (hQ : mag Q ≤ 18446744073709551615) (h0 : Q ≠ 0) : ∃ n d k, GivesOf P Q n d k ∧ ∀ (r : Nat) w, RV w r (redN P Q) (redD P Q) → Calls Try.prog 28 #[.pointer (some ⟨r, 0, none⟩)] w (GivesO n d k w) := by
  have gp : 0 < Nat.gcd (mag P) (mag Q) := Nat.gcd_pos_of_pos_right _ (by unfold mag; omega)
  have h1 : mag (redN P Q) ≤ 18446744073709551615 := by unfold redN; rw [mag_num]; exact Nat.le_trans (Nat.div_le_self _ _) hP
  have h2 : redD P Q ≤ 18446744073709551615 := Nat.le_trans (Nat.div_le_self _ _) hQ
  have h3 : redD P Q ≠ 0 := by
    have := Nat.div_pos (Nat.le_of_dvd (by unfold mag; omega) (Nat.gcd_dvd_right (mag P) (mag Q))) gp
    unfold redD; omega
  refine ⟨_, _, _, ?_, fun r w hw => fracof_any r (mag (redN P Q)) (redD P Q) (decide (redN P Q < 0)) h1 h2 h3 w ⟨hw.1, hw.2⟩⟩
  intro hk
  obtain ⟨v, e⟩ := red_fits h0 hk
  rw [(of_yes hk).1, (of_yes (s := false) hk).2, num_of]
  exact ⟨rfl, rfl, v, e⟩
theorem RHdr.drew {w : World} {r : Nat} (h : RHdr w r) : RHdr w.drew r := h
theorem rhdr_new1 (w : World) (o : Obj) : RHdr ((w.alloc o).alloc (.cells #[.bool false, .slice none 0 0, .bool false, .slice none 0 0] 57)) (w.heap.size + 1) := by simpa using rhdr_new (w.alloc o)
theorem red_eq {pa qa pb qb pc qc : Int} (va : fvalid pa qa = true) (vb : fvalid pb qb = true) (vc : fvalid pc qc = true) (h : pc * (qa * qb) = (pa * qb + pb * qa) * qc) :
    redN (pa * ((mag qb : Nat) : Int) + pb * ((mag qa : Nat) : Int)) (((mag qa : Nat) : Int) * ((mag qb : Nat) : Int)) = pc ∧ redD (pa * ((mag qb : Nat) : Int) + pb * ((mag qa : Nat) : Int)) (((mag qa : Nat) : Int) * ((mag qb : Nat) : Int)) = mag qc := by
  obtain ⟨a1, _⟩ := fvalid_bd va
  obtain ⟨b1, _⟩ := fvalid_bd vb
  obtain ⟨c1, _⟩ := fvalid_bd vc
  have m1 : ((mag qa : Nat) : Int) = qa := by unfold mag; omega
  have m2 : ((mag qb : Nat) : Int) = qb := by unfold mag; omega
  have m3 : ((mag qc : Nat) : Int) = qc := by unfold mag; omega
  rw [m1, m2]
  have hQ : qa * qb ≠ 0 := Int.mul_ne_zero (by omega) (by omega)
  obtain ⟨e1, e2, e3⟩ := made_of hQ vc h
  obtain ⟨f1, f2⟩ := red_made hQ e3
  exact ⟨f1.trans e1, by have := f2.trans e2; omega⟩
theorem sign_same (p d Q : Int) : signI (redN (p * d + -p * d) Q) = 0 := by
  have e : p * d + -p * d = 0 := by rw [Int.neg_mul]; omega
  rw [e]
  unfold redN
  have m : mag 0 = 0 := rfl
  rw [m, Nat.zero_div]
  cases qsign (decide ((0 : Int) < 0)) (decide (Q < 0)) 0 <;> rfl
theorem own_below2 {w w' : World} {base m sz : Nat} {e : TypeId} {v : Value} {xs : List Value} (h : w.ownsRow base e sz v m xs) (k : Below w.heap.size w w') : w'.ownsRow base e sz v m xs := by
  refine ⟨h.1, ?_⟩
  rcases h.2 with z | ⟨g, cap, cur, rfl, hb, hh, r⟩
  · exact .inl z
  · exact .inr ⟨g, cap, cur, rfl, hb, (k.block g (HB.lt hh)).trans hh, r⟩
theorem own_alloc2 {w : World} {base m sz : Nat} {e : TypeId} {v : Value} {xs : List Value} (h : w.ownsRow base e sz v m xs) (o : Obj) : (w.alloc o).ownsRow base e sz v m xs := own_below2 h (new_below w o)
def sumL (ps qs : List (Int × Int)) (n : Nat) : List (Int × Int) := (List.range n).map (sumF ps qs)
theorem sumL_nth (ps qs : List (Int × Int)) (j n : Nat) (h : j < n) : fnum (sumL ps qs n) j = (sumF ps qs j).1 ∧ fden (sumL ps qs n) j = (sumF ps qs j).2 := by
  simp [fnum, fden, sumL, List.getD, h]
theorem at_same {kind tt : Int} {xs : List Int} {ps ss : List (Int × Int)} (h : atC kind tt xs ps = 0) (hl : ss.length = ps.length) (hv : ∀ j, j < ss.length → fvalid (fnum ss j) (fden ss j) = true) : atC kind tt xs ss = 0 := by
  obtain ⟨_, h1, _⟩ := at_zero h
  unfold atC ptC
  rw [hl, if_pos h1, badF_none hv, if_neg (by omega)]
theorem val_sum_cases {kind tt : Int} {xs : List Int} {ps : List (Int × Int)} {p q c i : Int} (h : ValueOf kind tt xs ps p q c i) (h0 : atC kind tt xs ps = 0) :
    c = 10 ∨ (c = 0 ∧ fvalid p q = true ∧ p * dD ps xs.length = dS xs ps xs.length * q) := by
  rcases h with ⟨h1, _⟩ | ⟨_, _, ⟨h2, _⟩ | ⟨h2, h3, h4⟩⟩
  · exact absurd h0 h1
  · exact .inl h2
  · exact .inr ⟨h2, h3, h4⟩
theorem hb_set2 {w : World} {g : Nat} {t : TypeId} {a b n d : Value} (h : HB w g t #[a, b]) : HB ((w.setCell ⟨g, 0, none⟩ n).setCell ⟨g, 1, none⟩ d) g t #[n, d] := by
  have := (h.set_ 0 n).set_ 1 d
  simpa using this
theorem HB.ch_ {w w' : World} {g z : Nat} {t : TypeId} {cs : Array Value} (h : HB w g t cs) (c : Ch (fun x => x = z) w w') (hn : g ≠ z) : HB w' g t cs := (c.2.2.2.2.1 g h.lt hn).trans h
theorem at_valid {kind tt : Int} {xs : List Int} {ps : List (Int × Int)} (h : atC kind tt xs ps = 0) : ∀ i, i < ps.length → fvalid (fnum ps i) (fden ps i) = true := (pt_zero (at_zero h).2.2).2
set_option maxRecDepth 100000 in
set_option maxHeartbeats 30000000 in
theorem rowvalue_in (A A' A'' : Option Addr) (xs : List Int) (ps qs : List (Int × Int)) (L c L' c' c'' : Nat) (kind tt : Int) (hL : L = xs.length) (hp : L' = ps.length) (hq : L' = qs.length) (w : World) (h : Is w A xs) (h1 : Fs w A' ps) (h2 : Fs w A'' qs) :
    Calls Try.prog 9 #[.agg #[.slice A L c, .int .i64 kind, .int .i64 tt], .slice A' L' c', .slice A'' L' c''] w fun e w' => e = .returned (.bool true) ∧ Below w.heap.size w w' := by
  have hv1 := fun W (hW : Is W A xs) (hf : Fs W A' ps) => value_any A A' xs ps L c L' c' kind tt hL hp W hW hf
  have hv2 := fun W (hW : Is W A xs) (hf : Fs W A'' qs) => value_any A A'' xs qs L c L' c'' kind tt hL hq W hW hf
  have HV1 := Lib.hid hv1
  have HV2 := Lib.hid hv2
  have HX := Lib.hid h
  have HP := Lib.hid h1
  have HQ := Lib.hid h2
  have HL := Lib.hid hL
  have HLP := Lib.hid hp
  have HLQ := Lib.hid hq
  have dl : ((L' : Int) != L') = false := by simp
  clear hv1 hv2 h h1 h2 hL hp hq
  go_enter Try.func9, Try.ntmps9
  go_wp2_with fail
  refine (fact_any _).mono ?_
  rintro e w1 ⟨rfl, hb1⟩
  have R_1 := Lib.hid (((HB.new w 24 #[.slice A L c, .int .i64 kind, .int .i64 tt])).below hb1)
  have G_1 : Hid (Below w.heap.size w w1) := below_after (by go_grown) hb1
  clear hb1
  obtain ⟨R0_1, R1_1, R2_1, _, _, _⟩ := HB.row' R_1.out
  have Rl_1 := R_1.out.lt
  go_wp2_with fail
  refine (HV1.out _ (HX.out.below G_1.out) (HP.out.below G_1.out)).mono ?_
  rintro e w2 ⟨pa, qa, ca, ia, rfl, hva, hb2⟩
  have R_2 := Lib.hid (R_1.out.below hb2)
  have G_2 : Hid (Below w.heap.size w w2) := below_after (by have := G_1.out; have z := this.size; go_grown) hb2
  have HVA := Lib.hid hva
  clear hb2 hva R_1
  clear R0_1 R1_1 R2_1 Rl_1
  obtain ⟨R0_2, R1_2, R2_2, _, _, _⟩ := HB.row' R_2.out
  have Rl_2 := R_2.out.lt
  go_wp2_with fail
  refine (HV2.out _ (HX.out.below (by have := G_2.out; have z := this.size; go_grown)) (HQ.out.below (by have := G_2.out; have z := this.size; go_grown))).mono ?_
  rintro e w3 ⟨pb, qb, cb, ib, rfl, hvb, hb3⟩
  have R_3 := Lib.hid ((((R_2.out.alloc _).alloc _)).below hb3)
  have A_3 := Lib.hid ((((HB.new w2 27 #[.int .i64 pa, .int .i64 qa]).alloc _)).below hb3)
  have EA_3 := Lib.hid (((HB.new1 w2 _ 29 #[.int .i64 ca, .int .i64 ia])).below hb3)
  have G_3 : Hid (Below w.heap.size w w3) := below_after (by have := G_2.out; have z := this.size; go_grown) hb3
  have HVB := Lib.hid hvb
  clear hb3 hvb R_2
  clear R0_2 R1_2 R2_2 Rl_2
  obtain ⟨A0_3, A1_3, _, _⟩ := HB.two A_3.out
  have Al_3 := A_3.out.lt
  obtain ⟨EA0_3, EA1_3, _, _⟩ := HB.two EA_3.out
  have EAl_3 := EA_3.out.lt
  rcases val_cases HVA.out with ⟨k1, k2, k3⟩ | ⟨k1, k2, k3, k4⟩
  · have dd : (ca != 0) = true := by simpa using k1
    have dd2 : (ca == 0) = false := by simpa using k1
    subst k2
    subst k3
    clear k1
    go_wp2
    go_ret
    exact ⟨rfl, by have := G_3.out; have z := this.size; go_grown⟩
  · subst k1
    rcases val_cases HVB.out with ⟨m1, m2, m3⟩ | ⟨m1, m2, m3, m4⟩
    · have dd : (cb != 0) = true := by simpa using m1
      clear m1 k2 k3 k4 m2 m3
      go_wp2
      go_ret
      exact ⟨rfl, by have := G_3.out; have z := this.size; go_grown⟩
    · subst m1
      have KA := Lib.hid (show _ ∧ _ ∧ _ from ⟨k2, k3, k4⟩)
      have KB := Lib.hid (show _ ∧ _ ∧ _ from ⟨m2, m3, m4⟩)
      clear k2 k3 k4 m2 m3 m4 HVA HVB
      go_wp2_with fail
      generalize hw4 : (w3.alloc (.cells #[.int .i64 pb, .int .i64 qb] 27)).alloc (.cells #[.int .i64 0, .int .i64 ib] 29) = w4
      have hb4 : Below ((w3.alloc (.cells #[.int .i64 pb, .int .i64 qb] 27)).alloc (.cells #[.int .i64 0, .int .i64 ib] 29)).heap.size ((w3.alloc (.cells #[.int .i64 pb, .int .i64 qb] 27)).alloc (.cells #[.int .i64 0, .int .i64 ib] 29)) w4 := hw4 ▸ Below.refl _ _
      have R_4 := Lib.hid ((((R_3.out.alloc _).alloc _)).below hb4)
      have A_4 := Lib.hid ((((A_3.out.alloc _).alloc _)).below hb4)
      have EA_4 := Lib.hid ((((EA_3.out.alloc _).alloc _)).below hb4)
      have B_4 := Lib.hid ((((HB.new w3 27 #[.int .i64 pb, .int .i64 qb]).alloc _)).below hb4)
      have EB_4 := Lib.hid (((HB.new1 w3 _ 29 #[.int .i64 0, .int .i64 ib])).below hb4)
      have G_4 : Hid (Below w.heap.size w w4) := below_after (by have := G_3.out; have z := this.size; go_grown) hb4
      clear hb4 hw4 R_3 A_3 EA_3
      clear A0_3 A1_3 Al_3 EA0_3 EA1_3 EAl_3
      have HPV := Lib.hid (at_valid KA.out.1)
      have HQV := Lib.hid (at_valid KB.out.1)
      have l12 : L' ≤ 12 := by have := (at_pos KA.out.1).2.1; rw [← HLP.out] at this; exact this
      go_loopw [12, 13] (fun v k wr => ∃ (i : Nat) (A1 : Option Addr) (c1 : Nat), i ≤ L' ∧ k = .int .i64 i ∧ v = .slice A1 i c1 ∧ Hid (wr.ownsRow w4.heap.size 27 2 (.slice A1 i c1) i (fracV (sumF ps qs) i)) ∧ Hid (∀ j, j < i → SumOk ps qs j) ∧ Hid (Below w4.heap.size w4 wr)) (fun _ k _ => L' - (intOf k).toNat)
      case atStart => exact ⟨0, none, 0, by omega, rfl, rfl, own_nil2 _ _ _ _, fun j hj => by omega, Below.refl _ _⟩
      case round =>
        obtain ⟨i, A1, c1, hi, rfl, rfl, OW, OK, K4⟩ := hrel
        have GW : Hid (Below w.heap.size w wr) := bw_below (Nat.le_refl _) G_4.out K4.out
        by_cases hlt : i < L'
        · obtain ⟨b, o, rfl, hb, hc⟩ := (HP.out.below GW.out) (by rw [← HLP.out]; omega)
          obtain ⟨b', o', rfl, hb', hc'⟩ := (HQ.out.below GW.out) (by rw [← HLQ.out]; omega)
          obtain ⟨cn, cd⟩ := hc i (by rw [← HLP.out]; exact hlt)
          obtain ⟨cn', cd'⟩ := hc' i (by rw [← HLQ.out]; exact hlt)
          have vp := HPV.out i (by rw [← HLP.out]; exact hlt)
          have vq := HQV.out i (by rw [← HLQ.out]; exact hlt)
          obtain ⟨a1, a2, a3, a4, ga⟩ := fvalid_bd vp
          obtain ⟨b1, b2, b3, b4, gb⟩ := fvalid_bd vq
          have bu : mag (fnum ps i) ≤ 1073741824 := by unfold mag; omega
          have bv : mag (fnum qs i) ≤ 1073741824 := by unfold mag; omega
          have bp : mag (fden ps i) ≤ 1073741824 := by unfold mag; omega
          have bq : mag (fden qs i) ≤ 1073741824 := by unfold mag; omega
          have np : mag (fden ps i) ≠ 0 := by unfold mag; omega
          have nq : mag (fden qs i) ≠ 0 := by unfold mag; omega
          have mP : mag (sP ps qs i) ≤ 18446744073709551615 := by unfold sP; have := mag_add (fnum ps i * ((mag (fden qs i) : Nat) : Int)) (fnum qs i * ((mag (fden ps i) : Nat) : Int)); rw [wmag_mul, wmag_mul, mag_cast, mag_cast] at this; have := mul_small bu bq; have := mul_small bv bp; omega
          have mQ : mag (sQ ps qs i) ≤ 18446744073709551615 := by unfold sQ; rw [wmag_mul, mag_cast, mag_cast]; have := mul_small bp bq; omega
          have q0 : sQ ps qs i ≠ 0 := Int.mul_ne_zero (by omega) (by omega)
          have RA := Lib.hid (rat_any (fnum ps i) (fden ps i) vp)
          have RB := Lib.hid (rat_any (fnum qs i) (fden qs i) vq)
          have HC : Hid (∀ W, Below wr.heap.size wr W → W.cell? ⟨b, o + i * 2, none⟩ = some (.int .i64 (fnum ps i)) ∧ W.cell? ⟨b, o + i * 2 + 1, none⟩ = some (.int .i64 (fden ps i)) ∧ W.cell? ⟨b', o' + i * 2, none⟩ = some (.int .i64 (fnum qs i)) ∧ W.cell? ⟨b', o' + i * 2 + 1, none⟩ = some (.int .i64 (fden qs i))) := fun W hW => ⟨(hW.cell hb).trans cn, (hW.cell hb).trans cd, (hW.cell hb').trans cn', (hW.cell hb').trans cd'⟩
          have t1 : (0 : Int) ≤ i := by omega
          have t2 : (i : Int) < L' := by omega
          have t3 : decide (i < L') = true := by simpa using hlt
          clear hc hc' ga gb vp vq
          obtain ⟨n', d', k, hgo, hof⟩ := fof_z (sP ps qs i) (sQ ps qs i) mP mQ q0
          have GO := Lib.hid hgo
          have FO := Lib.hid hof
          clear hgo hof mP mQ q0
          go_wp2_with fail
          go_upto_region 15 with fail
          go_cut [14, 15] (fun s14 s15 wx => ∃ z : Nat, s14 = .pointer (some ⟨z, 0, none⟩) ∧ s15 = .bool k ∧ Hid (HB wx z 27 #[.int .i64 n', .int .i64 d']) ∧ Hid (Below wr.heap.size wr wx))
          case first =>
            go_region_held3 (fun W => W.cell? ⟨b, o + i * 2, none⟩ = some (.int .i64 (fnum ps i)) ∧ W.cell? ⟨b, o + i * 2 + 1, none⟩ = some (.int .i64 (fden ps i)) ∧ W.cell? ⟨b', o' + i * 2, none⟩ = some (.int .i64 (fnum qs i)) ∧ W.cell? ⟨b', o' + i * 2 + 1, none⟩ = some (.int .i64 (fden qs i)))
              (first | (refine HC.out _ ?_; go_grown; done) | (have y := K5.out; have z := y.size; refine HC.out _ ?_; go_grown; done) | (have y := K6.out; have z := y.size; refine HC.out _ ?_; go_grown; done) | (have y := K7.out; have z := y.size; refine HC.out _ ?_; go_grown; done) | (have y := K8.out; have z := y.size; refine HC.out _ ?_; go_grown; done) | (have y := K8.out; have z := y.size; have z5 := K5.out.size; have z6 := K6.out.size; have z7 := K7.out.size; refine HC.out _ ?_; go_grown; done))
              (first
                | (go_at_call 30; (with_reducible refine (RA.out _).mono ?_); rintro e w5 ⟨rfl, hi5, hb5⟩; have K5 := Lib.hid (below_after (show Below wr.heap.size wr _ by go_grown) hb5); (try simp at hi5); have HI5 := Lib.hid hi5; have LS5 := Lib.hid hb5.size; (first | (with_reducible have HZ5 := Lib.hid ((RHdr.drew (rhdr_new wr)).below hb5)) | (with_reducible have HZ5 := Lib.hid ((RHdr.drew ((rhdr_new wr).below (new_below _ (.cells #[.int .i64 0, .int .i64 0] 27)))).below hb5)) | (with_reducible have HZ5 := Lib.hid ((RHdr.drew (rhdr_new1 wr (.cells #[.int .i64 0, .int .i64 0] 27))).below hb5)) | skip); (first | (with_reducible have T5 := Lib.hid ((HB.drew (HB.new wr 27 #[.int .i64 0, .int .i64 0])).below hb5)) | (with_reducible have T5 := Lib.hid ((HB.drew ((HB.new wr 27 #[.int .i64 0, .int .i64 0]).alloc (.cells #[.bool false, .slice none 0 0, .bool false, .slice none 0 0] 57))).below hb5)) | (with_reducible have T5 := Lib.hid ((HB.drew (HB.new1 wr (.cells #[.bool false, .slice none 0 0, .bool false, .slice none 0 0] 57) 27 #[.int .i64 0, .int .i64 0])).below hb5)) | skip); clear hi5 hb5)
                | (go_at_call 30; (with_reducible refine (RB.out _).mono ?_); rintro e w6 ⟨rfl, hi6, hb6⟩; have K6 := Lib.hid (below_after (show Below wr.heap.size wr _ by (have := K5.out; have z := this.size; go_grown)) hb6); (try simp at hi6); have HI6 := Lib.hid hi6; have HI56 := Lib.hid ((HI5.out.below (by go_grown)).below hb6); have LS6 := Lib.hid hb6.size; (first | (with_reducible have HZ6 := Lib.hid (HZ5.out.below hb6)) | (with_reducible have HZ6 := Lib.hid ((HZ5.out.below (new_below _ (.cells #[.int .i64 0, .int .i64 0] 27))).below hb6)) | (with_reducible have HZ6 := Lib.hid ((rhdr_new w5).below hb6)) | (with_reducible have HZ6 := Lib.hid (((rhdr_new w5).below (new_below _ (.cells #[.int .i64 0, .int .i64 0] 27))).below hb6)) | (with_reducible have HZ6 := Lib.hid ((rhdr_new1 w5 (.cells #[.int .i64 0, .int .i64 0] 27)).below hb6)) | skip); (first | (with_reducible have T6 := Lib.hid (T5.out.below hb6)) | (with_reducible have T6 := Lib.hid ((T5.out.alloc (.cells #[.bool false, .slice none 0 0, .bool false, .slice none 0 0] 57)).below hb6)) | (with_reducible have T6 := Lib.hid ((HB.new w5 27 #[.int .i64 0, .int .i64 0]).below hb6)) | (with_reducible have T6 := Lib.hid (((HB.new w5 27 #[.int .i64 0, .int .i64 0]).alloc (.cells #[.bool false, .slice none 0 0, .bool false, .slice none 0 0] 57)).below hb6)) | (with_reducible have T6 := Lib.hid ((HB.new1 w5 (.cells #[.bool false, .slice none 0 0, .bool false, .slice none 0 0] 57) 27 #[.int .i64 0, .int .i64 0]).below hb6)) | skip); clear hi6 hb6)
                | (go_at_call 29; (first | (with_reducible refine (radd_z _ _ _ (mag (fden ps i)) (mag (fden qs i)) (fnum ps i) (fnum qs i) bu bv bp bq np nq _ (HZ6.out) (HI56.out.below ?_) (HI6.out.below ?_)).mono ?_) | (with_reducible refine (radd_z _ _ _ (mag (fden ps i)) (mag (fden qs i)) (fnum ps i) (fnum qs i) bu bv bp bq np nq _ (HZ6.out.below (new_below _ _)) (HI56.out.below ?_) (HI6.out.below ?_)).mono ?_) | (with_reducible refine (radd_z _ _ _ (mag (fden ps i)) (mag (fden qs i)) (fnum ps i) (fnum qs i) bu bv bp bq np nq _ (rhdr_new _) (HI56.out.below ?_) (HI6.out.below ?_)).mono ?_) | (with_reducible refine (radd_z _ _ _ (mag (fden ps i)) (mag (fden qs i)) (fnum ps i) (fnum qs i) bu bv bp bq np nq _ ((rhdr_new w6).below (new_below _ _)) (HI56.out.below ?_) (HI6.out.below ?_)).mono ?_) | (with_reducible refine (radd_z _ _ _ (mag (fden ps i)) (mag (fden qs i)) (fnum ps i) (fnum qs i) bu bv bp bq np nq _ (rhdr_new1 w6 (.cells #[.int .i64 0, .int .i64 0] 27)) (HI56.out.below ?_) (HI6.out.below ?_)).mono ?_)); (go_grown); (go_grown); rintro e w7 ⟨rfl, hz7, hc7⟩; have K7 := Lib.hid (Below.trans (show Below wr.heap.size wr _ by (have := K6.out; have z := this.size; go_grown)) (hc7.below (B := wr.heap.size) (by have z5 := K5.out.size; have z6 := K6.out.size; simp; (try omega)) (fun g hg hs => by have z5 := K5.out.size; have z6 := K6.out.size; omega))); have HR7 : Hid (RV w7 _ (redN (sP ps qs i) (sQ ps qs i)) (redD (sP ps qs i) (sQ ps qs i))) := hz7; (first | (with_reducible have T7 := Lib.hid ((T6.out.ch_ hc7) (by have z5 := LS5.out; have z6 := LS6.out; (try simp at z5); (try simp at z6); first | omega | (simp; done) | (simp; omega)))) | (with_reducible have T7 := Lib.hid (((T6.out.alloc (.cells #[.bool false, .slice none 0 0, .bool false, .slice none 0 0] 57)).ch_ hc7) (by have z5 := LS5.out; have z6 := LS6.out; (try simp at z5); (try simp at z6); first | omega | (simp; done) | (simp; omega)))) | (with_reducible have T7 := Lib.hid (((HB.new w6 27 #[.int .i64 0, .int .i64 0]).ch_ hc7) (by have z5 := LS5.out; have z6 := LS6.out; (try simp at z5); (try simp at z6); first | omega | (simp; done) | (simp; omega)))) | (with_reducible have T7 := Lib.hid ((((HB.new w6 27 #[.int .i64 0, .int .i64 0]).alloc (.cells #[.bool false, .slice none 0 0, .bool false, .slice none 0 0] 57)).ch_ hc7) (by have z5 := LS5.out; have z6 := LS6.out; (try simp at z5); (try simp at z6); first | omega | (simp; done) | (simp; omega)))) | (with_reducible have T7 := Lib.hid (((HB.new1 w6 (.cells #[.bool false, .slice none 0 0, .bool false, .slice none 0 0] 57) 27 #[.int .i64 0, .int .i64 0]).ch_ hc7) (by have z5 := LS5.out; have z6 := LS6.out; (try simp at z5); (try simp at z6); first | omega | (simp; done) | (simp; omega)))) | skip); clear hz7 hc7)
                | (go_at_call 28; (first | (with_reducible refine (FO.out _ _ HR7.out).mono ?_) | (with_reducible refine (FO.out _ _ (HR7.out.below (new_below _ _))).mono ?_)); rintro e w8 ⟨rfl, hb8⟩; have K8 := Lib.hid (below_after (show Below wr.heap.size wr _ by (have := K7.out; have z := this.size; go_grown)) hb8); (first | (with_reducible have HZ8 := Lib.hid (HZ7.out.below hb8)) | (with_reducible have HZ8 := Lib.hid ((HZ7.out.below (new_below _ (.cells #[.int .i64 0, .int .i64 0] 27))).below hb8)) | (with_reducible have HZ8 := Lib.hid ((rhdr_new w7).below hb8)) | (with_reducible have HZ8 := Lib.hid (((rhdr_new w7).below (new_below _ (.cells #[.int .i64 0, .int .i64 0] 27))).below hb8)) | (with_reducible have HZ8 := Lib.hid ((rhdr_new1 w7 (.cells #[.int .i64 0, .int .i64 0] 27)).below hb8)) | skip); (first | (with_reducible have T8 := Lib.hid (T7.out.below hb8)) | (with_reducible have T8 := Lib.hid ((T7.out.alloc (.cells #[.bool false, .slice none 0 0, .bool false, .slice none 0 0] 57)).below hb8)) | (with_reducible have T8 := Lib.hid ((HB.new w7 27 #[.int .i64 0, .int .i64 0]).below hb8)) | (with_reducible have T8 := Lib.hid (((HB.new w7 27 #[.int .i64 0, .int .i64 0]).alloc (.cells #[.bool false, .slice none 0 0, .bool false, .slice none 0 0] 57)).below hb8)) | (with_reducible have T8 := Lib.hid ((HB.new1 w7 (.cells #[.bool false, .slice none 0 0, .bool false, .slice none 0 0] 57) 27 #[.int .i64 0, .int .i64 0]).below hb8)) | skip); (first | (obtain ⟨tc0, tc1, tf0, tf1⟩ := HB.two T8.out; have tl := T8.out.lt) | skip); clear hb8))
            all_goals
              go_wp2_with fail
              go_meet
              first
                | exact ⟨_, rfl, rfl, HB.new _ _ _, (by have y := K8.out; have z := y.size; show Below _ _ _; go_grown)⟩
                | exact ⟨_, rfl, rfl, hb_set2 T8.out, (by have y := K8.out; have z := y.size; have z5 := K5.out.size; have z6 := K6.out.size; have z7 := K7.out.size; show Below _ _ _; go_grown)⟩
          case rest =>
            obtain ⟨z, rfl, rfl, HBz, Kz⟩ := hcut
            have KW : Hid (Below w4.heap.size w4 wc) := bw_below (Nat.le_refl _) K4.out Kz.out
            have GC : Hid (Below w.heap.size w wc) := bw_below (Nat.le_refl _) G_4.out KW.out
            obtain ⟨y0, y1, y2, y3⟩ := HB.two HBz.out
            have lz := HBz.out.lt
            have OW2 := Lib.hid (own_below2 OW.out Kz.out)
            clear Kz cn cd cn' cd' hb hb' HC RA RB FO bu bv bp bq np nq
            cases hk : k with
            | true =>
              obtain ⟨e1, e2, e3, e4⟩ := GO.out hk
              have OK2 : Hid (∀ j, j < i + 1 → SumOk ps qs j) := fun j hj => by
                rcases Nat.lt_or_ge j i with q | q
                · exact OK.out j q
                · obtain rfl : j = i := by omega
                  rw [e1, e2] at e3 e4
                  exact ⟨e3, e4⟩
              have EV := Lib.hid (show #[Value.int .i64 n', Value.int .i64 d'] = #[Value.int .i64 (sumF ps qs i).1, Value.int .i64 (sumF ps qs i).2] by rw [e1, e2]; rfl)
              have E1 := Lib.hid e1
              have E2 := Lib.hid e2
              clear e1 e2 e3 e4 hk GO
              go_wp2_with (at_builtin; refine wpl_frac _ rfl _ _ rfl w4.heap.size (.slice A1 i c1) i (fracV (sumF ps qs) i) rfl (own_alloc2 OW2.out _) wc.heap.size (.int .i64 n') (.int .i64 d') rfl (HB.new wc 27 _) rfl rfl (by omega) (by have y := KW.out.size; simp; omega) ?_)
              intro g5 cap5 w5 hown5 hkp5 hb5
              have K5 : Hid (Below w4.heap.size w4 w5) := hb5 _ (Below.alloc KW.out KW.out.size _)
              have O5 : Hid (w5.ownsRow w4.heap.size 27 2 (.slice (some ⟨g5, 0, none⟩) (i + 1 : Nat) cap5) (i + 1) (fracV (sumF ps qs) (i + 1))) := by
                have := hown5.out
                rw [E1.out, E2.out] at this
                exact this
              clear hown5 hkp5 hb5 y0 y1 y2 y3 lz
              go_wp2
              exact ⟨⟨i + 1, _, _, by omega, by go_num, rfl, O5, OK2, K5⟩, by simp [intOf]; omega⟩
            | false =>
              go_wp2
              go_ret
              exact ⟨rfl, GC.out⟩
        · obtain rfl : i = L' := by omega
          have t3 : decide (i < i) = false := by simp
          clear hlt
          have hsl : (sumL ps qs i).length = i := by simp [sumL]
          have F1 : Hid (Fs wr A1 (sumL ps qs i)) := own_fs OW.out hsl (fun j hj => sumL_nth ps qs j i hj)
          have hv3 := fun W (hW : Is W A xs) (hf : Fs W A1 (sumL ps qs i)) => value_any A A1 xs (sumL ps qs i) L c i c1 kind tt HL.out hsl.symm W hW hf
          have HV3 := Lib.hid hv3
          have HAT : Hid (atC kind tt xs (sumL ps qs i) = 0) := at_same KA.out.1 (by rw [hsl]; exact HLP.out) (fun j hj => by rw [(sumL_nth ps qs j i (by omega)).1, (sumL_nth ps qs j i (by omega)).2]; exact (OK.out j (by omega)).1)
          have HSL := Lib.hid hsl
          clear hv3 hsl
          have R_5 := Lib.hid (R_4.out.below K4.out)
          obtain ⟨x0, x1, x2, _⟩ := HB.row' R_5.out
          have xl := R_5.out.lt
          go_wp2_with fail
          refine (HV3.out _ (HX.out.below GW.out) F1.out).mono ?_
          rintro e w5 ⟨pc, qc, cc, ic, rfl, hvc, hb5⟩
          have HVC := Lib.hid hvc
          have K5 : Hid (Below w4.heap.size w4 w5) := bw_below (Nat.le_refl _) K4.out hb5
          have G5 : Hid (Below w.heap.size w w5) := bw_below (Nat.le_refl _) GW.out hb5
          have A_5 := Lib.hid (A_4.out.below K5.out)
          have B_5 := Lib.hid (B_4.out.below K5.out)
          clear hvc hb5 x0 x1 x2 xl
          rcases val_sum_cases HVC.out HAT.out with k1 | ⟨k1, k2, k3⟩
          · subst k1
            clear HVC
            go_wp2
            go_ret
            exact ⟨rfl, by have := G5.out; have z := this.size; go_grown⟩
          · subst k1
            clear HVC
            have va := KA.out.2.1
            have vb := KB.out.2.1
            have heq : pc * (qa * qb) = (pa * qb + pb * qa) * qc := by
              have hlx : xs.length ≤ i := by have := (at_pos KA.out.1).1; rw [← HLP.out] at this; exact this
              have dp : ∀ j, j < xs.length → 0 < fden ps j := fun j hj => by have := fvalid_bd (HPV.out j (by rw [← HLP.out]; omega)); omega
              have dq : ∀ j, j < xs.length → 0 < fden qs j := fun j hj => by have := fvalid_bd (HQV.out j (by rw [← HLQ.out]; omega)); omega
              have ds : ∀ j, j < xs.length → 0 < fden (sumL ps qs i) j := fun j hj => by rw [(sumL_nth ps qs j i (by omega)).2]; have := fvalid_bd (OK.out j (by omega)).1; omega
              refine val_sum (dD_pos ps _ dp) (dD_pos qs _ dq) (dD_pos _ _ ds) KA.out.2.2 KB.out.2.2 k3 (sum_lin xs ps qs (sumL ps qs i) xs.length (fun j hj => ?_))
              obtain ⟨n1, n2⟩ := sumL_nth ps qs j i (by omega)
              have so := (OK.out j (by omega)).2
              have m1 : ((mag (fden ps j) : Nat) : Int) = fden ps j := by have := dp j hj; unfold mag; omega
              have m2 : ((mag (fden qs j) : Nat) : Int) = fden qs j := by have := dq j hj; unfold mag; omega
              unfold sQ sP at so
              rw [m1, m2] at so
              rw [n1, n2]
              exact so
            obtain ⟨r1, r2⟩ := red_eq va vb k2 heq
            have RR1 := Lib.hid r1
            have RR2 := Lib.hid r2
            have RC := Lib.hid (rat_any pc qc k2)
            have RA := Lib.hid (rat_any pa qa va)
            have RB := Lib.hid (rat_any pb qb vb)
            obtain ⟨a1, a2, a3, a4, ga⟩ := fvalid_bd va
            obtain ⟨b1, b2, b3, b4, gb⟩ := fvalid_bd vb
            obtain ⟨c1', c2', c3', c4', gc⟩ := fvalid_bd k2
            have bu : mag pa ≤ 1073741824 := by unfold mag; omega
            have bv : mag pb ≤ 1073741824 := by unfold mag; omega
            have bw : mag pc ≤ 1073741824 := by unfold mag; omega
            have bp : mag qa ≤ 1073741824 := by unfold mag; omega
            have bq : mag qb ≤ 1073741824 := by unfold mag; omega
            have br : mag qc ≤ 1073741824 := by unfold mag; omega
            have np : mag qa ≠ 0 := by unfold mag; omega
            have nq : mag qb ≠ 0 := by unfold mag; omega
            have nr : mag qc ≠ 0 := by unfold mag; omega
            have SG := Lib.hid (sign_same pc ((mag qc : Nat) : Int) (((mag qc : Nat) : Int) * ((mag qc : Nat) : Int)))
            have GCC := Lib.hid gc
            clear va vb k2 k3 heq r1 r2 ga gb gc
            go_wp2_with fail
            generalize hw6 : (w5.alloc (.cells #[.int .i64 pc, .int .i64 qc] 27)).alloc (.cells #[.int .i64 0, .int .i64 ic] 29) = w6
            have K6 : Hid (Below w5.heap.size w5 w6) := hw6 ▸ (by show Below _ _ _; go_grown)
            have C_6 : Hid (HB w6 w5.heap.size 27 #[.int .i64 pc, .int .i64 qc]) := hw6 ▸ ((HB.new w5 27 #[.int .i64 pc, .int .i64 qc]).alloc _)
            have A_6 := Lib.hid (A_5.out.below K6.out)
            have B_6 := Lib.hid (B_5.out.below K6.out)
            have G6 : Hid (Below w.heap.size w w6) := bw_below (Nat.le_refl _) G5.out K6.out
            have HC2 : Hid (∀ W, Below w6.heap.size w6 W → W.cell? ⟨w5.heap.size, 0, none⟩ = some (.int .i64 pc) ∧ W.cell? ⟨w5.heap.size, 1, none⟩ = some (.int .i64 qc) ∧ W.cell? ⟨w2.heap.size, 0, none⟩ = some (.int .i64 pa) ∧ W.cell? ⟨w2.heap.size, 1, none⟩ = some (.int .i64 qa) ∧ W.cell? ⟨w3.heap.size, 0, none⟩ = some (.int .i64 pb) ∧ W.cell? ⟨w3.heap.size, 1, none⟩ = some (.int .i64 qb)) := fun W hW => ⟨(C_6.out.below hW).cell 0, (C_6.out.below hW).cell 1, (A_6.out.below hW).cell 0, (A_6.out.below hW).cell 1, (B_6.out.below hW).cell 0, (B_6.out.below hW).cell 1⟩
            clear hw6
            go_region_held3 (fun W => W.cell? ⟨w5.heap.size, 0, none⟩ = some (.int .i64 pc) ∧ W.cell? ⟨w5.heap.size, 1, none⟩ = some (.int .i64 qc) ∧ W.cell? ⟨w2.heap.size, 0, none⟩ = some (.int .i64 pa) ∧ W.cell? ⟨w2.heap.size, 1, none⟩ = some (.int .i64 qa) ∧ W.cell? ⟨w3.heap.size, 0, none⟩ = some (.int .i64 pb) ∧ W.cell? ⟨w3.heap.size, 1, none⟩ = some (.int .i64 qb))
              (first | (refine HC2.out _ ?_; go_grown; done) | (have y := K7.out; have z := y.size; refine HC2.out _ ?_; go_grown; done) | (have y := K8.out; have z := y.size; refine HC2.out _ ?_; go_grown; done) | (have y := K9.out; have z := y.size; refine HC2.out _ ?_; go_grown; done) | (have y := K10.out; have z := y.size; refine HC2.out _ ?_; go_grown; done) | (have y := K11.out; have z := y.size; refine HC2.out _ ?_; go_grown; done))
              (first
                | (go_at_call 30; (with_reducible refine (RC.out _).mono ?_); rintro e w7 ⟨rfl, hi7, hb7⟩; have K7 := Lib.hid (below_after (show Below w6.heap.size w6 _ by go_grown) hb7); (try simp at hi7); have HI7 := Lib.hid hi7; have LS7 := Lib.hid hb7.size; (first | (with_reducible have HZ7 := Lib.hid ((RHdr.drew (rhdr_new w6)).below hb7)) | skip); clear hi7 hb7)
                | (go_at_call 30; (with_reducible refine (RA.out _).mono ?_); rintro e w8 ⟨rfl, hi8, hb8⟩; have K8 := Lib.hid (below_after (show Below w6.heap.size w6 _ by (have := K7.out; have z := this.size; go_grown)) hb8); (try simp at hi8); have HI8 := Lib.hid hi8; have HI78 := Lib.hid ((HI7.out.below (by go_grown)).below hb8); have LS8 := Lib.hid hb8.size; (first | (with_reducible have HZ8 := Lib.hid (HZ7.out.below hb8)) | (with_reducible have HZ8 := Lib.hid ((rhdr_new w7).below hb8)) | skip); clear hi8 hb8)
                | (go_at_call 30; (with_reducible refine (RB.out _).mono ?_); rintro e w9 ⟨rfl, hi9, hb9⟩; have K9 := Lib.hid (below_after (show Below w6.heap.size w6 _ by (have := K8.out; have z := this.size; go_grown)) hb9); (try simp at hi9); have HI9 := Lib.hid hi9; have HI79 := Lib.hid ((HI78.out.below (by go_grown)).below hb9); have HI89 := Lib.hid ((HI8.out.below (by go_grown)).below hb9); have LS9 := Lib.hid hb9.size; (first | (with_reducible have HZ9 := Lib.hid (HZ8.out.below hb9)) | (with_reducible have HZ9 := Lib.hid ((rhdr_new w8).below hb9)) | skip); clear hi9 hb9)
                | (go_at_call 29; (first | (with_reducible refine (radd_z _ _ _ (mag qa) (mag qb) pa pb bu bv bp bq np nq _ HZ9.out (HI89.out.below ?_) (HI9.out.below ?_)).mono ?_) | (with_reducible refine (radd_z _ _ _ (mag qa) (mag qb) pa pb bu bv bp bq np nq _ (rhdr_new _) (HI89.out.below ?_) (HI9.out.below ?_)).mono ?_)); (go_grown); (go_grown); rintro e w10 ⟨rfl, hz10, hc10⟩; have K10 := Lib.hid (Below.trans (show Below w6.heap.size w6 _ by (have := K9.out; have z := this.size; go_grown)) (hc10.below (B := w6.heap.size) (by have z7 := K7.out.size; have z8 := K8.out.size; have z9 := K9.out.size; simp; (try omega)) (fun g hg hs => by have z7 := K7.out.size; have z8 := K8.out.size; have z9 := K9.out.size; omega))); have HR10 := (show RV w10 _ (redN _ _) (redD _ _) from hz10); rw [RR1.out, RR2.out] at HR10; have HR11 := Lib.hid HR10; (first | (with_reducible have HC10 := Lib.hid (HI79.out.ch hc10 (by have q7 := HI7.out.lt; have z7 := LS7.out; have z8 := LS8.out; have z9 := LS9.out; (try simp at z7); (try simp at z8); (try simp at z9); first | omega | (simp; done) | (simp; omega)))) | (with_reducible have HC10 := Lib.hid ((HI79.out.below (new_below _ _)).ch hc10 (by have q7 := HI7.out.lt; have z7 := LS7.out; have z8 := LS8.out; have z9 := LS9.out; (try simp at z7); (try simp at z8); (try simp at z9); first | omega | (simp; done) | (simp; omega))))); clear hz10 hc10 HR10)
                | (go_at_call 31; (with_reducible refine (rcmp_z _ _ (mag qc) (mag qc) pc pc bw bw br br nr nr GCC.out _ HC10.out HR11.out).mono ?_); rintro e w11 ⟨rfl, hb11⟩; rw [SG.out]; have K11 := Lib.hid (below_after (show Below w6.heap.size w6 _ by (have := K10.out; have z := this.size; go_grown)) hb11); clear hb11))
            all_goals
              go_wp2
              go_ret
              exact ⟨rfl, bw_below (Nat.le_refl _) G6.out K11.out⟩
end Go.Proofs.Ytkjollifghmkbaa
