/-
  Asks: ask.Used.
-/
import Derived.Test.YtcpeddogckillaaGreatAskBa
namespace Go.Proofs.YtcpeddogckillaaGreat
open Go.RowKit

theorem ak_zero {qs : List Dc} {ns : List Nd} {hs : List Int} (h : akC qs ns hs = 0) : akA qs ns hs = 0 := by
  unfold akC at h
  unfold akA
  by_cases h1 : fsC (dcC qs) qs.length 30 = 0
  · rw [if_neg (by simpa using h1)] at h ⊢
    by_cases h2 : fsC (nC qs ns) ns.length 200 = 0
    · rw [if_neg (by simpa using h2)] at h ⊢
      exact (fs_zero h).1
    · rw [if_pos h2] at h; exact absurd h h2
  · rw [if_pos h1] at h; exact absurd h h1
/-- What a look for what is used yields. -/
def GivesU (ns : List Nd) (hs : List Int) (n : Nat) (C A : Int) (w : World) (e : Ending) (w' : World) : Prop :=
  (C ≠ 0 → e = .returned (.tuple #[.slice none 0 0, .agg #[.int .i64 C, .int .i64 A]])) ∧ (C = 0 → ∃ g b, e = .returned (.tuple #[.slice (some ⟨g, 0, none⟩) n n, .agg #[.int .i64 0, .int .i64 0]]) ∧ HB w' g 4 (BA b n) ∧ ∀ j, j < n → (b j = true ↔ Rch ns hs j)) ∧ Below w.heap.size w w'
theorem rch_closed {ns : List Nd} {hs : List Int} {b : Nat → Bool} (h1 : ∀ p, p < hs.length → b (nth hs p).toNat = true) (h2 : ∀ m, m < ns.length → b m = true → ∀ k, k < (nn ns m).kids.length → b (nth (nn ns m).kids k).toNat = true) {j : Nat} (h : Rch ns hs j) : b j = true := by
  induction h with
  | hold i hi => exact h1 i hi
  | kid m k h hm hk ih => exact h2 m hm ih k hk
/-- The row of Bools after some nodes, from the last on. -/
def Half (ns : List Nd) (hs : List Int) (b : Nat → Bool) (z : Int) : Prop :=
  (∀ j, b j = true → Rch ns hs j) ∧ (∀ p, p < hs.length → b (nth hs p).toNat = true) ∧ (∀ p : Nat, z < p → p < ns.length → b p = true → ∀ k, k < (nn ns p).kids.length → b (nth (nn ns p).kids k).toNat = true)
theorem half_upd {ns : List Nd} {hs : List Int} {b : Nat → Bool} {m j : Nat} (h : Half ns hs b m) (hj : j < m) (hr : Rch ns hs j) : Half ns hs (upd b j) m := by
  refine ⟨fun x hx => ?_, fun p hp => upd_true.2 (.inr (h.2.1 p hp)), fun p hp hl hb k hk => upd_true.2 (.inr (h.2.2 p hp hl ?_ k hk))⟩
  · rcases upd_true.1 hx with rfl | z
    · exact hr
    · exact h.1 x z
  · rcases upd_true.1 hb with rfl | z
    · omega
    · exact z
theorem half_step {ns : List Nd} {hs : List Int} {b : Nat → Bool} {m : Nat} (h : Half ns hs b m) (hk : b m = true → ∀ k, k < (nn ns m).kids.length → b (nth (nn ns m).kids k).toNat = true) : Half ns hs b (m - 1) := by
  refine ⟨h.1, h.2.1, fun p hp hl hb => ?_⟩
  by_cases z : p = m
  · subst z; exact hk hb
  · exact h.2.2 p (by omega) hl hb
theorem half_done {ns : List Nd} {hs : List Int} {b : Nat → Bool} (h : Half ns hs b (-1)) (j : Nat) : b j = true ↔ Rch ns hs j :=
  ⟨h.1 j, fun r => rch_closed h.2.1 (fun m hm hb => h.2.2 m (by omega) hm hb) r⟩
set_option maxRecDepth 100000 in
set_option maxHeartbeats 8000000 in
theorem used_any (qs : List Dc) (ns : List Nd) (hs : List Int) (Ad An Ah : Option Addr) (dc nc hc : Nat) (h1 : qs.length ≤ dc) (h2 : dc ≤ maxLen) (h3 : ns.length ≤ maxLen) (h4 : hs.length ≤ maxLen) (w : World) (hd : DsAt w Ad qs) (hn : NsAt w An ns) (hh : Is w Ah hs) :
    Calls Tryz.prog 10 #[.agg #[.slice Ad qs.length dc, .slice An ns.length nc, .slice Ah hs.length hc]] w (GivesU ns hs ns.length (akC qs ns hs) (akA qs ns hs) w) := by
  have HN := Lib.hid hn
  have HH := Lib.hid hh
  have HSD := Lib.hid (fun h => ak_sound (qs := qs) (ns := ns) (hs := hs) h)
  have HAZ := Lib.hid (fun h => ak_zero (qs := qs) (ns := ns) (hs := hs) h)
  have HNA := Lib.hid (fun (i : Nat) (W : World) (hi : i < ns.length) (hW : NsAt W An ns) => ns_at hW hi)
  have N1 : Hid (HB ((w.alloc (.cells #[.slice Ad qs.length dc, .slice An ns.length nc, .slice Ah hs.length hc] 26)).alloc (.cells #[.int .i64 0, .int .i64 0] 30)) w.heap.size 26 #[.slice Ad qs.length dc, .slice An ns.length nc, .slice Ah hs.length hc]) := Lib.hid ((HB.new _ _ _).alloc _)
  have R1 : Hid (HB ((w.alloc (.cells #[.slice Ad qs.length dc, .slice An ns.length nc, .slice Ah hs.length hc] 26)).alloc (.cells #[.int .i64 0, .int .i64 0] 30)) (w.heap.size + 1) 30 #[.int .i64 0, .int .i64 0]) := Lib.hid (HB.new1 _ _ _ _)
  have G1 : Hid (Below w.heap.size w ((w.alloc (.cells #[.slice Ad qs.length dc, .slice An ns.length nc, .slice Ah hs.length hc] 26)).alloc (.cells #[.int .i64 0, .int .i64 0] 30))) := Lib.hid (by go_grown)
  have X := Lib.hid (check_any qs ns hs Ad An Ah dc nc hc h1 h2 h3 h4 _ (hd.below G1.out) (hn.below G1.out) (hh.below G1.out))
  unfold maxLen at h2 h3 h4
  clear hd hn hh
  unfold GivesU
  generalize akC qs ns hs = C at *
  generalize akA qs ns hs = A at *
  generalize qs.length = ql at *
  generalize hnl : ns.length = nl at *
  generalize hhl : hs.length = hl at *
  have HNL := Lib.hid hnl
  have HHL := Lib.hid hhl
  clear hnl hhl
  by_cases hc0 : C = 0
  · obtain ⟨n200, h200, hkk, hho⟩ := HSD.out hc0
    have HA0 := Lib.hid (HAZ.out hc0)
    have HKK := Lib.hid hkk
    have HHO := Lib.hid hho
    have hmk := fun w => make_bools nl (by omega) w
    have ha0 := HA0.out
    subst hc0 ha0
    clear hkk hho HSD HAZ
    go_enter Tryz.func10, Tryz.ntmps10
    go_wp2_with fail
    refine X.out.mono ?_
    rintro e w1 ⟨rfl, hb1⟩
    have G2 : Hid (Below w.heap.size w w1) := bw_below (Nat.le_refl _) G1.out hb1
    have N2 := Lib.hid (N1.out.below hb1)
    have R2 := Lib.hid (R1.out.below hb1)
    clear hb1 X N1 R1 G1
    obtain ⟨x0, x1, x2, _⟩ := N2.out.three
    have lx := N2.out.lt
    have lr := R2.out.lt
    have N3 := Lib.hid ((N2.out.alloc (.cells #[.int .i64 0, .int .i64 0] 30)).alloc (.cells (BA (fun _ => false) nl) 4))
    have R3 := Lib.hid ((R2.out.alloc (.cells #[.int .i64 0, .int .i64 0] 30)).alloc (.cells (BA (fun _ => false) nl) 4))
    have U3 := Lib.hid (HB.new1 w1 (.cells #[.int .i64 0, .int .i64 0] 30) 4 (BA (fun _ => false) nl))
    have G3 := Lib.hid (Below.alloc (Below.alloc G2.out G2.out.size (.cells #[.int .i64 0, .int .i64 0] 30)) (by have := G2.out.size; simp; omega) (.cells (BA (fun _ => false) nl) 4))
    go_wp2_with fail
    clear N2 R2 G2 x0 x1 x2 lx
    have hg1 : w.heap.size ≠ w1.heap.size + 1 := by omega
    have hg2 : w.heap.size + 1 ≠ w1.heap.size + 1 := by omega
    have hg3 : w.heap.size ≤ w1.heap.size + 1 := by omega
    have HG1 := Lib.hid hg1
    have HG2 := Lib.hid hg2
    have HG3 := Lib.hid hg3
    clear hg1 hg2 hg3 lr
    go_loopw [7, 24] (fun _ k wr => ∃ (i : Nat) (b : Nat → Bool), i ≤ hl ∧ k = .int .i64 i ∧ Hid (HB wr (w1.heap.size + 1) 4 (BA b nl)) ∧ Hid (∀ j, b j = true → Rch ns hs j) ∧ Hid (∀ p, p < i → b (nth hs p).toNat = true) ∧ Hid (HB wr w.heap.size 26 #[.slice Ad ql dc, .slice An nl nc, .slice Ah hl hc]) ∧ Hid (HB wr (w.heap.size + 1) 30 #[.int .i64 0, .int .i64 0]) ∧ Hid (Below w.heap.size w wr)) (fun _ k _ => hl - (intOf k).toNat)
    case atStart => exact ⟨0, fun _ => false, by omega, rfl, U3, Lib.hid (fun j hj => absurd hj (by simp)), Lib.hid (fun p hp => absurd hp (by omega)), N3, R3, G3⟩
    case round =>
      obtain ⟨i, b, hi, rfl, U4, HS, HP, N4, R4, G4⟩ := hrel
      clear U3 N3 R3 G3
      by_cases hlt : i < hl
      · have t3 : decide ((i : Int) < hl) = true := by simpa using hlt
        obtain ⟨b1, o1, rfl, _, c0⟩ := is_at (i := i) (HH.out.below G4.out) (by rw [HHL.out]; exact hlt)
        obtain ⟨q0, q1⟩ := HHO.out i hlt
        have hR : Hid (Rch ns hs (nth hs i).toNat) := Lib.hid (.hold i (by rw [HHL.out]; exact hlt))
        obtain ⟨j, hj⟩ : ∃ j : Nat, nth hs i = j := ⟨(nth hs i).toNat, by omega⟩
        have HJ := Lib.hid hj
        rw [hj] at c0 q1 hR
        rw [Int.toNat_natCast] at hR
        have hjn : j < nl := by omega
        clear q0 q1 hj
        obtain ⟨d0, d1⟩ := ba_cell U4.out hjn
        have ld := U4.out.lt
        go_wp2_with fail
        go_round
        case rel =>
          have F5 := far_set wr (w1.heap.size + 1) j (.bool true)
          exact ⟨i + 1, upd b j, by omega, by go_num, Lib.hid (ba_set U4.out j), Lib.hid (fun x hx => by
            rcases upd_true.1 hx with rfl | z
            · exact hR.out
            · exact HS.out x z), Lib.hid (fun p hp => by
            rcases Nat.lt_or_ge p i with z | z
            · exact upd_true.2 (.inr (HP.out p z))
            · obtain rfl : p = i := by omega
              rw [HJ.out, Int.toNat_natCast]
              exact upd_true.2 (.inl rfl)), Lib.hid (N4.out.far_ HG1.out F5), Lib.hid (R4.out.far_ HG2.out F5), Lib.hid (bw_far G4.out HG3.out F5)⟩
        case measure => simp [intOf]; omega
      · obtain rfl : hl = i := by omega
        have t3 : decide ((hl : Int) < hl) = false := by simp
        have HF : Hid (Half ns hs b ((nl : Int) - 1)) := Lib.hid ⟨HS.out, fun p hp => HP.out p (by rw [HHL.out] at hp; exact hp), fun p hp hl _ => by rw [HNL.out] at hl; omega⟩
        clear HS HP hlt hi
        obtain ⟨x0, x1, x2, _⟩ := N4.out.three
        have lx := N4.out.lt
        go_wp2_with fail
        go_loopw [8, 10] (fun z _ wq => ∃ (zi : Int) (b : Nat → Bool), -1 ≤ zi ∧ zi < nl ∧ z = .int .i64 zi ∧ Hid (Half ns hs b zi) ∧ Hid (HB wq (w1.heap.size + 1) 4 (BA b nl)) ∧ Hid (HB wq w.heap.size 26 #[.slice Ad ql dc, .slice An nl nc, .slice Ah hl hc]) ∧ Hid (HB wq (w.heap.size + 1) 30 #[.int .i64 0, .int .i64 0]) ∧ Hid (Below w.heap.size w wq)) (fun z _ _ => (intOf z + 1).toNat)
        case atStart => exact ⟨(nl : Int) - 1, b, by omega, by omega, by go_num, HF, U4, N4, R4, G4⟩
        case round =>
          obtain ⟨zi, b', hz1, hz2, rfl, HF', U5, N5, R5, G5⟩ := hrel
          clear HF U4 N4 R4 G4 x0 x1 x2 lx
          obtain ⟨x0, x1, x2, _⟩ := N5.out.three
          have lx := N5.out.lt
          by_cases hz : zi = -1
          · subst hz
            have HF2 := HF'
            clear HF' hz1 hz2
            obtain ⟨r0, r1, r2, r3⟩ := R5.out.two
            have lr := R5.out.lt
            have FF := far2 wr (w.heap.size + 1) (.int .i64 0) (.int .i64 0)
            have RR := hb_set2 (n := .int .i64 0) (d := .int .i64 0) R5.out
            have UU := Lib.hid (U5.out.far_ (fun z => HG2.out z.symm) FF)
            obtain ⟨y0, y1, _, _⟩ := RR.two
            go_wp2_with fail
            refine bodyPost_ret (v := .tuple #[.slice (some ⟨w1.heap.size + 1, 0, none⟩) nl nl, .agg #[.int .i64 0, .int .i64 0]]) (by simp [results, Tryz.results10, go_sem, y0, y1]) rfl ⟨fun z => absurd rfl z, fun _ => ⟨_, b', rfl, UU.out, fun j _ => half_done HF2.out j⟩, bw_far G5.out (Nat.le_succ _) FF⟩
          · obtain ⟨m, rfl⟩ : ∃ m : Nat, zi = m := ⟨zi.toNat, by omega⟩
            have hmn : m < nl := by omega
            clear hz1 hz2 hz
            obtain ⟨d0, d1⟩ := ba_cell U5.out hmn
            have ld := U5.out.lt
            by_cases hb : b' m = true
            · have HBM := Lib.hid hb
              rw [hb] at d0
              clear hb
              obtain ⟨bn, on, A', c', hAn, hbn, _, c1w, _, _, _, _, hkk, hX⟩ := HNA.out m w hmn HN.out
              have c1 := (G5.out.cell (p := ⟨bn, on + m * 5 + 1, none⟩) hbn).trans c1w
              subst hAn
              clear c1w
              obtain ⟨e1, e2⟩ := HKK.out m hmn
              have E1 := Lib.hid e1
              generalize hks : (nn ns m).kids = ks at *
              have HKS := Lib.hid hks
              have HX := Lib.hid hX
              generalize hkl : ks.length = kl at *
              have HKL := Lib.hid hkl
              have HMR : Hid (Rch ns hs m) := Lib.hid (HF'.out.1 m HBM.out)
              clear hks hkl hX e1
              go_wp2_with fail
              go_loopw [10, 51] (fun _ k wq => ∃ (i : Nat) (b : Nat → Bool), i ≤ kl ∧ k = .int .i64 i ∧ Hid (Half ns hs b m) ∧ Hid (b m = true) ∧ Hid (∀ p, p < i → b (nth ks p).toNat = true) ∧ Hid (HB wq (w1.heap.size + 1) 4 (BA b nl)) ∧ Hid (HB wq w.heap.size 26 #[.slice Ad ql dc, .slice (some ⟨bn, on, none⟩) nl nc, .slice Ah hl hc]) ∧ Hid (HB wq (w.heap.size + 1) 30 #[.int .i64 0, .int .i64 0]) ∧ Hid (Below w.heap.size w wq)) (fun _ k _ => kl - (intOf k).toNat)
              case atStart => exact ⟨0, b', by omega, rfl, HF', HBM, Lib.hid (fun p hp => absurd hp (by omega)), U5, N5, R5, G5⟩
              case round =>
                obtain ⟨i, b2, hi, rfl, HF2, HBM2, HP, U6, N6, R6, G6⟩ := hrel
                clear HF' HBM U5 N5 R5 G5 x0 x1 x2 lx d0 d1 ld c1
                by_cases hlt : i < kl
                · have t3 : decide ((i : Int) < kl) = true := by simpa using hlt
                  obtain ⟨b1, o1, rfl, _, c0⟩ := is_at (i := i) (HX.out.below G6.out) (by rw [HKL.out]; exact hlt)
                  obtain ⟨q0, q1⟩ := kin_at (j := i) E1.out (by rw [HKL.out]; exact hlt)
                  have hR : Hid (Rch ns hs (nth ks i).toNat) := Lib.hid (by
                    have := Rch.kid m i HMR.out (by rw [HNL.out]; exact hmn) (by rw [HKS.out, HKL.out]; exact hlt)
                    rw [HKS.out] at this
                    exact this)
                  obtain ⟨j, hj⟩ : ∃ j : Nat, nth ks i = j := ⟨(nth ks i).toNat, by omega⟩
                  have HJ := Lib.hid hj
                  rw [hj] at c0 q1 hR
                  rw [Int.toNat_natCast] at hR
                  have hjm : j < m := by omega
                  have hjn : j < nl := by omega
                  clear q0 q1 hj
                  obtain ⟨d0, d1⟩ := ba_cell U6.out hjn
                  have ld := U6.out.lt
                  go_wp2_with fail
                  go_round
                  case rel =>
                    have F5 := far_set wr (w1.heap.size + 1) j (.bool true)
                    have G7 := bw_far G6.out HG3.out F5
                    exact ⟨i + 1, upd b2 j, by omega, by go_num, Lib.hid (half_upd HF2.out hjm hR.out), Lib.hid (upd_true.2 (.inr HBM2.out)), Lib.hid (fun p hp => by
                      rcases Nat.lt_or_ge p i with z | z
                      · exact upd_true.2 (.inr (HP.out p z))
                      · obtain rfl : p = i := by omega
                        rw [HJ.out, Int.toNat_natCast]
                        exact upd_true.2 (.inl rfl)), Lib.hid (ba_set U6.out j), Lib.hid (N6.out.far_ HG1.out F5), Lib.hid (R6.out.far_ HG2.out F5), Lib.hid G7⟩
                  case measure => simp [intOf]; omega
                · obtain rfl : kl = i := by omega
                  have t3 : decide ((kl : Int) < kl) = false := by simp
                  have HFE : Hid (Half ns hs b2 ((m : Int) - 1)) := Lib.hid (half_step HF2.out (fun _ k hk => by
                    rw [HKS.out] at hk ⊢
                    exact HP.out k (by rw [HKL.out] at hk; exact hk)))
                  clear HF2 HBM2 HP hlt hi
                  go_wp2_with fail
                  go_round
                  case rel => exact ⟨(m : Int) - 1, b2, by omega, by omega, by go_num, HFE, U6, N6, R6, G6⟩
                  case measure => simp [intOf]
            · have hbf : b' m = false := by simpa using hb
              have HFE : Hid (Half ns hs b' ((m : Int) - 1)) := Lib.hid (half_step HF'.out (fun z => absurd z (by rw [hbf]; decide)))
              rw [hbf] at d0
              clear hb hbf
              go_wp2_with fail
              go_round
              case rel => exact ⟨(m : Int) - 1, b', by omega, by omega, by go_num, HFE, U5, N5, R5, G5⟩
              case measure => simp [intOf]
  · have t1 : (C == 0) = false := by simpa using hc0
    have HC0 := Lib.hid hc0
    clear hc0
    go_enter Tryz.func10, Tryz.ntmps10
    go_wp2_with fail
    refine X.out.mono ?_
    rintro e w1 ⟨rfl, hb1⟩
    have G2 : Hid (Below w.heap.size w w1) := bw_below (Nat.le_refl _) G1.out hb1
    have R2 := Lib.hid (R1.out.below hb1)
    clear hb1 X N1 R1 G1
    obtain ⟨r0, r1, r2, r3⟩ := R2.out.two
    have lr := R2.out.lt
    have RR := (hb_set2 (n := .int .i64 C) (d := .int .i64 A) R2.out).alloc (.cells #[.int .i64 C, .int .i64 A] 30)
    have FF := bw_far G2.out (Nat.le_succ _) (far2 w1 (w.heap.size + 1) (.int .i64 C) (.int .i64 A))
    obtain ⟨y0, y1, _, _⟩ := RR.two
    go_wp2_with fail
    go_region
    all_goals
      go_wp2_with fail
      refine bodyPost_ret (v := .tuple #[.slice none 0 0, .agg #[.int .i64 C, .int .i64 A]]) (by simp [results, Tryz.results10, go_sem, y0, y1]) rfl ⟨fun _ => rfl, fun z => absurd z HC0.out, ?_⟩
      exact (Below.alloc FF FF.size _).drew
end Go.Proofs.YtcpeddogckillaaGreat
