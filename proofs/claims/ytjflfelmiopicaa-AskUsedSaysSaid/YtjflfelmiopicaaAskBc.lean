/-
  Asks: the reference of what is used; rows of Bools that are the same.
-/
import Derived.Test.YtjflfelmiopicaaAskBb
namespace Go.Proofs.Ytjflfelmiopicaa
open Go.RowKit

/-- The row of Bools in a pass of the reference. -/
def Pas (ns : List Nd) (hs : List Int) (b : Nat → Bool) (p n : Nat) : Prop :=
  (∀ j, b j = true → Rch ns hs j) ∧ (∀ j, RchN ns hs p j → b j = true) ∧ (∀ m, m < n → m < ns.length → RchN ns hs p m → ∀ k, k < (nn ns m).kids.length → b (nth (nn ns m).kids k).toNat = true)
theorem pas_upd {ns : List Nd} {hs : List Int} {b : Nat → Bool} {p n j : Nat} (h : Pas ns hs b p n) (hr : Rch ns hs j) : Pas ns hs (upd b j) p n := by
  refine ⟨fun x hx => ?_, fun x hx => upd_true.2 (.inr (h.2.1 x hx)), fun m hm hl hb k hk => upd_true.2 (.inr (h.2.2 m hm hl hb k hk))⟩
  rcases upd_true.1 hx with rfl | z
  · exact hr
  · exact h.1 x z
theorem pas_step {ns : List Nd} {hs : List Int} {b : Nat → Bool} {p n : Nat} (h : Pas ns hs b p n) (hk : b n = true → ∀ k, k < (nn ns n).kids.length → b (nth (nn ns n).kids k).toNat = true) : Pas ns hs b p (n + 1) := by
  refine ⟨h.1, h.2.1, fun m hm hl hb => ?_⟩
  by_cases z : m = n
  · subst z; exact hk (h.2.1 m hb)
  · exact h.2.2 m (by omega) hl hb
theorem pas_next {ns : List Nd} {hs : List Int} {b : Nat → Bool} {p : Nat} (h : Pas ns hs b p ns.length) : Pas ns hs b (p + 1) 0 := by
  refine ⟨h.1, ?_, fun m hm => absurd hm (Nat.not_lt_zero _)⟩
  rintro j (z | ⟨m, k, hb, hm, hk, rfl⟩)
  · exact h.2.1 j z
  · exact h.2.2 m hm hm hb k hk
theorem pas_done {ns : List Nd} {hs : List Int} {b : Nat → Bool} (h1 : ∀ i, i < ns.length → kIn i (nn ns i).kids = true) (h2 : ∀ i, i < hs.length → 0 ≤ nth hs i ∧ nth hs i < ns.length) (h : Pas ns hs b ns.length 0) (j : Nat) : b j = true ↔ Rch ns hs j :=
  ⟨h.1 j, fun r => h.2.1 j (rchN_mono (by omega) (rch_rchN h1 h2 r).2)⟩
set_option maxRecDepth 100000 in
set_option maxHeartbeats 8000000 in
theorem usedref_any (qs : List Dc) (ns : List Nd) (hs : List Int) (Ad An Ah : Option Addr) (dc nc hc : Nat) (n200 : ns.length ≤ 200) (h200 : hs.length ≤ 200) (hkk : ∀ i, i < ns.length → kIn i (nn ns i).kids = true ∧ (nn ns i).kids.length ≤ 8) (hho : ∀ i, i < hs.length → 0 ≤ nth hs i ∧ nth hs i < ns.length) (w : World) (hn : NsAt w An ns) (hh : Is w Ah hs) :
    Calls Try.prog 16 #[.agg #[.slice Ad qs.length dc, .slice An ns.length nc, .slice Ah hs.length hc]] w fun e w' => ∃ g b, e = .returned (.slice (some ⟨g, 0, none⟩) ns.length ns.length) ∧ HB w' g 4 (BA b ns.length) ∧ (∀ j, j < ns.length → (b j = true ↔ Rch ns hs j)) ∧ Below w.heap.size w w' := by
  have HN := Lib.hid hn
  have HH := Lib.hid hh
  have HNA := Lib.hid (fun (i : Nat) (W : World) (hi : i < ns.length) (hW : NsAt W An ns) => ns_at hW hi)
  have HNX := Lib.hid (fun (b : Nat → Bool) (p : Nat) (h : Pas ns hs b p ns.length) => pas_next h)
  have HPD := Lib.hid (fun (b : Nat → Bool) (h : Pas ns hs b ns.length 0) => pas_done (fun i hi => (hkk i hi).1) hho h)
  generalize qs.length = ql at *
  generalize hnl : ns.length = nl at *
  generalize hhl : hs.length = hl at *
  have HNL := Lib.hid hnl
  have HHL := Lib.hid hhl
  have HKK := Lib.hid hkk
  have HHO := Lib.hid hho
  have hmk := fun w => make_bools nl (by omega) w
  clear hnl hhl hkk hho hn hh
  have N3 : Hid (HB ((w.alloc (.cells #[.slice Ad ql dc, .slice An nl nc, .slice Ah hl hc] 26)).alloc (.cells (BA (fun _ => false) nl) 4)) w.heap.size 26 #[.slice Ad ql dc, .slice An nl nc, .slice Ah hl hc]) := Lib.hid ((HB.new _ _ _).alloc _)
  have U3 : Hid (HB ((w.alloc (.cells #[.slice Ad ql dc, .slice An nl nc, .slice Ah hl hc] 26)).alloc (.cells (BA (fun _ => false) nl) 4)) (w.heap.size + 1) 4 (BA (fun _ => false) nl)) := Lib.hid (HB.new1 _ _ _ _)
  have G3 : Hid (Below w.heap.size w ((w.alloc (.cells #[.slice Ad ql dc, .slice An nl nc, .slice Ah hl hc] 26)).alloc (.cells (BA (fun _ => false) nl) 4))) := Lib.hid (Below.alloc (new_below _ _) (by simp) _)
  have HG1 : Hid (w.heap.size ≠ w.heap.size + 1) := Lib.hid (by omega)
  go_enter Try.func16, Try.ntmps16
  go_wp2_with fail
  clear hmk
  go_loopw [4] (fun k wr => ∃ (i : Nat) (b : Nat → Bool), i ≤ hl ∧ k = .int .i64 i ∧ Hid (∀ j, b j = true → Rch ns hs j) ∧ Hid (∀ p, p < i → b (nth hs p).toNat = true) ∧ Hid (HB wr (w.heap.size + 1) 4 (BA b nl)) ∧ Hid (HB wr w.heap.size 26 #[.slice Ad ql dc, .slice An nl nc, .slice Ah hl hc]) ∧ Hid (Below w.heap.size w wr)) (fun k _ => hl - (intOf k).toNat)
  case atStart => exact ⟨0, fun _ => false, by omega, rfl, Lib.hid (fun j hj => absurd hj (by simp)), Lib.hid (fun p hp => absurd hp (by omega)), U3, N3, G3⟩
  case round =>
    obtain ⟨i, b, hi, rfl, HS, HP, U4, N4, G4⟩ := hrel
    clear U3 N3 G3
    obtain ⟨x0, x1, x2, _⟩ := N4.out.three
    have lx := N4.out.lt
    by_cases hlt : i < hl
    · have t3 : decide ((i : Int) < hl) = true := by simpa using hlt
      obtain ⟨b1, o1, rfl, _, c0⟩ := is_at (i := i) (HH.out.below G4.out) (by rw [HHL.out]; exact hlt)
      obtain ⟨q0, q1⟩ := HHO.out i hlt
      have hR : Hid (Rch ns hs (nth hs i).toNat) := Lib.hid (.hold i (by rw [HHL.out]; exact hlt))
      obtain ⟨j, hj⟩ : ∃ j : Nat, nth hs i = j := ⟨(nth hs i).toNat, by omega⟩
      have HJ := Lib.hid hj
      rw [hj] at c0 q1 hR
      rw [Int.toNat_natCast] at hR
      have hjn : j < nl := by omega
      clear q0 q1 hj
      obtain ⟨d0, d1⟩ := ba_cell U4.out hjn
      have ld := U4.out.lt
      go_wp2_with fail
      go_round
      case rel =>
        have F5 := far_set wr (w.heap.size + 1) j (.bool true)
        exact ⟨i + 1, upd b j, by omega, by go_num, Lib.hid (fun x hx => by
          rcases upd_true.1 hx with rfl | z
          · exact hR.out
          · exact HS.out x z), Lib.hid (fun p hp => by
          rcases Nat.lt_or_ge p i with z | z
          · exact upd_true.2 (.inr (HP.out p z))
          · obtain rfl : p = i := by omega
            rw [HJ.out, Int.toNat_natCast]
            exact upd_true.2 (.inl rfl)), Lib.hid (ba_set U4.out j), Lib.hid (N4.out.far_ HG1.out F5), Lib.hid (bw_far G4.out (Nat.le_succ _) F5)⟩
      case measure => simp [intOf]; omega
    · obtain rfl : hl = i := by omega
      have t3 : decide ((hl : Int) < hl) = false := by simp
      have HF : Hid (Pas ns hs b 0 0) := Lib.hid ⟨HS.out, fun j hj => by
        obtain ⟨i, hi, rfl⟩ := hj
        exact HP.out i (by rw [HHL.out] at hi; exact hi), fun m hm => absurd hm (Nat.not_lt_zero _)⟩
      clear HS HP hlt hi
      go_wp2_with fail
      go_loopw [5, 6, 7] (fun k _ _ wq => ∃ (p : Nat) (b : Nat → Bool), p ≤ nl ∧ k = .int .i64 p ∧ Hid (Pas ns hs b p 0) ∧ Hid (HB wq (w.heap.size + 1) 4 (BA b nl)) ∧ Hid (HB wq w.heap.size 26 #[.slice Ad ql dc, .slice An nl nc, .slice Ah hl hc]) ∧ Hid (Below w.heap.size w wq)) (fun k _ _ _ => nl - (intOf k).toNat)
      case atStart => exact ⟨0, b, by omega, rfl, HF, U4, N4, G4⟩
      case round =>
        obtain ⟨p, b2, hp, rfl, HF2, U5, N5, G5⟩ := hrel
        clear HF U4 N4 G4 x0 x1 x2 lx
        obtain ⟨x0, x1, x2, _⟩ := N5.out.three
        have lx := N5.out.lt
        by_cases hlt : p < nl
        · have t3 : decide ((p : Int) < nl) = true := by simpa using hlt
          go_wp2_with fail
          go_loopw [6, 7] (fun k _ wq => ∃ (m : Nat) (b : Nat → Bool), m ≤ nl ∧ k = .int .i64 m ∧ Hid (Pas ns hs b p m) ∧ Hid (HB wq (w.heap.size + 1) 4 (BA b nl)) ∧ Hid (HB wq w.heap.size 26 #[.slice Ad ql dc, .slice An nl nc, .slice Ah hl hc]) ∧ Hid (Below w.heap.size w wq)) (fun k _ _ => nl - (intOf k).toNat)
          case atStart => exact ⟨0, b2, by omega, rfl, HF2, U5, N5, G5⟩
          case round =>
            obtain ⟨m, b3, hm, rfl, HF3, U6, N6, G6⟩ := hrel
            clear HF2 U5 N5 G5 x0 x1 x2 lx
            obtain ⟨x0, x1, x2, _⟩ := N6.out.three
            have lx := N6.out.lt
            by_cases hlm : m < nl
            · have t4 : decide ((m : Int) < nl) = true := by simpa using hlm
              obtain ⟨e1, e2⟩ := HKK.out m hlm
              have E1 := Lib.hid e1
              have HX := Lib.hid (HNA.out m w hlm HN.out)
              have HKR : Hid (∀ k, Rch ns hs m → k < (nn ns m).kids.length → Rch ns hs (nth (nn ns m).kids k).toNat) := Lib.hid (fun k h hk => .kid m k h (by rw [HNL.out]; exact hlm) hk)
              have HST : Hid (∀ b, Pas ns hs b p m → (b m = true → ∀ k, k < (nn ns m).kids.length → b (nth (nn ns m).kids k).toNat = true) → Pas ns hs b p (m + 1)) := Lib.hid (fun b h hk => pas_step h hk)
              generalize (nn ns m).kids = ks at *
              generalize hkl : ks.length = kl at *
              have HKL := Lib.hid hkl
              clear hkl e1
              go_wp2_with fail
              go_loopw [7] (fun k wq => ∃ (i : Nat) (b : Nat → Bool), i ≤ kl ∧ k = .int .i64 i ∧ Hid (Pas ns hs b p m) ∧ Hid (∀ q, q < i → b (nth ks q).toNat = true) ∧ Hid (HB wq (w.heap.size + 1) 4 (BA b nl)) ∧ Hid (HB wq w.heap.size 26 #[.slice Ad ql dc, .slice An nl nc, .slice Ah hl hc]) ∧ Hid (Below w.heap.size w wq)) (fun k _ => kl - (intOf k).toNat)
              case atStart => exact ⟨0, b3, by omega, rfl, HF3, Lib.hid (fun q hq => absurd hq (by omega)), U6, N6, G6⟩
              case round =>
                obtain ⟨i, b4, hi, rfl, HF4, HP, U7, N7, G7⟩ := hrel
                clear HF3 U6 N6 G6 x0 x1 x2 lx
                obtain ⟨x0, x1, x2, _⟩ := N7.out.three
                have lx := N7.out.lt
                have ld := U7.out.lt
                obtain ⟨f0, f1⟩ := ba_cell U7.out hlm
                by_cases hb : b4 m = true
                · have HBM := Lib.hid hb
                  rw [hb] at f0
                  clear hb
                  obtain ⟨bn, on, A', c', hAn, hbn, _, c1w, _, _, _, _, _, hX⟩ := HX.out
                  have c1 := (G7.out.cell (p := ⟨bn, on + m * 5 + 1, none⟩) hbn).trans c1w
                  subst hAn
                  clear c1w
                  by_cases hli : i < kl
                  · have t5 : decide ((i : Int) < kl) = true := by simpa using hli
                    obtain ⟨b1, o1, rfl, _, c0⟩ := is_at (i := i) (hX.below G7.out) (by rw [HKL.out]; exact hli)
                    obtain ⟨q0, q1⟩ := kin_at (j := i) E1.out (by rw [HKL.out]; exact hli)
                    have hR := Lib.hid (HKR.out i (HF4.out.1 m HBM.out) hli)
                    obtain ⟨j, hj⟩ : ∃ j : Nat, nth ks i = j := ⟨(nth ks i).toNat, by omega⟩
                    have HJ := Lib.hid hj
                    rw [hj] at c0 q1 hR
                    rw [Int.toNat_natCast] at hR
                    have hjn : j < nl := by omega
                    clear q0 q1 hj hX
                    obtain ⟨d0, d1⟩ := ba_cell U7.out hjn
                    go_wp2_with fail
                    go_round
                    case rel =>
                      have F5 := far_set wr (w.heap.size + 1) j (.bool true)
                      exact ⟨i + 1, upd b4 j, by omega, by go_num, Lib.hid (pas_upd HF4.out hR.out), Lib.hid (fun q hq => by
                        rcases Nat.lt_or_ge q i with z | z
                        · exact upd_true.2 (.inr (HP.out q z))
                        · obtain rfl : q = i := by omega
                          rw [HJ.out, Int.toNat_natCast]
                          exact upd_true.2 (.inl rfl)), Lib.hid (ba_set U7.out j), Lib.hid (N7.out.far_ HG1.out F5), Lib.hid (bw_far G7.out (Nat.le_succ _) F5)⟩
                    case measure => simp [intOf]; omega
                  · obtain rfl : kl = i := by omega
                    have t5 : decide ((kl : Int) < kl) = false := by simp
                    have HFE := Lib.hid (HST.out b4 HF4.out (fun _ k hk => HP.out k hk))
                    clear hX HP HF4
                    go_wp2_with fail
                    go_round
                    case rel => exact ⟨m + 1, b4, by omega, by go_num, HFE, U7, N7, G7⟩
                    case measure => simp [intOf]; omega
                · have hbf : b4 m = false := by simpa using hb
                  have HFE := Lib.hid (HST.out b4 HF4.out (fun z => absurd z (by rw [hbf]; decide)))
                  rw [hbf] at f0
                  clear hb hbf HP HF4
                  go_wp2_with fail
                  go_round
                  case rel => exact ⟨m + 1, b4, by omega, by go_num, HFE, U7, N7, G7⟩
                  case measure => simp [intOf]; omega
            · obtain rfl : nl = m := by omega
              have t4 : decide ((nl : Int) < nl) = false := by simp
              have HFE := Lib.hid (HNX.out b3 p HF3.out)
              clear HF3
              go_wp2_with fail
              go_round
              case rel => exact ⟨p + 1, b3, by omega, by go_num, HFE, U6, N6, G6⟩
              case measure => simp [intOf]; omega
        · obtain rfl : nl = p := by omega
          have t3 : decide ((nl : Int) < nl) = false := by simp
          go_wp2_with fail
          go_ret
          exact ⟨_, b2, rfl, U5.out, fun j _ => HPD.out b2 HF2.out j, G5.out⟩
set_option maxHeartbeats 1000000 in
theorem bools_same (b b' : Nat → Bool) (L g g' : Nat) (hl : L ≤ 200) (he : ∀ j, j < L → b j = b' j) (w : World) (ha : HB w g 4 (BA b L)) (hb : HB w g' 4 (BA b' L)) :
    Calls Try.prog 15 #[.slice (some ⟨g, 0, none⟩) L L, .slice (some ⟨g', 0, none⟩) L L] w fun e w' => e = .returned (.bool true) ∧ Below w.heap.size w w' := by
  have HA := Lib.hid ha
  have HB' := Lib.hid hb
  have HE := Lib.hid he
  clear ha hb he
  go_enter Try.func15, Try.ntmps15
  go_wp2_with fail
  go_loopw [5] (fun k wr => ∃ i : Nat, i ≤ L ∧ k = .int .i64 i ∧ Hid (∃ n, wr = w.drewN n)) (fun k _ => L - (intOf k).toNat)
  case atStart => exact ⟨0, by omega, rfl, 0, rfl⟩
  case round =>
    obtain ⟨i, hi, rfl, HW⟩ := hrel
    obtain ⟨n, hn⟩ := HW.out
    subst hn
    by_cases hlt : i < L
    · have t3 : decide ((i : Int) < L) = true := by simpa using hlt
      obtain ⟨c0, _⟩ := ba_cell HA.out hlt
      obtain ⟨d0, _⟩ := ba_cell HB'.out hlt
      rw [← HE.out i hlt] at d0
      generalize b i = x at *
      go_wp2_with fail
      go_quiet (fail)
      go_wp2_with fail
      go_round
      case rel => exact ⟨i + 1, by omega, by go_num, Lib.hid ⟨n + nq, by simp⟩⟩
      case measure => simp [intOf]; omega
    · obtain rfl : i = L := by omega
      have t3 : decide ((i : Int) < i) = false := by simp
      go_wp2_with fail
      go_ret
      exact ⟨rfl, below_dn (Below.refl _ _) _⟩
end Go.Proofs.Ytjflfelmiopicaa
