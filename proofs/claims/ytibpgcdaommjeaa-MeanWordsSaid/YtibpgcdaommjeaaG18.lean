/-
  Worlds: mean.Check.
  Values of nodes: which meaning a name has.
  Values of nodes: where an array's cell is; what an array maps a thing to.
-/
import Derived.Test.YtibpgcdaommjeaaG16
import Derived.Test.YtibpgcdaommjeaaG17
import Derived.StillTailTactics
import Derived.Test.YtibpgcdaommjeaaG15
namespace Go.Proofs.Ytibpgcdaommjeaa
open Go.RowKit

/-- What is wrong with the meaning of a name. -/
def mcF (qs : List Dc) (ms : List Mg) (i : Nat) : Int := mgC (dn qs i).args.length (dn qs i).sort (mn ms i)
/-- What is wrong with a world, and where. -/
def meC (qs : List Dc) (ns : List Nd) (hs : List Int) (ms : List Mg) : Int := if akC qs ns hs = 0 then (if ms.length = qs.length then fsC (mcF qs ms) qs.length qs.length else 9) else akC qs ns hs
def meA (qs : List Dc) (ns : List Nd) (hs : List Int) (ms : List Mg) : Int := if akC qs ns hs = 0 then (if ms.length = qs.length then fsA (mcF qs ms) qs.length qs.length else 0) else akA qs ns hs
theorem fs_a0 {code : Nat → Int} {n lim : Nat} (h : fsC code n lim = 0) : fsA code n lim = 0 ∧ n ≤ lim ∧ ∀ i, i < n → code i = 0 := by
  unfold fsC at h
  unfold fsA
  by_cases h1 : lim < n
  · rw [if_pos h1] at h
    exact absurd h (by decide)
  · rw [if_neg h1] at h ⊢
    by_cases h2 : fsI code n < n
    · rw [if_pos h2] at h
      exfalso
      have hl : fsI code n < (List.range n).length := by simpa using h2
      have := List.findIdx_getElem (w := hl)
      have e : (List.range n)[fsI code n] = fsI code n := List.getElem_range _
      have h9 : (code (List.range n)[fsI code n] != 0) = true := this
      rw [e, h] at h9
      simp at h9
    · rw [if_neg h2]
      refine ⟨rfl, by omega, fun i hi => ?_⟩
      have h3 : fsI code n = (List.range n).length := by
        have : fsI code n ≤ (List.range n).length := List.findIdx_le_length
        rw [List.length_range] at this ⊢
        omega
      have := List.findIdx_eq_length.1 h3 i (List.mem_range.2 hi)
      simpa using this
theorem ak_a0 {qs : List Dc} {ns : List Nd} {hs : List Int} (h : akC qs ns hs = 0) : akA qs ns hs = 0 ∧ (qs.length ≤ 30 ∧ ∀ i, i < qs.length → dcC qs i = 0) ∧ (ns.length ≤ 200 ∧ ∀ i, i < ns.length → nC qs ns i = 0) ∧ (hs.length ≤ 200 ∧ ∀ i, i < hs.length → hC qs ns hs i = 0) := by
  unfold akC at h
  unfold akA
  by_cases h1 : fsC (dcC qs) qs.length 30 = 0
  · rw [if_neg (by simpa using h1)] at h ⊢
    by_cases h2 : fsC (nC qs ns) ns.length 200 = 0
    · rw [if_neg (by simpa using h2)] at h ⊢
      exact ⟨(fs_a0 h).1, (fs_a0 h1).2, (fs_a0 h2).2, (fs_a0 h).2⟩
    · rw [if_pos (by simpa using h2)] at h
      exact absurd h h2
  · rw [if_pos (by simpa using h1)] at h
    exact absurd h h1
theorem dc_ok {qs : List Dc} {i : Nat} (h : dcC qs i = 0) : okSo (dn qs i).sort ∧ (dn qs i).args.length ≤ 8 ∧ ((dn qs i).sort = 5 → (dn qs i).args.length = 0) := by
  unfold dcC at h
  split at h
  · exact absurd h (by decide)
  · split at h
    · exact absurd h (by decide)
    · split at h
      · exact absurd h (by decide)
      · rename_i h8
        split at h
        · exact absurd h (by decide)
        · rename_i hk
          refine ⟨?_, by omega, fun z => ?_⟩
          · have : sSo (dn qs i).sort = true := by
              cases hs : sSo (dn qs i).sort with
              | true => rfl
              | false => exact absurd (.inl hs) hk
            unfold sSo sWd at this
            simp at this
            unfold okSo
            omega
          · rcases Nat.eq_zero_or_pos (dn qs i).args.length with y | y
            · exact y
            · exact absurd (.inr (.inr ⟨z, y⟩)) hk
/-- What there is in memory of an ask and a world. -/
structure AwAt (w : World) (qs : List Dc) (ns : List Nd) (hs : List Int) (ms : List Mg) (Ad An Ah Am : Option Addr) (dc nc hc mc : Nat) : Prop where
  d1 : qs.length ≤ dc
  d2 : dc ≤ maxLen
  n1 : ns.length ≤ nc
  n2 : nc ≤ maxLen
  h1 : hs.length ≤ maxLen
  h2 : True
  m1 : ms.length ≤ mc
  m2 : mc ≤ maxLen
  fd : DsAt w Ad qs
  fn : NsAt w An ns
  fh : Is w Ah hs
  fm : MsAt w Am ms
  wf : ∀ q ∈ ms, q.wf
theorem AwAt.below {w w' : World} {qs : List Dc} {ns : List Nd} {hs : List Int} {ms : List Mg} {Ad An Ah Am : Option Addr} {dc nc hc mc : Nat} (h : AwAt w qs ns hs ms Ad An Ah Am dc nc hc mc) (hb : Below w.heap.size w w') : AwAt w' qs ns hs ms Ad An Ah Am dc nc hc mc :=
  ⟨h.d1, h.d2, h.n1, h.n2, h.h1, h.h2, h.m1, h.m2, h.fd.below hb, h.fn.below hb, h.fh.below hb, h.fm.below hb, h.wf⟩
theorem ds_at' {w : World} {A : Option Addr} {qs : List Dc} {i : Nat} (h : DsAt w A qs) (hi : i < qs.length) :
    ∃ b o A' c, A = some ⟨b, o, none⟩ ∧ b < w.heap.size ∧ w.cell? ⟨b, o + i * 3, none⟩ = some (.string (dn qs i).name) ∧ w.cell? ⟨b, o + i * 3 + 1, none⟩ = some (.slice A' (dn qs i).args.length c) ∧
      w.cell? ⟨b, o + i * 3 + 2, none⟩ = some (.int .i64 (dn qs i).sort) ∧ (dn qs i).name.size ≤ maxLen ∧ (dn qs i).args.length ≤ c ∧ c ≤ maxLen ∧ Is w A' (dn qs i).args := by
  obtain ⟨b, o, e, l, k⟩ := h (by omega)
  obtain ⟨c0, c2, hs, A', c, c1, h1, h2, h3⟩ := k i _ (dn_of hi)
  exact ⟨b, o, A', c, e, l, c0, c1, c2, hs, h1, h2, h3⟩
set_option maxRecDepth 100000 in
set_option maxHeartbeats 8000000 in
theorem meancheck_any (qs : List Dc) (ns : List Nd) (hs : List Int) (ms : List Mg) (Ad An Ah Am : Option Addr) (dc nc hc mc : Nat) (w : World) (h : AwAt w qs ns hs ms Ad An Ah Am dc nc hc mc) :
    Calls Try.prog 13 #[.agg #[.slice Ad qs.length dc, .slice An ns.length nc, .slice Ah hs.length hc], .agg #[.slice Am ms.length mc]] w fun e w' => e = .returned (.agg #[.int .i64 (meC qs ns hs ms), .int .i64 (meA qs ns hs ms)]) ∧ Below w.heap.size w w' := by
  have HH := Lib.hid h
  have K1 := Lib.hid (fun W (hb : Below w.heap.size w W) => check_any qs ns hs Ad An Ah dc nc hc h.d1 h.d2 (Nat.le_trans h.n1 h.n2) h.h1 W (h.fd.below hb) (h.fn.below hb) (h.fh.below hb))
  have B0 : Hid (Below w.heap.size w (((w.alloc (.cells #[.slice Ad qs.length dc, .slice An ns.length nc, .slice Ah hs.length hc] 30)).alloc (.cells #[.slice Am ms.length mc] 36)).alloc (.cells #[.int .i64 0, .int .i64 0] 47))) := Lib.hid ((((Below.refl _ _).alloc (Nat.le_refl _) _).alloc (by simp) _).alloc (by simp; omega) _)
  have NA0 : Hid (HB (((w.alloc (.cells #[.slice Ad qs.length dc, .slice An ns.length nc, .slice Ah hs.length hc] 30)).alloc (.cells #[.slice Am ms.length mc] 36)).alloc (.cells #[.int .i64 0, .int .i64 0] 47)) w.heap.size 30 #[.slice Ad qs.length dc, .slice An ns.length nc, .slice Ah hs.length hc]) := Lib.hid (((HB.new _ _ _).alloc _).alloc _)
  have NW0 : Hid (HB (((w.alloc (.cells #[.slice Ad qs.length dc, .slice An ns.length nc, .slice Ah hs.length hc] 30)).alloc (.cells #[.slice Am ms.length mc] 36)).alloc (.cells #[.int .i64 0, .int .i64 0] 47)) (w.heap.size + 1) 36 #[.slice Am ms.length mc]) := Lib.hid ((HB.new1 _ _ _ _).alloc _)
  have NR0 : Hid (HB (((w.alloc (.cells #[.slice Ad qs.length dc, .slice An ns.length nc, .slice Ah hs.length hc] 30)).alloc (.cells #[.slice Am ms.length mc] 36)).alloc (.cells #[.int .i64 0, .int .i64 0] 47)) (w.heap.size + 1 + 1) 47 #[.int .i64 0, .int .i64 0]) := Lib.hid (HB.new2 _ _ _ _ _)
  have d2 := h.d2
  have m2 := h.m2
  have d1 := h.d1
  have m1 := h.m1
  unfold maxLen at d2 m2
  have HE : Hid (meC qs ns hs ms = (if akC qs ns hs = 0 then (if ms.length = qs.length then fsC (mcF qs ms) qs.length qs.length else 9) else akC qs ns hs) ∧ meA qs ns hs ms = (if akC qs ns hs = 0 then (if ms.length = qs.length then fsA (mcF qs ms) qs.length qs.length else 0) else akA qs ns hs)) := Lib.hid ⟨rfl, rfl⟩
  have HAK : Hid (akC qs ns hs = 0 → _) := Lib.hid (ak_a0 (qs := qs) (ns := ns) (hs := hs))
  clear h
  generalize meC qs ns hs ms = rC at *
  generalize meA qs ns hs ms = rA at *
  generalize hkC : akC qs ns hs = C at *
  generalize akA qs ns hs = A at *
  generalize ns.length = nl at *
  generalize hs.length = hl at *
  clear hkC
  by_cases hC : C = 0
  · subst hC
    obtain ⟨hA, ⟨hq30, hdc⟩, _, _⟩ := HAK.out rfl
    have HDC := Lib.hid hdc
    clear HAK hdc
    subst hA
    have HE2 : Hid (rC = (if ms.length = qs.length then fsC (mcF qs ms) qs.length qs.length else 9) ∧ rA = (if ms.length = qs.length then fsA (mcF qs ms) qs.length qs.length else 0)) := Lib.hid HE.out
    clear HE
    by_cases hm : ms.length = qs.length
    · have HR : Hid (rC = fsC (mcF qs ms) qs.length qs.length ∧ rA = fsA (mcF qs ms) qs.length qs.length) := Lib.hid (by
        have := HE2.out
        rw [if_pos hm, if_pos hm] at this
        exact this)
      have HM := Lib.hid hm
      have KD := Lib.hid (fun i (hi : i < qs.length) => dc_ok (HDC.out i hi))
      clear HE2 HDC
      rw [hm] at B0 NA0 NW0 NR0 m1 ⊢
      clear hm
      generalize hql : qs.length = ql at *
      have HQL := Lib.hid hql
      clear hql
      go_enter Try.func13, Try.ntmps13
      go_wp2_with fail
      refine (K1.out _ B0.out).mono ?_
      rintro e w1 ⟨rfl, hb1⟩
      have F1 := Lib.hid (new_below w1 (.cells #[.int .i64 0, .int .i64 0] 47))
      have B1 : Hid (Below w.heap.size w (w1.alloc (.cells #[.int .i64 0, .int .i64 0] 47))) := Lib.hid (below_after (below_after B0.out hb1) F1.out)
      have NA1 := Lib.hid ((NA0.out.below hb1).below F1.out)
      have NW1 := Lib.hid ((NW0.out.below hb1).below F1.out)
      have NR1 := Lib.hid ((NR0.out.below hb1).below F1.out)
      clear hb1 B0 NA0 NW0 NR0 K1 F1
      obtain ⟨a0, a1, a2, _⟩ := NA1.out.three
      obtain ⟨w0, _⟩ := NW1.out.one
      obtain ⟨r0, r1, r2, r3⟩ := NR1.out.two
      have la := NA1.out.lt
      have lw := NW1.out.lt
      have lr := NR1.out.lt
      go_wp2_with fail
      go_loopw [26] (fun k wr => ∃ i : Nat, i ≤ ql ∧ k = .int .i64 i ∧ Hid (∀ j, j < i → mcF qs ms j = 0) ∧ Hid (Below w.heap.size w wr) ∧ Hid (HB wr w.heap.size 30 #[.slice Ad ql dc, .slice An nl nc, .slice Ah hl hc]) ∧ Hid (HB wr (w.heap.size + 1) 36 #[.slice Am ql mc]) ∧ Hid (HB wr (w.heap.size + 1 + 1) 47 #[.int .i64 0, .int .i64 0])) (fun k _ => ql - (intOf k).toNat)
      case atStart => exact ⟨0, by omega, rfl, Lib.hid (fun j hj => absurd hj (by omega)), B1, NA1, NW1, NR1⟩
      case round =>
        clear a0 a1 a2 w0 r0 r1 r2 r3 la lw lr
        obtain ⟨i, hi, rfl, HP, HB1, HA1, HW1, HR1⟩ := hrel
        obtain ⟨w0, _⟩ := HW1.out.one
        obtain ⟨r0, r1, r2, r3⟩ := HR1.out.two
        have lw := HW1.out.lt
        have lr := HR1.out.lt
        by_cases hlt : i < ql
        · have t3 : decide ((i : Int) < ql) = true := by simpa using hlt
          have HAW := Lib.hid (HH.out.below (HB1.out.mono (Nat.le_refl _)))
          obtain ⟨b1, o1, Ag, gc, rfl, lb1, c0, c1, c2, _, hg1, hg2, hg3⟩ := ds_at' (i := i) HAW.out.fd (by rw [HQL.out]; exact hlt)
          obtain ⟨b2, o2, rfl, lb2, ⟨⟨Ar, rc, e0, hr1, hr2, hr3⟩, e1, e2, e4, Ac, cc, e3, hc1, hc2, hc3⟩⟩ := ms_at (i := i) HAW.out.fm (by rw [HM.out]; exact hlt)
          have KW := Lib.hid (fun W (hb : Below wr.heap.size wr W) => wrongmeaning_any (dn qs i).name (dn qs i).args Ag Ar Ac gc rc cc (dn qs i).sort (mn ms i) (KD.out i hlt).1 hg1 hg2 (KD.out i hlt).2.1 hr1 hr2 hc1 hc2 (HAW.out.wf _ (by simp [mn, List.getD, HM.out, hlt])) W (hr3.below hb) (hc3.below hb))
          have HF : Hid (mcF qs ms i = mgC (dn qs i).args.length (dn qs i).sort (mn ms i)) := Lib.hid rfl
          clear hg3 hr3 hc3
          generalize mgC (dn qs i).args.length (dn qs i).sort (mn ms i) = C9 at *
          generalize (dn qs i).args.length = al at *
          generalize (dn qs i).name = nm at *
          generalize (dn qs i).sort = so at *
          generalize (mn ms i).rows.length = rl at *
          generalize (mn ms i).rest.cells.length = cl at *
          generalize (mn ms i).rest.num = vn at *
          generalize (mn ms i).rest.den = vd at *
          generalize (mn ms i).rest.rest = vr at *
          go_wp2_with fail
          have NB2 := Lib.hid (new_below wr (.cells #[.string nm, .slice Ag al gc, .int .i64 so] 45))
          have XW : Hid (Calls Try.prog 20 #[.agg #[.string nm, .slice Ag al gc, .int .i64 so], .agg #[.slice Ar rl rc, .int .i64 vn, .int .i64 vd, .slice Ac cl cc, .int .i64 vr]] (wr.alloc (.cells #[.string nm, .slice Ag al gc, .int .i64 so] 45)).drew fun e w' => e = .returned (.int .i64 C9) ∧ Below wr.heap.size wr w') := Lib.hid ((KW.out _ NB2.out.drew).mono fun e w' ⟨h1, h2⟩ => ⟨h1, NB2.out.drew.trans (h2.mono (by show _ ≤ ((wr.alloc _).drew).heap.size; simp [World.drew]))⟩)
          go_region_with (go_at_call 20; (with_reducible refine XW.out.mono ?_); rintro e w2 ⟨rfl, hb2⟩; have G2 : Hid (Below w.heap.size w w2) := bw_below (Nat.le_refl _) HB1.out hb2; have A2 := Lib.hid (HA1.out.below hb2); have W2 := Lib.hid (HW1.out.below hb2); have R2 := Lib.hid (HR1.out.below hb2); clear hb2)
          all_goals
            clear w0 r0 r1 r2 r3 lw lr
            by_cases h9 : C9 = 0
            · subst h9
              go_wp2_with fail
              go_round
              case rel => exact ⟨i + 1, by omega, by go_num, Lib.hid (fun j hj => by
                rcases Nat.lt_or_ge j i with z | z
                · exact HP.out j z
                · obtain rfl : j = i := by omega
                  exact HF.out), G2, A2, W2, R2⟩
              case measure => simp [intOf]; omega
            · have t9 : (C9 != 0) = true := by simpa using h9
              have HZ := Lib.hid (fs_at (code := mcF qs ms) (lim := ql) (Nat.le_refl _) hlt HP.out (by rw [HF.out]; exact h9))
              clear h9
              obtain ⟨r0, r1, r2, r3⟩ := R2.out.two
              have lr := R2.out.lt
              have RR := (hb_set2 (n := .int .i64 C9) (d := .int .i64 i) R2.out)
              have FF := bw_far G2.out (by omega) (far2 w2 (w.heap.size + 1 + 1) (.int .i64 C9) (.int .i64 i))
              obtain ⟨y0, y1, _, _⟩ := RR.two
              go_wp2_with fail
              refine bodyPost_ret (v := .agg #[.int .i64 C9, .int .i64 i]) (by simp [results, Try.results13, go_sem, y0, y1]) rfl ⟨by rw [HR.out.1, HR.out.2, HZ.out.1, HZ.out.2, HF.out], FF⟩
        · obtain rfl : i = ql := by omega
          have t3 : decide ((i : Int) < i) = false := by simp
          have HZ := Lib.hid (fs_ok (code := mcF qs ms) (lim := i) (Nat.le_refl _) HP.out)
          have RR := (hb_set2 (n := .int .i64 0) (d := .int .i64 0) HR1.out)
          have FF := bw_far HB1.out (by omega) (far2 wr (w.heap.size + 1 + 1) (.int .i64 0) (.int .i64 0))
          obtain ⟨y0, y1, _, _⟩ := RR.two
          go_wp2_with fail
          refine bodyPost_ret (v := .agg #[.int .i64 0, .int .i64 0]) (by simp [results, Try.results13, go_sem, y0, y1]) rfl ⟨by rw [HR.out.1, HR.out.2, HZ.out.1, HZ.out.2], FF⟩
    · have HR : Hid (rC = 9 ∧ rA = 0) := Lib.hid (by
        have := HE2.out
        rw [if_neg hm, if_neg hm] at this
        exact this)
      have t9 : ((ms.length : Int) != qs.length) = true := by simp; omega
      clear HE2 HDC hm
      generalize qs.length = ql at *
      generalize ms.length = ml at *
      go_enter Try.func13, Try.ntmps13
      go_wp2_with fail
      refine (K1.out _ B0.out).mono ?_
      rintro e w1 ⟨rfl, hb1⟩
      have F1 := Lib.hid (new_below w1 (.cells #[.int .i64 0, .int .i64 0] 47))
      have B1 : Hid (Below w.heap.size w (w1.alloc (.cells #[.int .i64 0, .int .i64 0] 47))) := Lib.hid (below_after (below_after B0.out hb1) F1.out)
      have NA1 := Lib.hid ((NA0.out.below hb1).below F1.out)
      have NW1 := Lib.hid ((NW0.out.below hb1).below F1.out)
      have NR1 := Lib.hid ((NR0.out.below hb1).below F1.out)
      clear hb1 B0 NA0 NW0 NR0 K1 F1
      obtain ⟨a0, a1, a2, _⟩ := NA1.out.three
      obtain ⟨w0, _⟩ := NW1.out.one
      obtain ⟨r0, r1, r2, r3⟩ := NR1.out.two
      have la := NA1.out.lt
      have lw := NW1.out.lt
      have lr := NR1.out.lt
      have RR := hb_set2 (n := .int .i64 9) (d := .int .i64 0) NR1.out
      have FF := bw_far B1.out (by omega) (far2 _ (w.heap.size + 1 + 1) (.int .i64 9) (.int .i64 0))
      obtain ⟨y0, y1, _, _⟩ := RR.two
      go_wp2_with fail
      refine bodyPost_ret (v := .agg #[.int .i64 9, .int .i64 0]) (by simp [results, Try.results13, go_sem, y0, y1]) rfl ⟨by rw [HR.out.1, HR.out.2], FF⟩
  · have tC : (C == 0) = false := by simpa using hC
    have HR : Hid (rC = C ∧ rA = A) := Lib.hid (by
      have := HE.out
      rw [if_neg hC, if_neg hC] at this
      exact this)
    clear HE HAK hC
    generalize qs.length = ql at *
    generalize ms.length = ml at *
    go_enter Try.func13, Try.ntmps13
    go_wp2_with fail
    refine (K1.out _ B0.out).mono ?_
    rintro e w1 ⟨rfl, hb1⟩
    have B1 : Hid (Below w.heap.size w (w1.alloc (.cells #[.int .i64 C, .int .i64 A] 47))) := Lib.hid (below_after (below_after B0.out hb1) (new_below _ _))
    have NR1 := Lib.hid ((NR0.out.below hb1).alloc (.cells #[.int .i64 C, .int .i64 A] 47))
    clear hb1 B0 NA0 NW0 NR0 K1
    obtain ⟨r0, r1, r2, r3⟩ := NR1.out.two
    have lr := NR1.out.lt
    have RR := hb_set2 (n := .int .i64 C) (d := .int .i64 A) NR1.out
    have FF := bw_far B1.out (by omega) (far2 _ (w.heap.size + 1 + 1) (.int .i64 C) (.int .i64 A))
    obtain ⟨y0, y1, _, _⟩ := RR.two
    go_wp2_with fail
    refine bodyPost_ret (v := .agg #[.int .i64 C, .int .i64 A]) (by simp [results, Try.results13, go_sem, y0, y1]) rfl ⟨by rw [HR.out.1, HR.out.2], FF⟩
end Go.Proofs.Ytibpgcdaommjeaa
namespace Go.Proofs.Ytibpgcdaommjeaa
open Go.RowKit

theorem decl1_any_v (n s : ByteArray) (A' : Option Addr) (k c' : Nat) (t : Int) (g : Nat) (w : World) (hg : HB w g 9 #[.string s]) :
    Calls Try.prog 17 #[.agg #[.string n, .slice A' k c', .int .i64 t], .pointer (some ⟨g, 0, none⟩)] w fun e w' => e = .returned (.bool (n.toList == s.toList)) ∧ Below w.heap.size w w' := by
  obtain ⟨h0, h1⟩ := (hg.alloc (.cells #[.string n, .slice A' k c', .int .i64 t] 45)).one
  clear hg
  go_enter Try.func17, Try.ntmps17
  go_wp2
  go_ret
  exact ⟨rfl, new_below _ _⟩
set_option maxHeartbeats 1000000 in
theorem indexv_any (qs : List Dc) (A : Option Addr) (c : Nat) (s : ByteArray) (g : Nat) (hl : qs.length ≤ maxLen) (w : World) (h : DsAt w A qs) (hg : HB w g 9 #[.string s]) :
    Calls Try.prog 16 #[.slice A qs.length c, .func (.func 17) #[] #[.pointer (some ⟨g, 0, none⟩)]] w fun e w' => e = .returned (.int .i64 (fdZ qs s)) ∧ Below w.heap.size w w' := by
  have HA := Lib.hid h
  have HG := Lib.hid hg
  unfold maxLen at hl
  generalize hL : qs.length = L at *
  have HL := Lib.hid hL
  clear h hL hg
  go_enter Try.func16, Try.ntmps16
  go_wp2_with fail
  go_loopw [5, 8] (fun _ k wr => ∃ i : Nat, i ≤ L ∧ k = .int .i64 i ∧ Hid (∀ j, j < i → ((dn qs j).name.toList == s.toList) = false) ∧ Hid (Below w.heap.size w wr)) (fun _ k _ => L - (intOf k).toNat)
  case atStart => exact ⟨0, by omega, rfl, fun j hj => absurd hj (by omega), Below.refl _ _⟩
  case round =>
    obtain ⟨i, hi, rfl, HP, HB⟩ := hrel
    by_cases hlt : i < L
    · obtain ⟨b, o, A', c', rfl, hb, c0, c1, c2, _⟩ := ds_at (i := i) (HA.out.below HB.out) (by rw [HL.out]; exact hlt)
      have t3 : decide ((i : Int) < L) = true := by simpa using hlt
      cases d : (dn qs i).name.toList == s.toList with
      | true =>
        have HD := Lib.hid d
        have HE := Lib.hid (fdz_hit (by rw [HL.out]; exact hlt) HP.out d)
        clear d
        go_wp2_with fail
        refine (decl1_any_v (dn qs i).name s A' (dn qs i).args.length c' (dn qs i).sort g _ (HG.out.below HB.out)).mono ?_
        rintro e w1 ⟨rfl, hb1⟩
        have G1 : Hid (Below w.heap.size w w1) := bw_below (Nat.le_refl _) HB.out hb1
        clear hb1
        rw [HD.out]
        go_wp2_with fail
        go_ret
        rw [HE.out]
        exact ⟨rfl, G1.out⟩
      | false =>
        have HD := Lib.hid d
        clear d
        go_wp2_with fail
        refine (decl1_any_v (dn qs i).name s A' (dn qs i).args.length c' (dn qs i).sort g _ (HG.out.below HB.out)).mono ?_
        rintro e w1 ⟨rfl, hb1⟩
        have G1 : Hid (Below w.heap.size w w1) := bw_below (Nat.le_refl _) HB.out hb1
        clear hb1
        rw [HD.out]
        go_wp2_with fail
        go_round
        case rel => exact ⟨i + 1, by omega, by go_num, fun j hj => by
          rcases Nat.lt_or_ge j i with z | z
          · exact HP.out j z
          · obtain rfl : j = i := by omega
            exact HD.out, G1.out⟩
        case measure => simp [intOf]; omega
    · obtain rfl : i = L := by omega
      have t3 : decide ((i : Int) < i) = false := by simp
      have HE := Lib.hid (fdz_miss (qs := qs) (s := s) (fun j hj => HP.out j (by rw [HL.out] at hj; exact hj)))
      clear hlt
      go_wp2_with fail
      go_ret
      rw [HE.out]
      exact ⟨rfl, HB.out⟩
/-- A meaning's five cells. -/
@[reducible] def ClsE (gw ga b o : Nat) (sw sa x0 x1 x2 x3 x4 : Value) (W : World) : Prop := W.cell? ⟨gw, 0, none⟩ = some sw ∧ W.cell? ⟨ga, 0, none⟩ = some sa ∧ W.cell? ⟨b, o, none⟩ = some x0 ∧ W.cell? ⟨b, o + 1, none⟩ = some x1 ∧ W.cell? ⟨b, o + (1 + 1), none⟩ = some x2 ∧ W.cell? ⟨b, o + (1 + 2), none⟩ = some x3 ∧ W.cell? ⟨b, o + (1 + 3), none⟩ = some x4
theorem far5 (w : World) (g : Nat) (v1 v2 v3 v4 v5 : Value) : Far g w (((((w.setCell ⟨g, 0, none⟩ v1).setCell ⟨g, 1, none⟩ v2).setCell ⟨g, 2, none⟩ v3).setCell ⟨g, 3, none⟩ v4).setCell ⟨g, 4, none⟩ v5) := (far4 w g v1 v2 v3 v4).trans (far_set _ g 4 v5)
theorem hb_set5 {w : World} {g t : Nat} {x0 x1 x2 x3 x4 n d e f h5 : Value} (h : HB w g t #[x0, x1, x2, x3, x4]) : HB (((((w.setCell ⟨g, 0, none⟩ n).setCell ⟨g, 1, none⟩ d).setCell ⟨g, 2, none⟩ e).setCell ⟨g, 3, none⟩ f).setCell ⟨g, 4, none⟩ h5) g t #[n, d, e, f, h5] := by
  have := ((((h.set_ 0 n).set_ 1 d).set_ 2 e).set_ 3 f).set_ 4 h5
  simpa using this
theorem hb_ff {w : World} {g t : Nat} {x0 x1 x2 x3 x4 : Value} (h : HB w g t #[x0, x1, x2, x3, x4]) : (w.cell? ⟨g, 0, none⟩ = some x0 ∧ w.cell? ⟨g, 1, none⟩ = some x1 ∧ w.cell? ⟨g, 2, none⟩ = some x2 ∧ w.cell? ⟨g, 3, none⟩ = some x3 ∧ w.cell? ⟨g, 4, none⟩ = some x4) ∧
    w.frozen? ⟨g, 0, none⟩ = false ∧ w.frozen? ⟨g, 1, none⟩ = false ∧ w.frozen? ⟨g, 2, none⟩ = false ∧ w.frozen? ⟨g, 3, none⟩ = false ∧ w.frozen? ⟨g, 4, none⟩ = false :=
  ⟨h.five, h.frozen 0, h.frozen 1, h.frozen 2, h.frozen 3, h.frozen 4⟩
theorem clse_dr {gw ga b o : Nat} {sw sa x0 x1 x2 x3 x4 : Value} {W : World} (k : ClsE gw ga b o sw sa x0 x1 x2 x3 x4 W) : ClsE gw ga b o sw sa x0 x1 x2 x3 x4 W.drew := k
theorem clse_set {gw ga b o h : Nat} {sw sa x0 x1 x2 x3 x4 : Value} {W : World} (k : ClsE gw ga b o sw sa x0 x1 x2 x3 x4 W) (h1 : gw ≠ h) (h2 : ga ≠ h) (h3 : b ≠ h) (v1 v2 v3 v4 v5 : Value) : ClsE gw ga b o sw sa x0 x1 x2 x3 x4 (((((W.setCell ⟨h, 0, none⟩ v1).setCell ⟨h, 1, none⟩ v2).setCell ⟨h, 2, none⟩ v3).setCell ⟨h, 3, none⟩ v4).setCell ⟨h, 4, none⟩ v5) := by
  have F := far5 W h v1 v2 v3 v4 v5
  exact ⟨(World.cell?_of_block (F.block _ h1)).trans k.1, (World.cell?_of_block (F.block _ h2)).trans k.2.1, (World.cell?_of_block (F.block _ h3)).trans k.2.2.1, (World.cell?_of_block (F.block _ h3)).trans k.2.2.2.1, (World.cell?_of_block (F.block _ h3)).trans k.2.2.2.2.1, (World.cell?_of_block (F.block _ h3)).trans k.2.2.2.2.2.1, (World.cell?_of_block (F.block _ h3)).trans k.2.2.2.2.2.2⟩
set_option maxRecDepth 100000 in
set_option maxHeartbeats 4000000 in
theorem clos_any (qs : List Dc) (ms : List Mg) (nm : ByteArray) (Ad Am An Ah : Option Addr) (dc mc nl nc hl hc gw ga i : Nat) (hq : qs.length ≤ maxLen) (_hm : ms.length ≤ maxLen) (hi : fdZ qs nm = i) (him : i < ms.length) (w : World) (hd : DsAt w Ad qs) (hms : MsAt w Am ms)
    (hgw : HB w gw 36 #[.slice Am ms.length mc]) (hga : HB w ga 30 #[.slice Ad qs.length dc, .slice An nl nc, .slice Ah hl hc]) :
    ∃ Ar cr Ac cc, EsAt w Ar (mn ms i).rows ∧ CsAt w Ac (mn ms i).rest.cells ∧ (mn ms i).rows.length ≤ maxLen ∧ ∀ W, Below w.heap.size w W → Calls Try.prog 15 #[.string nm, .pointer (some ⟨gw, 0, none⟩), .pointer (some ⟨ga, 0, none⟩)] W fun e w' => e = .returned (.agg #[.slice Ar (mn ms i).rows.length cr, .int .i64 (mn ms i).rest.num, .int .i64 (mn ms i).rest.den, .slice Ac (mn ms i).rest.cells.length cc, .int .i64 (mn ms i).rest.rest]) ∧ Below W.heap.size W w' := by
  obtain ⟨b, o, rfl, hb, ⟨Ar, cr, x0, hr1, hr2, hes⟩, x1, x2, x4, Ac, cc, x3, hc1, hc2, hcs⟩ := ms_at hms him
  refine ⟨Ar, cr, Ac, cc, hes, hcs, Nat.le_trans hr1 hr2, fun W k => ?_⟩
  have XI := Lib.hid (fun (X : World) (g : Nat) (kx : Below w.heap.size w X) (hg : HB X g 9 #[.string nm]) => indexv_any qs Ad dc nm g hq X (hd.below kx) hg)
  rw [hi] at XI
  have KE : Hid (∀ X, Below w.heap.size w X → ClsE gw ga b (o + i * 5) (.slice (some ⟨b, o, none⟩) ms.length mc) (.slice Ad qs.length dc) (.slice Ar (mn ms i).rows.length cr) (.int .i64 (mn ms i).rest.num) (.int .i64 (mn ms i).rest.den) (.slice Ac (mn ms i).rest.cells.length cc) (.int .i64 (mn ms i).rest.rest) X) := Lib.hid (fun X kx =>
    ⟨(kx.cell (p := ⟨gw, 0, none⟩) hgw.lt).trans (hgw.cell 0), (kx.cell (p := ⟨ga, 0, none⟩) hga.lt).trans (hga.cell 0), (kx.cell (p := ⟨b, o + i * 5, none⟩) hb).trans x0, (kx.cell (p := ⟨b, o + i * 5 + 1, none⟩) hb).trans x1, (kx.cell (p := ⟨b, o + i * 5 + (1 + 1), none⟩) hb).trans x2, (kx.cell (p := ⟨b, o + i * 5 + (1 + 2), none⟩) hb).trans x3, (kx.cell (p := ⟨b, o + i * 5 + (1 + 3), none⟩) hb).trans x4⟩)
  have li : (i : Int) < ms.length := by omega
  have li' : i < ms.length := him
  have KW := Lib.hid k
  have HS := Lib.hid (HB.new W 9 #[.string nm])
  have HR := Lib.hid (HB.new1 W (.cells #[.string nm] 9) 53 #[.slice none 0 0, .int .i64 0, .int .i64 0, .slice none 0 0, .int .i64 0])
  unfold maxLen at _hm hq
  generalize (mn ms i).rows.length = rl at *
  generalize (mn ms i).rest.num = vn at *
  generalize (mn ms i).rest.den = vd at *
  generalize (mn ms i).rest.cells.length = vl at *
  generalize (mn ms i).rest.rest = vr at *
  generalize ms.length = ml at *
  generalize qs.length = ql at *
  have NE : gw ≠ W.heap.size + 1 ∧ ga ≠ W.heap.size + 1 ∧ b ≠ W.heap.size + 1 := by
    have a1 := hgw.lt
    have a2 := hga.lt
    have a3 := k.size
    omega
  clear hd hms hgw hga hes hcs x0 x1 x2 x3 x4 hr1 hr2 hc1 hc2 k
  have BX : Hid (Below w.heap.size w ((W.alloc (.cells #[.string nm] 9)).alloc (.cells #[.slice none 0 0, .int .i64 0, .int .i64 0, .slice none 0 0, .int .i64 0] 53))) := Lib.hid (bw_below (Nat.le_refl _) (bw_below (Nat.le_refl _) KW.out (new_below _ _)) (new_below _ _))
  have BW2 : Hid (Below W.heap.size W ((W.alloc (.cells #[.string nm] 9)).alloc (.cells #[.slice none 0 0, .int .i64 0, .int .i64 0, .slice none 0 0, .int .i64 0] 53))) := Lib.hid (bw_below (Nat.le_refl _) (new_below _ _) (new_below _ _))
  have HS2 := Lib.hid (HS.out.alloc (.cells #[.slice none 0 0, .int .i64 0, .int .i64 0, .slice none 0 0, .int .i64 0] 53))
  go_enter Try.func15, Try.ntmps15
  go_upto_region 1 with fail
  generalize hX : (W.alloc (.cells #[.string nm] 9)).alloc (.cells #[.slice none 0 0, .int .i64 0, .int .i64 0, .slice none 0 0, .int .i64 0] 53) = X at *
  go_region_held3 (fun X => ClsE gw ga b (o + i * 5) (.slice (some ⟨b, o, none⟩) ml mc) (.slice Ad ql dc) (.slice Ar rl cr) (.int .i64 vn) (.int .i64 vd) (.slice Ac vl cc) (.int .i64 vr) X)
    ((first | (with_reducible exact KE.out _ G2.out) | (with_reducible exact KE.out _ BX.out) | (with_reducible exact KE.out _ BX.out.drew) | (with_reducible exact clse_dr (KE.out _ G2.out)) | (with_reducible exact clse_set (KE.out _ G2.out) NE.1 NE.2.1 NE.2.2 _ _ _ _ _) | (with_reducible exact clse_dr (clse_set (KE.out _ G2.out) NE.1 NE.2.1 NE.2.2 _ _ _ _ _))))
    (first
      | (go_at_call 16; refine (XI.out _ (W.heap.size) (by first | exact BX.out | exact BX.out.drew) (by first | exact HS2.out | exact HS2.out.drew)).mono ?_; rintro e w2 ⟨rfl, hb3⟩; have hb2 : Below X.heap.size X w2 := (by first | exact hb3 | exact ((Below.refl X.heap.size X).drew).trans hb3); have G2 : Hid (Below w.heap.size w w2) := Lib.hid (bw_below (Nat.le_refl _) BX.out hb2); have R2 : Hid (HB w2 (W.heap.size + 1) 53 #[.slice none 0 0, .int .i64 0, .int .i64 0, .slice none 0 0, .int .i64 0]) := Lib.hid (HR.out.below hb2); have B2 : Hid (Below W.heap.size W w2) := Lib.hid (bw_below (Nat.le_refl _) BW2.out hb2); obtain ⟨⟨r0, r1, r2, r3, r4⟩, s0, s1, s2, s3, s4⟩ := hb_ff R2.out; clear hb2 hb3))
  all_goals
    have Z5 := hb_set5 (n := .slice Ar rl cr) (d := .int .i64 vn) (e := .int .i64 vd) (f := .slice Ac vl cc) (h5 := .int .i64 vr) R2.out
    obtain ⟨⟨z0, z1, z2, z3, z4⟩, -⟩ := hb_ff Z5
    have BZ := bw_far B2.out (Nat.le_succ _) (far5 w2 (W.heap.size + 1) (.slice Ar rl cr) (.int .i64 vn) (.int .i64 vd) (.slice Ac vl cc) (.int .i64 vr))
    clear r0 r1 r2 r3 r4 s0 s1 s2 s3 s4 Z5
    go_wp2_with fail
    exact bodyPost_ret (v := .agg #[.slice Ar rl cr, .int .i64 vn, .int .i64 vd, .slice Ac vl cc, .int .i64 vr]) (by simp [results, Try.results15, go_sem, z0, z1, z2, z3, z4]) rfl ⟨rfl, BZ⟩
end Go.Proofs.Ytibpgcdaommjeaa
namespace Go.Proofs.Ytibpgcdaommjeaa
open Go.RowKit

/-- Comparing whole numbers. -/
def cmp3 (a b : Int) : Int := if a < b then -1 else if b < a then 1 else 0
theorem isnan_any (a : Int) (w : World) : Calls Try.prog 99 #[.int .i64 a] w fun e w' => e = .returned (.bool false) ∧ w' = w := by
  go_enter Try.func99, Try.ntmps99
  go_wp2_with fail
  go_ret
  exact ⟨by simp, rfl⟩
set_option maxHeartbeats 1000000 in
theorem cmp_any (a b : Int) (w : World) : Calls Try.prog 89 #[.int .i64 a, .int .i64 b] w fun e w' => e = .returned (.int .i64 (cmp3 a b)) ∧ w' = w := by
  have HN := Lib.hid isnan_any
  by_cases h1 : a < b
  · have t1 : decide (a < b) = true := by simpa using h1
    rw [show cmp3 a b = -1 by unfold cmp3; rw [if_pos h1]]
    clear h1
    go_enter Try.func89, Try.ntmps89
    go_wp2_with fail
    refine (HN.out _ _).mono ?_
    rintro e w1 ⟨rfl, rfl⟩
    go_wp2_with fail
    refine (HN.out _ _).mono ?_
    rintro e w1 ⟨rfl, rfl⟩
    go_wp2_with fail
    go_ret
    exact ⟨rfl, rfl⟩
  · have t1 : decide (a < b) = false := by simpa using h1
    by_cases h2 : b < a
    · have t2 : decide (b < a) = true := by simpa using h2
      rw [show cmp3 a b = 1 by unfold cmp3; rw [if_neg h1, if_pos h2]]
      clear h1 h2
      go_enter Try.func89, Try.ntmps89
      go_wp2_with fail
      refine (HN.out _ _).mono ?_
      rintro e w1 ⟨rfl, rfl⟩
      go_wp2_with fail
      refine (HN.out _ _).mono ?_
      rintro e w1 ⟨rfl, rfl⟩
      go_wp2_with fail
      go_ret
      exact ⟨rfl, rfl⟩
    · have t2 : decide (b < a) = false := by simpa using h2
      rw [show cmp3 a b = 0 by unfold cmp3; rw [if_neg h1, if_neg h2]]
      clear h1 h2
      go_enter Try.func89, Try.ntmps89
      go_wp2_with fail
      refine (HN.out _ _).mono ?_
      rintro e w1 ⟨rfl, rfl⟩
      go_wp2_with fail
      refine (HN.out _ _).mono ?_
      rintro e w1 ⟨rfl, rfl⟩
      go_wp2_with fail
      go_ret
      exact ⟨rfl, rfl⟩
theorem find1_any (a i t : Int) (w : World) : Calls Try.prog 88 #[.agg #[.int .i64 a, .int .i64 i], .int .i64 t] w fun e w' => e = .returned (.int .i64 (cmp3 a t)) ∧ Below w.heap.size w w' := by
  go_enter Try.func88, Try.ntmps88
  go_wp2_with fail
  refine (cmp_any _ _ _).mono ?_
  rintro e w1 ⟨rfl, rfl⟩
  go_wp2_with fail
  go_ret
  exact ⟨rfl, by go_grown⟩
/-- Cells in order. -/
def Srt (cs : List (Int × Int)) : Prop := ∀ i j, i < j → j < cs.length → (cn cs i).1 < (cn cs j).1
/-- Where the cell of a thing is, or would be. -/
def AtI (cs : List (Int × Int)) (t : Int) (i : Nat) : Prop := i ≤ cs.length ∧ (∀ k, k < i → (cn cs k).1 < t) ∧ ∀ k, i ≤ k → k < cs.length → t ≤ (cn cs k).1
theorem cmp3_lt {a b : Int} (h : a < b) : decide (cmp3 a b < 0) = true := by unfold cmp3; rw [if_pos h]; rfl
theorem cmp3_ge {a b : Int} (h : b ≤ a) : decide (cmp3 a b < 0) = false := by
  unfold cmp3
  rw [if_neg (by omega)]
  split <;> rfl
theorem cmp3_eq (a b : Int) (h : b ≤ a) : (cmp3 a b == 0) = (a == b) := by
  unfold cmp3
  rw [if_neg (by omega)]
  by_cases z : b < a
  · rw [if_pos z, show (a == b) = false by rw [beq_eq_false_iff_ne]; omega]; rfl
  · rw [if_neg z, show (a == b) = true by rw [beq_iff_eq]; omega]; rfl
theorem half_eq (i j : Nat) (_h : i + j ≤ 4611686018427387904) : ((i : Int) + j) / 2 = ((i + j) / 2 : Nat) := by omega
set_option maxRecDepth 100000 in
set_option maxHeartbeats 4000000 in
theorem bsearch_any (cs : List (Int × Int)) (A : Option Addr) (c : Nat) (t : Int) (hl : cs.length ≤ 2000) (hs : Srt cs) (w : World) (h : CsAt w A cs) :
    Calls Try.prog 87 #[.slice A cs.length c, .int .i64 t, .func (.func 88) #[] #[]] w fun e w' => ∃ i : Nat, e = .returned (.tuple #[.int .i64 i, .bool (decide (i < cs.length) && (cn cs i).1 == t)]) ∧ Hid (AtI cs t i) ∧ Below w.heap.size w w' := by
  have HA := Lib.hid h
  have HF := Lib.hid find1_any
  have HS := Lib.hid hs
  generalize hL : cs.length = L at *
  have HL := Lib.hid hL
  clear h hs hL
  go_enter Try.func87, Try.ntmps87
  go_wp2_with fail
  go_loopw [9, 10, 11] (fun i j _ wr => ∃ (i' j' : Nat), i = .int .i64 i' ∧ j = .int .i64 j' ∧ i' ≤ j' ∧ j' ≤ L ∧ Hid (∀ k, k < i' → (cn cs k).1 < t) ∧ Hid (∀ k, j' ≤ k → k < L → t ≤ (cn cs k).1) ∧ Hid (Below w.heap.size w wr)) (fun i j _ _ => (intOf j).toNat - (intOf i).toNat)
  case atStart => exact ⟨0, L, rfl, rfl, by omega, Nat.le_refl _, Lib.hid (fun k hk => absurd hk (by omega)), Lib.hid (fun k h1 h2 => absurd h2 (by omega)), Lib.hid (Below.refl _ _)⟩
  case round =>
    obtain ⟨i, j, rfl, rfl, hij, hj, HLo, HHi, HB1⟩ := hrel
    by_cases hlt : i < j
    · have t3 : decide ((i : Int) < j) = true := by simpa using hlt
      obtain ⟨hh, hhd⟩ : ∃ hh : Nat, (i + j) / 2 = hh := ⟨_, rfl⟩
      have h1 : i ≤ hh := by omega
      have h2 : hh < j := by omega
      have e0 : IntKind.i64.wrap ((i : Int) + j) = (i : Int) + j := IntWalk.i64_in _ (by omega)
      have e1 : IntKind.u64.wrap ((i : Int) + j) = (i : Int) + j := IntWalk.u64_in _ (by omega)
      have e2 : ((i : Int) + j) / 2 = hh := by rw [half_eq i j (by omega), hhd]
      have e3 : IntKind.i64.wrap (hh : Int) = hh := IntWalk.i64_in _ (by omega)
      clear hhd
      obtain ⟨b, o, rfl, hb, c0, c1⟩ := cs_at (i := hh) (HA.out.below HB1.out) (by rw [HL.out]; omega)
      have l1 : (hh : Int) < L := by omega
      have l2 : hh < L := by omega
      go_wp2_with fail
      refine (HF.out _ _ _ _).mono ?_
      rintro e w1 ⟨rfl, hb1⟩
      have G1 : Hid (Below w.heap.size w w1) := Lib.hid (bw_below (Nat.le_refl _) HB1.out hb1)
      clear hb1 c0 c1
      by_cases hc : (cn cs hh).1 < t
      · have t5 := cmp3_lt hc
        have HLo2 : Hid (∀ k, k < hh + 1 → (cn cs k).1 < t) := Lib.hid (fun k hk => by
          rcases Nat.lt_or_ge k hh with y | y
          · have := HS.out k hh y (by rw [HL.out]; exact l2)
            omega
          · obtain rfl : k = hh := by omega
            exact hc)
        clear hc
        generalize cmp3 (cn cs hh).1 t = z at *
        go_wp2_with fail
        go_round
        case rel => exact ⟨hh + 1, j, by go_num, rfl, by omega, hj, HLo2, HHi, G1⟩
        case measure => simp [intOf]; omega
      · have t5 := cmp3_ge (Int.not_lt.1 hc)
        have HHi2 : Hid (∀ k, hh ≤ k → k < L → t ≤ (cn cs k).1) := Lib.hid (fun k h1 h2 => by
          rcases Nat.lt_or_ge hh k with y | y
          · have := HS.out hh k y (by rw [HL.out]; exact h2)
            omega
          · obtain rfl : k = hh := by omega
            omega)
        clear hc
        generalize cmp3 (cn cs hh).1 t = z at *
        go_wp2_with fail
        go_round
        case rel => exact ⟨i, hh, rfl, rfl, h1, by omega, HLo, HHi2, G1⟩
        case measure => simp [intOf]; omega
    · obtain rfl : i = j := by omega
      have t3 : decide ((i : Int) < i) = false := by simp
      have HAT : Hid (AtI cs t i) := Lib.hid ⟨by rw [HL.out]; exact hj, HLo.out, fun k h1 h2 => HHi.out k h1 (by rw [← HL.out]; exact h2)⟩
      by_cases hil : i < L
      · have t4 : decide ((i : Int) < L) = true := by simpa using hil
        obtain ⟨b, o, rfl, hb, c0, c1⟩ := cs_at (i := i) (HA.out.below HB1.out) (by rw [HL.out]; exact hil)
        have l1 : (i : Int) < L := by omega
        have EQ := Lib.hid (cmp3_eq _ _ (HHi.out i (Nat.le_refl _) hil))
        have DI : Hid (decide (i < L) = true) := Lib.hid (by simpa using hil)
        go_wp2_with fail
        refine (HF.out _ _ _ _).mono ?_
        rintro e w1 ⟨rfl, hb1⟩
        have G1 : Hid (Below w.heap.size w w1) := Lib.hid (bw_below (Nat.le_refl _) HB1.out hb1)
        clear hb1 c0 c1
        generalize cmp3 (cn cs i).1 t = z at *
        go_wp2_with fail
        exact bodyPost_ret (v := .tuple #[.int .i64 i, .bool (z == 0)]) (by simp [results, Try.results87, go_sem]) rfl ⟨i, by rw [DI.out, ← EQ.out]; rfl, HAT, G1.out⟩
      · obtain rfl : i = L := by omega
        have t4 : decide ((i : Int) < i) = false := by simp
        go_wp2_with fail
        exact bodyPost_ret (v := .tuple #[.int .i64 i, .bool false]) (by simp [results, Try.results87, go_sem]) rfl ⟨i, by simp, HAT, HB1.out⟩
set_option maxHeartbeats 1000000 in
theorem find_any (cs : List (Int × Int)) (A : Option Addr) (c : Nat) (t : Int) (hl : cs.length ≤ 2000) (hs : Srt cs) (w : World) (h : CsAt w A cs) :
    Calls Try.prog 63 #[.slice A cs.length c, .int .i64 t] w fun e w' => ∃ i : Nat, e = .returned (.tuple #[.int .i64 i, .bool (decide (i < cs.length) && (cn cs i).1 == t)]) ∧ Hid (AtI cs t i) ∧ Below w.heap.size w w' := by
  have HX := Lib.hid (bsearch_any cs A c t hl hs w h)
  clear hs h hl
  go_enter Try.func63, Try.ntmps63
  go_wp2_with fail
  refine HX.out.mono ?_
  rintro e w1 ⟨i, rfl, ha, hb⟩
  have HB1 := Lib.hid hb
  clear hb
  go_wp2_with fail
  exact bodyPost_ret (v := .tuple #[.int .i64 i, .bool (decide (i < cs.length) && (cn cs i).1 == t)]) (by simp [results, Try.results63, go_sem]) rfl ⟨i, rfl, ha, HB1.out⟩
/-- What an array maps a thing to. -/
def getF (v : Vl) (t : Int) : Int := match v.cells.find? (fun c => c.1 == t) with | some c => c.2 | none => v.rest
theorem getF_at {v : Vl} {t : Int} {i : Nat} (h : AtI v.cells t i) (hs : Srt v.cells) : getF v t = if (decide (i < v.cells.length) && (cn v.cells i).1 == t) = true then (cn v.cells i).2 else v.rest := by
  obtain ⟨h1, h2, h3⟩ := h
  have e1 : ∀ j (hj : j < v.cells.length), v.cells[j] = cn v.cells j := fun j hj => (cn_of hj).symm
  unfold getF
  by_cases z : i < v.cells.length ∧ (cn v.cells i).1 = t
  · have e : v.cells.find? (fun c => c.1 == t) = some (cn v.cells i) := by
      rw [List.find?_eq_some_iff_getElem]
      exact ⟨by simpa using z.2, i, z.1, e1 i z.1, fun j hj => by
        rw [e1 j (by omega)]
        have := h2 j hj
        simp
        omega⟩
    rw [e, if_pos (by simpa using z)]
  · have e : v.cells.find? (fun c => c.1 == t) = none := by
      rw [List.find?_eq_none]
      intro x hx
      obtain ⟨j, hj, rfl⟩ := List.getElem_of_mem hx
      rw [e1 j hj]
      rcases Nat.lt_or_ge j i with y | y
      · have := h2 j y
        simp
        omega
      · have a := h3 j y hj
        rcases Nat.lt_or_ge i j with y2 | y2
        · have b := hs i j y2 hj
          have c := h3 i (Nat.le_refl _) (by omega)
          simp
          omega
        · obtain rfl : j = i := by omega
          simp
          intro q
          exact z ⟨hj, q⟩
    rw [e, if_neg (by simpa using z)]
set_option maxHeartbeats 1000000 in
theorem get_any (v : Vl) (A : Option Addr) (c : Nat) (t : Int) (hl : v.cells.length ≤ 2000) (hs : Srt v.cells) (w : World) (h : CsAt w A v.cells) :
    Calls Try.prog 32 #[.agg #[.int .i64 v.num, .int .i64 v.den, .slice A v.cells.length c, .int .i64 v.rest], .int .i64 t] w fun e w' => e = .returned (.int .i64 (getF v t)) ∧ Below w.heap.size w w' := by
  have BX : Hid (Below w.heap.size w (w.alloc (.cells #[.int .i64 v.num, .int .i64 v.den, .slice A v.cells.length c, .int .i64 v.rest] 42))) := Lib.hid (new_below _ _)
  have HV := Lib.hid (HB.new w 42 #[.int .i64 v.num, .int .i64 v.den, .slice A v.cells.length c, .int .i64 v.rest])
  have HX := Lib.hid (find_any v.cells A c t hl hs _ (h.below BX.out))
  have HA := Lib.hid h
  have HG : Hid (∀ i, AtI v.cells t i → getF v t = if (decide (i < v.cells.length) && (cn v.cells i).1 == t) = true then (cn v.cells i).2 else v.rest) := Lib.hid (fun i hi => getF_at hi hs)
  generalize getF v t = r at *
  clear hs h
  go_enter Try.func32, Try.ntmps32
  go_wp2_with fail
  refine HX.out.mono ?_
  rintro e w1 ⟨i, rfl, ha, hb⟩
  have G1 : Hid (Below w.heap.size w w1) := Lib.hid (below_after BX.out hb)
  have V1 := Lib.hid (HV.out.below hb)
  have HR := HG.out i ha.out
  clear hb ha
  obtain ⟨v0, v1, v2, v3, -⟩ := V1.out.four
  cases hq : (decide (i < v.cells.length) && (cn v.cells i).1 == t) with
  | true =>
    rw [hq, if_pos rfl] at HR
    have hi : i < v.cells.length := by
      rw [Bool.and_eq_true] at hq
      simpa using hq.1
    obtain ⟨b, o, rfl, hbl, c0, c1⟩ := cs_at (i := i) (HA.out.below G1.out) hi
    have l1 : (i : Int) < v.cells.length := by omega
    subst HR
    clear hq
    generalize v.cells.length = L at *
    go_wp2_with fail
    go_ret
    exact ⟨rfl, G1.out⟩
  | false =>
    rw [hq, if_neg (by decide)] at HR
    subst HR
    clear hq
    go_wp2_with fail
    go_ret
    exact ⟨rfl, G1.out⟩
end Go.Proofs.Ytibpgcdaommjeaa
