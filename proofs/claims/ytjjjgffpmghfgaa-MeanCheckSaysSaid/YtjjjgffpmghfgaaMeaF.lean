/-
  Worlds: what is wrong with a meaning.
-/
import Derived.Test.YtjjjgffpmghfgaaMeaE
namespace Go.Proofs.Ytjjjgffpmghfgaa
open Go.RowKit

theorem held_any {es : List En} {q : En → Bool} {I : Nat → World → Prop} {r : Bool} {w : World} (h : Held es.length (fun i => q (en es i)) I r w) : r = es.any q ∧ ∃ i, I i w := by
  rcases h with ⟨i, h1, h2, h3, h4, h5⟩ | ⟨h1, h2, h3⟩
  · refine ⟨?_, _, h5⟩
    rw [h4]
    refine (List.any_eq_true.2 ⟨en es i, ?_, h2⟩).symm
    simp [en, List.getD, h1]
  · refine ⟨?_, _, h3⟩
    rw [h2]
    refine (List.any_eq_false.2 (fun x hx => ?_)).symm
    obtain ⟨j, hj, rfl⟩ := List.getElem_of_mem hx
    have := h1 j hj
    simp only [en, List.getD, List.getElem?_eq_getElem hj, Option.getD_some] at this
    rw [this]
    simp
/-- Is there a row of which a function value tells true? -/
theorem some_any {fid : Nat} (hc : Enters fid) (es : List En) (A : Option Addr) (c : Nat) (caps : Array Value) (q : En → Bool) (C : World → Prop) (hC : ∀ W W', C W → Below W.heap.size W W' → C W') (hl : es.length ≤ maxLen)
    (H : ∀ i W Aa ca Ac cc, i < es.length → C W → enI W (en es i) Aa ca Ac cc → Calls Try.prog fid (#[enV (en es i) Aa ca Ac cc] ++ caps) W fun e w' => e = .returned (.bool (q (en es i))) ∧ Below W.heap.size W w')
    (g3 : Nat) (v1 v2 v3 v4 : Value) (w : World) (hw : C w) (h : EsAt w A es) (hg : HB w g3 56 #[.slice A es.length c, v1, v2, v3, v4]) :
    Calls Try.prog 49 #[.func (.func fid) #[] caps, .pointer (some ⟨g3, 0, none⟩)] w fun e w' => e = .returned (.bool (es.any q)) ∧ Below w.heap.size w w' := by
  have HX : Hid (Calls Try.prog 50 #[.slice A es.length c, .func (.func fid) #[] caps] w fun e w' => e = .returned (.bool (es.any q)) ∧ Below w.heap.size w w') := Lib.hid (by
    refine (conten_any hc es A c caps (fun i => q (en es i)) (fun _ W => C W ∧ Below w.heap.size w W) hl (fun i W hW => h.below hW.2) (fun i W Aa ca Ac cc hi hW hq => (H i W Aa ca Ac cc hi hW.1 hq).mono fun e w' ⟨h1, h2⟩ => ⟨h1, hC _ _ hW.1 h2, bw_below (Nat.le_refl _) hW.2 h2⟩) w ⟨hw, Below.refl _ _⟩).mono ?_
    rintro e w' ⟨r, rfl, hr⟩
    obtain ⟨h1, i, h2⟩ := held_any hr.out
    exact ⟨ret_bool h1, h2.2⟩)
  obtain ⟨c0, _⟩ := HB.five hg
  clear hc hC hl H hw h hg
  generalize es.length = L at *
  generalize es.any q = r at *
  go_enter Try.func49, Try.ntmps49
  go_wp2_with fail
  refine HX.out.mono ?_
  rintro e w1 ⟨rfl, hb1⟩
  have HB1 := Lib.hid hb1
  clear hb1
  go_wp2_with fail
  go_ret
  exact ⟨rfl, HB1.out⟩
theorem enters_wm2 : Enters 51 := fun _ _ => by kernel_rfl
theorem enters_wm3 : Enters 52 := fun _ _ => by kernel_rfl
theorem enters_wm4 : Enters 57 := fun _ _ => by kernel_rfl
theorem enters_isno : Enters 54 := fun _ _ => by kernel_rfl
theorem wm2_any (q : En) (Aa Ac Ad : Option Addr) (ca cc dl dc g2 : Nat) (v0 v2 : Value) (hd : dl ≤ maxLen) (W : World) (hq : enI W q Aa ca Ac cc) (hg : HB W g2 70 #[v0, .slice Ad dl dc, v2]) :
    Calls Try.prog 51 (#[enV q Aa ca Ac cc] ++ #[.pointer (some ⟨g2, 0, none⟩)]) W fun e w' => e = .returned (.bool (!decide (q.args.length = dl))) ∧ Below W.heap.size W w' := by
  show Calls Try.prog 51 #[.agg #[.slice Aa q.args.length ca, .int .i64 q.too.num, .int .i64 q.too.den, .slice Ac q.too.cells.length cc, .int .i64 q.too.rest], .pointer (some ⟨g2, 0, none⟩)] W _
  obtain ⟨⟨ha1, ha2, _⟩, hc1, hc2, _⟩ := hq
  obtain ⟨c0, c1, c2, _⟩ := hg.three
  have lg := hg.lt
  clear hg
  unfold maxLen at ha2 hc2 hd
  generalize q.args.length = al at *
  generalize q.too.cells.length = cl at *
  generalize q.too.num = vn at *
  generalize q.too.den = vd at *
  generalize q.too.rest = vr at *
  by_cases h : al = dl
  · subst h
    go_enter Try.func51, Try.ntmps51
    go_wp2_with fail
    go_ret
    exact ⟨by simp, new_below _ _⟩
  · have d1 : ((al : Int) != dl) = true := by simp; omega
    have HD : Hid ((!decide (al = dl)) = true) := Lib.hid (by simp [h])
    clear h
    go_enter Try.func51, Try.ntmps51
    go_wp2_with fail
    go_ret
    exact ⟨by rw [HD.out]; rfl, new_below _ _⟩
theorem wm3_any (q : En) (Aa Ac : Option Addr) (ca cc : Nat) (W : World) (hq : enI W q Aa ca Ac cc) :
    Calls Try.prog 52 (#[enV q Aa ca Ac cc] ++ #[]) W fun e w' => e = .returned (.bool (q.args.any nTh)) ∧ Below W.heap.size W w' := by
  show Calls Try.prog 52 #[.agg #[.slice Aa q.args.length ca, .int .i64 q.too.num, .int .i64 q.too.den, .slice Ac q.too.cells.length cc, .int .i64 q.too.rest]] W _
  obtain ⟨⟨ha1, ha2, ha3⟩, hc1, hc2, _⟩ := hq
  have HX := Lib.hid (contint_any enters_isno q.args Aa ca #[] nTh (fun _ => True) (fun _ _ _ _ => trivial) (by omega) (fun i W _ _ => (nothing_any (nth q.args i) W).mono fun e w' ⟨h1, h2⟩ => ⟨h1, by subst h2; exact Below.refl _ _⟩) (W.alloc (.cells #[.slice Aa q.args.length ca, .int .i64 q.too.num, .int .i64 q.too.den, .slice Ac q.too.cells.length cc, .int .i64 q.too.rest] 75)) (ha3.below (new_below _ _)) trivial)
  clear ha3
  unfold maxLen at ha2 hc2
  generalize q.args.any nTh = r at *
  generalize q.args.length = al at *
  generalize q.too.cells.length = cl at *
  generalize q.too.num = vn at *
  generalize q.too.den = vd at *
  generalize q.too.rest = vr at *
  go_enter Try.func52, Try.ntmps52
  go_wp2_with fail
  refine HX.out.mono ?_
  rintro e w1 ⟨rfl, hb1⟩
  have HB1 := Lib.hid (below_after (new_below W _) hb1)
  clear hb1
  go_wp2_with fail
  go_ret
  exact ⟨rfl, HB1.out⟩
theorem wm4_any (so : Int) (q : En) (Aa Ac : Option Addr) (ca cc g2 : Nat) (v0 v1 : Value) (hs : okSo so) (W : World) (hq : enI W q Aa ca Ac cc) (hg : HB W g2 70 #[v0, v1, .int .i64 so]) :
    Calls Try.prog 57 (#[enV q Aa ca Ac cc] ++ #[.pointer (some ⟨g2, 0, none⟩)]) W fun e w' => e = .returned (.bool (!gdV so q.too)) ∧ Below W.heap.size W w' := by
  show Calls Try.prog 57 #[.agg #[.slice Aa q.args.length ca, .int .i64 q.too.num, .int .i64 q.too.den, .slice Ac q.too.cells.length cc, .int .i64 q.too.rest], .pointer (some ⟨g2, 0, none⟩)] W _
  obtain ⟨⟨ha1, ha2, _⟩, hc1, hc2, hc3⟩ := hq
  obtain ⟨c0, c1, c2, _⟩ := hg.three
  have lg := hg.lt
  have HX := Lib.hid (isvalue_any so q.too Ac cc hs (by omega) (W.alloc (.cells #[.slice Aa q.args.length ca, .int .i64 q.too.num, .int .i64 q.too.den, .slice Ac q.too.cells.length cc, .int .i64 q.too.rest] 75)) (hc3.below (new_below _ _)))
  clear hg hs hc3
  unfold maxLen at ha2 hc2
  generalize gdV so q.too = r at *
  generalize q.args.length = al at *
  generalize q.too.cells.length = cl at *
  generalize q.too.num = vn at *
  generalize q.too.den = vd at *
  generalize q.too.rest = vr at *
  go_enter Try.func57, Try.ntmps57
  go_wp2_with fail
  refine HX.out.mono ?_
  rintro e w1 ⟨rfl, hb1⟩
  have HB1 := Lib.hid (below_after (new_below W _) hb1)
  clear hb1
  go_wp2_with fail
  go_ret
  exact ⟨rfl, HB1.out⟩
/-- What is wrong with a meaning of a name that wants so many things, and is of a sort. -/
def mgC (dl : Nat) (so : Int) (m : Mg) : Int :=
  if 1000 < m.rows.length ∨ (m.rows.any fun e => !decide (e.args.length = dl)) = true then 9 else if (m.rows.any fun e => e.args.any nTh) = true then 3 else if twB m.rows = true then 7 else if gdV so m.rest = false ∨ (m.rows.any fun e => !gdV so e.too) = true then 8 else 0
theorem mgc_9a {dl : Nat} {so : Int} {m : Mg} (h : 1000 < m.rows.length) : mgC dl so m = 9 := by unfold mgC; rw [if_pos (.inl h)]
theorem mgc_9b {dl : Nat} {so : Int} {m : Mg} (h : (m.rows.any fun e => !decide (e.args.length = dl)) = true) : mgC dl so m = 9 := by unfold mgC; rw [if_pos (.inr h)]
theorem mgc_r {dl : Nat} {so : Int} {m : Mg} (h1 : ¬ 1000 < m.rows.length) (h2 : (m.rows.any fun e => !decide (e.args.length = dl)) = false) :
    mgC dl so m = if (m.rows.any fun e => e.args.any nTh) = true then 3 else if twB m.rows = true then 7 else if gdV so m.rest = false ∨ (m.rows.any fun e => !gdV so e.too) = true then 8 else 0 := by
  unfold mgC
  rw [if_neg (by rw [h2]; simp; omega)]
set_option maxHeartbeats 8000000 in
theorem wrongmeaning_any (nm : ByteArray) (ds : List Int) (Ad A Ac : Option Addr) (dc c cc : Nat) (so : Int) (m : Mg) (hs : okSo so) (hd1 : ds.length ≤ dc) (hd2 : dc ≤ maxLen) (h8 : ds.length ≤ 8) (hl1 : m.rows.length ≤ c) (hl2 : c ≤ maxLen) (hc1 : m.rest.cells.length ≤ cc) (hc2 : cc ≤ maxLen) (hwf : m.wf) (w : World) (h : EsAt w A m.rows) (hcs : CsAt w Ac m.rest.cells) :
    Calls Try.prog 30 #[.agg #[.string nm, .slice Ad ds.length dc, .int .i64 so], .agg #[.slice A m.rows.length c, .int .i64 m.rest.num, .int .i64 m.rest.den, .slice Ac m.rest.cells.length cc, .int .i64 m.rest.rest]] w fun e w' => e = .returned (.int .i64 (mgC ds.length so m)) ∧ Below w.heap.size w w' := by
  have HH := Lib.hid h
  have HCS := Lib.hid hcs
  have NB0 : Hid (Below w.heap.size w ((w.alloc (.cells #[.string nm, .slice Ad ds.length dc, .int .i64 so] 70)).alloc (.cells #[.slice A m.rows.length c, .int .i64 m.rest.num, .int .i64 m.rest.den, .slice Ac m.rest.cells.length cc, .int .i64 m.rest.rest] 56))) := Lib.hid (((Below.refl _ _).alloc (Nat.le_refl _) _).alloc (by simp) _)
  have ND0 : Hid (HB ((w.alloc (.cells #[.string nm, .slice Ad ds.length dc, .int .i64 so] 70)).alloc (.cells #[.slice A m.rows.length c, .int .i64 m.rest.num, .int .i64 m.rest.den, .slice Ac m.rest.cells.length cc, .int .i64 m.rest.rest] 56)) w.heap.size 70 #[.string nm, .slice Ad ds.length dc, .int .i64 so]) := Lib.hid ((HB.new _ _ _).alloc _)
  have NM0 : Hid (HB ((w.alloc (.cells #[.string nm, .slice Ad ds.length dc, .int .i64 so] 70)).alloc (.cells #[.slice A m.rows.length c, .int .i64 m.rest.num, .int .i64 m.rest.den, .slice Ac m.rest.cells.length cc, .int .i64 m.rest.rest] 56)) (w.heap.size + 1) 56 #[.slice A m.rows.length c, .int .i64 m.rest.num, .int .i64 m.rest.den, .slice Ac m.rest.cells.length cc, .int .i64 m.rest.rest]) := Lib.hid (HB.new1 _ _ _ _)
  have S2 : Hid (∀ W, Below w.heap.size w W → HB W w.heap.size 70 #[.string nm, .slice Ad ds.length dc, .int .i64 so] → HB W (w.heap.size + 1) 56 #[.slice A m.rows.length c, .int .i64 m.rest.num, .int .i64 m.rest.den, .slice Ac m.rest.cells.length cc, .int .i64 m.rest.rest] → Calls Try.prog 49 #[.func (.func 51) #[] #[.pointer (some ⟨w.heap.size, 0, none⟩)], .pointer (some ⟨w.heap.size + 1, 0, none⟩)] W fun e w' => e = .returned (.bool (m.rows.any fun e => !decide (e.args.length = ds.length))) ∧ Below W.heap.size W w') := Lib.hid (fun W hb hd hm =>
    some_any enters_wm2 m.rows A c #[.pointer (some ⟨w.heap.size, 0, none⟩)] (fun e => !decide (e.args.length = ds.length)) (fun W => HB W w.heap.size 70 #[.string nm, .slice Ad ds.length dc, .int .i64 so]) (fun _ _ h1 h2 => h1.below h2) (by omega) (fun i W Aa ca Ac cc hi hC hq => wm2_any (en m.rows i) Aa Ac Ad ca cc ds.length dc w.heap.size _ _ (by omega) W hq hC) (w.heap.size + 1) _ _ _ _ W hd (h.below hb) hm)
  have S3 : Hid (∀ W, Below w.heap.size w W → HB W (w.heap.size + 1) 56 #[.slice A m.rows.length c, .int .i64 m.rest.num, .int .i64 m.rest.den, .slice Ac m.rest.cells.length cc, .int .i64 m.rest.rest] → Calls Try.prog 49 #[.func (.func 52) #[] #[], .pointer (some ⟨w.heap.size + 1, 0, none⟩)] W fun e w' => e = .returned (.bool (m.rows.any fun e => e.args.any nTh)) ∧ Below W.heap.size W w') := Lib.hid (fun W hb hm =>
    some_any enters_wm3 m.rows A c #[] (fun e => e.args.any nTh) (fun _ => True) (fun _ _ _ _ => trivial) (by omega) (fun i W Aa ca Ac cc hi hC hq => wm3_any (en m.rows i) Aa Ac ca cc W hq) (w.heap.size + 1) _ _ _ _ W trivial (h.below hb) hm)
  have S4 : Hid (∀ W, Below w.heap.size w W → HB W w.heap.size 70 #[.string nm, .slice Ad ds.length dc, .int .i64 so] → HB W (w.heap.size + 1) 56 #[.slice A m.rows.length c, .int .i64 m.rest.num, .int .i64 m.rest.den, .slice Ac m.rest.cells.length cc, .int .i64 m.rest.rest] → Calls Try.prog 49 #[.func (.func 57) #[] #[.pointer (some ⟨w.heap.size, 0, none⟩)], .pointer (some ⟨w.heap.size + 1, 0, none⟩)] W fun e w' => e = .returned (.bool (m.rows.any fun e => !gdV so e.too)) ∧ Below W.heap.size W w') := Lib.hid (fun W hb hd hm =>
    some_any enters_wm4 m.rows A c #[.pointer (some ⟨w.heap.size, 0, none⟩)] (fun e => !gdV so e.too) (fun W => HB W w.heap.size 70 #[.string nm, .slice Ad ds.length dc, .int .i64 so]) (fun _ _ h1 h2 => h1.below h2) (by omega) (fun i W Aa ca Ac cc hi hC hq => wm4_any so (en m.rows i) Aa Ac ca cc w.heap.size _ _ hs W hq hC) (w.heap.size + 1) _ _ _ _ W hd (h.below hb) hm)
  have S5 : Hid (∀ W, Below w.heap.size w W → (m.rows.any fun e => !decide (e.args.length = ds.length)) = false → m.rows.length ≤ 1000 → Calls Try.prog 55 #[.slice A m.rows.length c] W fun e w' => e = .returned (.bool (twB m.rows)) ∧ Below W.heap.size W w') := Lib.hid (fun W hb h2 h3 =>
    twice_any m.rows A c ds.length (by unfold maxLen; omega) h8 (fun i hi => by
      have := List.any_eq_false.1 h2 (en m.rows i) (by simp [en, List.getD, hi])
      simpa using this) (fun i hi => (hwf.1 (en m.rows i) (by simp [en, List.getD, hi])).1) W (h.below hb))
  have S6 : Hid (∀ W, Below w.heap.size w W → Calls Try.prog 56 #[.int .i64 so, .agg #[.int .i64 m.rest.num, .int .i64 m.rest.den, .slice Ac m.rest.cells.length cc, .int .i64 m.rest.rest]] W fun e w' => e = .returned (.bool (gdV so m.rest)) ∧ Below W.heap.size W w') := Lib.hid (fun W hb => isvalue_any so m.rest Ac cc hs (by omega) W (hcs.below hb))
  have E1 : Hid (1000 < m.rows.length → mgC ds.length so m = 9) := Lib.hid mgc_9a
  have E2 : Hid ((m.rows.any fun e => !decide (e.args.length = ds.length)) = true → mgC ds.length so m = 9) := Lib.hid mgc_9b
  have E3 : Hid (¬ 1000 < m.rows.length → (m.rows.any fun e => !decide (e.args.length = ds.length)) = false → mgC ds.length so m = if (m.rows.any fun e => e.args.any nTh) = true then 3 else if twB m.rows = true then 7 else if gdV so m.rest = false ∨ (m.rows.any fun e => !gdV so e.too) = true then 8 else 0) := Lib.hid mgc_r
  clear h hcs hwf hs h8
  unfold maxLen at hd2 hl2 hc2
  generalize mgC ds.length so m = r at *
  generalize gdV so m.rest = b1 at *
  generalize twB m.rows = b2 at *
  generalize (m.rows.any fun e => !decide (e.args.length = ds.length)) = b3 at *
  generalize (m.rows.any fun e => e.args.any nTh) = b4 at *
  generalize (m.rows.any fun e => !gdV so e.too) = b5 at *
  generalize m.rows.length = rl at *
  generalize m.rest.cells.length = cl at *
  generalize m.rest.num = vn at *
  generalize m.rest.den = vd at *
  generalize m.rest.rest = vr at *
  generalize ds.length = dl at *
  by_cases h1 : 1000 < rl
  · have t1 : decide ((1000 : Int) < rl) = true := by simp; omega
    have HR := Lib.hid (E1.out h1)
    go_enter Try.func30, Try.ntmps30
    go_wp2_with fail
    go_ret
    exact ⟨by rw [HR.out]; rfl, NB0.out⟩
  · have t1 : decide ((1000 : Int) < rl) = false := by simp; omega
    have HR1 := Lib.hid (E3.out h1)
    have H10 := Lib.hid h1
    clear E1 E3 h1
    go_enter Try.func30, Try.ntmps30
    go_wp2_with fail
    refine (S2.out _ NB0.out ND0.out NM0.out).mono ?_
    rintro e w1 ⟨rfl, hb1⟩
    have NB1 := Lib.hid (below_after NB0.out hb1)
    have ND1 := Lib.hid (ND0.out.below hb1)
    have NM1 := Lib.hid (NM0.out.below hb1)
    clear hb1 NB0 ND0 NM0 S2
    cases hb : b3 with
    | true =>
      have HR := Lib.hid (E2.out hb)
      clear hb HR1 E2
      go_wp2_with fail
      go_ret
      exact ⟨by rw [HR.out]; rfl, NB1.out⟩
    | false =>
      have HR2 := Lib.hid (HR1.out hb)
      have HB3 := Lib.hid hb
      clear hb HR1 E2
      go_wp2_with fail
      refine (S3.out _ NB1.out NM1.out).mono ?_
      rintro e w2 ⟨rfl, hb2⟩
      have NB2 := Lib.hid (below_after NB1.out hb2)
      have ND2 := Lib.hid (ND1.out.below hb2)
      have NM2 := Lib.hid (NM1.out.below hb2)
      clear hb2 NB1 ND1 NM1 S3
      cases hb : b4 with
      | true =>
        have HR : Hid (r = 3) := Lib.hid (by rw [HR2.out, hb]; rfl)
        clear hb HR2
        go_wp2_with fail
        go_ret
        exact ⟨by rw [HR.out]; rfl, NB2.out⟩
      | false =>
        have HR3 : Hid (r = if b2 = true then 7 else if b1 = false ∨ b5 = true then 8 else 0) := Lib.hid (by rw [HR2.out, hb]; rfl)
        have X5 := Lib.hid (S5.out _ NB2.out HB3.out (by have := H10.out; omega))
        clear hb HR2 S5
        obtain ⟨c0, c1, c2, c3, c4⟩ := NM2.out.five
        have lm := NM2.out.lt
        go_wp2_with fail
        refine X5.out.mono ?_
        rintro e w3 ⟨rfl, hb3⟩
        have NB3 := Lib.hid (below_after NB2.out hb3)
        have ND3 := Lib.hid (ND2.out.below hb3)
        have NM3 := Lib.hid (NM2.out.below hb3)
        clear hb3 NB2 ND2 NM2 X5 c0 c1 c2 c3 c4 lm
        cases hb : b2 with
        | true =>
          have HR : Hid (r = 7) := Lib.hid (by rw [HR3.out, hb]; rfl)
          clear hb HR3
          go_wp2_with fail
          go_ret
          exact ⟨by rw [HR.out]; rfl, NB3.out⟩
        | false =>
          have HR4 : Hid (r = if b1 = false ∨ b5 = true then 8 else 0) := Lib.hid (by rw [HR3.out, hb]; rfl)
          have X6 := Lib.hid (S6.out _ NB3.out)
          clear hb HR3 S6
          obtain ⟨c0, c1, c2, c3, c4⟩ := NM3.out.five
          obtain ⟨d0, d1, d2, _⟩ := ND3.out.three
          have lm := NM3.out.lt
          have ld := ND3.out.lt
          go_wp2_with fail
          refine X6.out.mono ?_
          rintro e w4 ⟨rfl, hb4⟩
          have NB4 := Lib.hid (below_after NB3.out hb4)
          have ND4 := Lib.hid (ND3.out.below hb4)
          have NM4 := Lib.hid (NM3.out.below hb4)
          clear hb4 NB3 ND3 NM3 X6 c0 c1 c2 c3 c4 lm d0 d1 d2 ld
          cases hb : b1 with
          | false =>
            have HR : Hid (r = 8) := Lib.hid (by rw [HR4.out, hb]; rfl)
            clear hb HR4
            go_wp2_with fail
            go_ret
            exact ⟨by rw [HR.out]; rfl, NB4.out⟩
          | true =>
            have HR5 : Hid (r = if b5 = true then 8 else 0) := Lib.hid (by rw [HR4.out, hb]; simp)
            clear hb HR4
            go_wp2_with fail
            refine (S4.out _ NB4.out ND4.out NM4.out).mono ?_
            rintro e w5 ⟨rfl, hb5⟩
            have NB5 := Lib.hid (below_after NB4.out hb5)
            clear hb5 NB4 ND4 NM4 S4
            cases hb : b5 with
            | true =>
              have HR : Hid (r = 8) := Lib.hid (by rw [HR5.out, hb]; rfl)
              clear hb HR5
              go_wp2_with fail
              go_ret
              exact ⟨by rw [HR.out]; rfl, NB5.out⟩
            | false =>
              have HR : Hid (r = 0) := Lib.hid (by rw [HR5.out, hb]; rfl)
              clear hb HR5
              go_wp2_with fail
              go_ret
              exact ⟨by rw [HR.out]; rfl, NB5.out⟩
end Go.Proofs.Ytjjjgffpmghfgaa
