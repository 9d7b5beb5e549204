/-
  Asks: the first fault among elements.
  Asks: what ask.Sorts asks of each declaration, node and assertion.
  Asks: ask.Sorts.
-/
import Derived.Test.YtibpgcdaommjeaaG12
namespace Go.Proofs.Ytibpgcdaommjeaa
open Go.RowKit

/-- The first element with a code. -/
def fsI (code : Nat → Int) (n : Nat) : Nat := (List.range n).findIdx fun i => code i != 0
theorem fs_hit {code : Nat → Int} {n i : Nat} (hi : i < n) (h : ∀ j, j < i → code j = 0) (hc : code i ≠ 0) : fsI code n = i := by
  unfold fsI
  have hl : i < (List.range n).length := by simpa using hi
  rw [List.findIdx_eq hl]
  refine ⟨by simpa using hc, fun j hj => ?_⟩
  simp [h j hj]
theorem fs_miss {code : Nat → Int} {n : Nat} (h : ∀ j, j < n → code j = 0) : fsI code n = n := by
  unfold fsI
  have : (List.range n).findIdx (fun i => code i != 0) = (List.range n).length := by
    rw [List.findIdx_eq_length]
    intro x hx
    simp [h x (List.mem_range.1 hx)]
  rw [this, List.length_range]
/-- The fault: its code, and where. -/
def fsC (code : Nat → Int) (n lim : Nat) : Int := if lim < n then 2 else if fsI code n < n then code (fsI code n) else 0
def fsA (code : Nat → Int) (n lim : Nat) : Int := if lim < n then 0 else if fsI code n < n then (fsI code n : Int) else 0
/-- How many elements have been asked. -/
def fsK (code : Nat → Int) (n lim : Nat) : Nat := if lim < n then 0 else if fsI code n < n then fsI code n + 1 else n
set_option maxHeartbeats 2000000 in
set_option maxRecDepth 100000 in
theorem first_any {fid : Nat} (hc : Enters fid) (n lim : Nat) (hn : n ≤ 9223372036854775807) (caps : Array Value) (code : Nat → Int) (I : Nat → World → Prop) (w : World)
    (hI : ∀ i W W', I i W → Below W.heap.size W W' → I i W')
    (hF : ∀ i W W' g cs, w.heap.size ≤ g → HB W g 47 cs → Far g W W' → I i W → I i W')
    (H : ∀ i W, i < n → n ≤ lim → I i W → Calls Try.prog fid (#[.int .i64 i] ++ caps) W fun e w' => e = .returned (.int .i64 (code i)) ∧ I (i + 1) w' ∧ (∀ g cs, HB W g 47 cs → HB w' g 47 cs))
    (hw : I 0 w) :
    Calls Try.prog 21 #[.int .i64 n, .int .i64 lim, .func (.func fid) #[] caps] w fun e w' => e = .returned (.agg #[.int .i64 (fsC code n lim), .int .i64 (fsA code n lim)]) ∧ I (fsK code n lim) w' ∧ (∀ g cs, g < w.heap.size → HB w g 47 cs → HB w' g 47 cs) := by
  have HC := Lib.hid hc
  have HH := Lib.hid H
  have HI := Lib.hid hI
  have HF := Lib.hid hF
  have HW := Lib.hid (hI 0 w _ hw (new_below w (.cells #[.int .i64 0, .int .i64 0] 47)))
  have HWA := Lib.hid (fun o => hI 0 w _ hw (new_below w o))
  clear hc H hI hF hw
  by_cases h1 : lim < n
  · have HE : Hid (fsC code n lim = 2 ∧ fsA code n lim = 0 ∧ fsK code n lim = 0) := Lib.hid (by unfold fsC fsA fsK; simp only [h1, if_true, and_self])
    go_enter Try.func21, Try.ntmps21
    go_wp2_with fail
    refine bodyPost_ret (v := .agg #[.int .i64 2, .int .i64 0]) (by simp [results, Try.results21, go_sem]) rfl ⟨by rw [HE.out.1, HE.out.2.1], ?_, ?_⟩
    · rw [HE.out.2.2]; exact HWA.out _
    · intro g cs hg h; exact h.alloc _
  · go_enter Try.func21, Try.ntmps21
    go_wp2_with fail
    go_loopw [7, 8, 14] (fun _ _ k wr => ∃ i : Nat, i ≤ n ∧ k = .int .i64 i ∧ Hid (∀ j, j < i → code j = 0) ∧ Hid (I i wr) ∧ Hid (HB wr w.heap.size 47 #[.int .i64 0, .int .i64 0]) ∧ Hid (∀ g cs, g < w.heap.size → HB w g 47 cs → HB wr g 47 cs)) (fun _ _ k _ => n - (intOf k).toNat)
    case atStart => exact ⟨0, by omega, rfl, fun j hj => absurd hj (by omega), HW, HB.new _ _ _, Lib.hid (fun g cs hg h => h.alloc _)⟩
    case round =>
      obtain ⟨i, hi, rfl, HP, HX, HR, HG⟩ := hrel
      obtain ⟨r0, r1, r2, r3⟩ := HR.out.two
      have lr := HR.out.lt
      by_cases hlt : i < n
      · have t3 : decide ((i : Int) < n) = true := by simpa using hlt
        have HL := Lib.hid (show n ≤ lim by omega)
        clear h1
        go_wp2_with fail
        rw [HC.out, Oper.upon_enter]
        refine (HH.out i _ hlt HL.out HX.out).mono ?_
        rintro e w1 ⟨rfl, hx1, hg1⟩
        have X1 := Lib.hid hx1
        have R1 := Lib.hid (hg1 _ _ HR.out)
        have G1 : Hid (∀ g cs, g < w.heap.size → HB w g 47 cs → HB w1 g 47 cs) := Lib.hid (fun g cs hg h => hg1 g cs (HG.out g cs hg h))
        clear hx1 hg1 r0 r1 r2 r3 lr
        obtain ⟨r0, r1, r2, r3⟩ := R1.out.two
        have lr := R1.out.lt
        by_cases hc : code i = 0
        · have HC0 := Lib.hid hc
          rw [hc]
          clear hc
          go_wp2_with fail
          go_round
          case rel => exact ⟨i + 1, by omega, by go_num, fun j hj => by
            rcases Nat.lt_or_ge j i with z | z
            · exact HP.out j z
            · obtain rfl : j = i := by omega
              exact HC0.out, X1, R1, G1⟩
          case measure => simp [intOf]; omega
        · have tc : (code i != 0) = true := by simpa using hc
          have HE : Hid (fsC code n lim = code i ∧ fsA code n lim = i ∧ fsK code n lim = i + 1) := Lib.hid (by
            have := fs_hit hlt HP.out hc
            have h1 := HL.out
            unfold fsC fsA fsK
            rw [this, if_neg (by omega), if_pos hlt, if_neg (by omega), if_pos hlt, if_neg (by omega), if_pos hlt]
            exact ⟨rfl, rfl, rfl⟩)
          clear hc
          generalize code i = ci at *
          go_wp2_with fail
          have RR := hb_set2 (n := .int .i64 ci) (d := .int .i64 i) R1.out
          have FF := far2 w1 w.heap.size (.int .i64 ci) (.int .i64 i)
          obtain ⟨y0, y1, _, _⟩ := RR.two
          refine bodyPost_ret (v := .agg #[.int .i64 ci, .int .i64 i]) (by simp [results, Try.results21, go_sem, y0, y1]) rfl ⟨by rw [HE.out.1, HE.out.2.1], ?_, ?_⟩
          · rw [HE.out.2.2]; exact HF.out _ _ _ _ _ (Nat.le_refl _) R1.out FF X1.out
          · intro g cs hg h; exact (G1.out g cs hg h).far_ (by omega) FF
      · obtain rfl : i = n := by omega
        have t3 : decide ((i : Int) < i) = false := by simp
        have HE : Hid (fsC code i lim = 0 ∧ fsA code i lim = 0 ∧ fsK code i lim = i) := Lib.hid (by
          have := fs_miss HP.out
          unfold fsC fsA fsK
          rw [this, if_neg (by omega), if_neg (by omega), if_neg (by omega), if_neg (by omega), if_neg (by omega), if_neg (by omega)]
          exact ⟨rfl, rfl, rfl⟩)
        clear hlt h1
        go_wp2_with fail
        have RR := hb_set2 (n := .int .i64 0) (d := .int .i64 0) HR.out
        have FF := far2 wr w.heap.size (.int .i64 0) (.int .i64 0)
        obtain ⟨y0, y1, _, _⟩ := RR.two
        refine bodyPost_ret (v := .agg #[.int .i64 0, .int .i64 0]) (by simp [results, Try.results21, go_sem, y0, y1]) rfl ⟨by rw [HE.out.1, HE.out.2.1], ?_, ?_⟩
        · rw [HE.out.2.2]; exact HF.out _ _ _ _ _ (Nat.le_refl _) HR.out FF HX.out
        · intro g cs hg h; exact (HG.out g cs hg h).far_ (by omega) FF
end Go.Proofs.Ytibpgcdaommjeaa
namespace Go.Proofs.Ytibpgcdaommjeaa
open Go.RowKit

/-- The sorts of the first nodes. -/
def srtL (qs : List Dc) (ns : List Nd) : Nat → List Int
  | 0 => []
  | i + 1 => srtL qs ns i ++ [ndS qs (nn ns i) i (srtL qs ns i)]
theorem srtL_len (qs : List Dc) (ns : List Nd) (i : Nat) : (srtL qs ns i).length = i := by
  induction i with
  | zero => rfl
  | succ i ih => rw [srtL, List.length_append, ih]; rfl
def nC (qs : List Dc) (ns : List Nd) (i : Nat) : Int := ndC qs (nn ns i) i (srtL qs ns i)
/-- What is wrong with an assertion. -/
def hdC (z : Int) (sorts : List Int) : Int := if z < 0 ∨ (sorts.length : Int) ≤ z then 3 else if nth sorts z.toNat ≠ 1 then 8 else 0
theorem hb_ne {w : World} {g g' t t' : Nat} {cs cs' : Array Value} (h : HB w g t cs) (h' : HB w g' t' cs') (ht : t ≠ t') : g ≠ g' := by
  rintro rfl
  unfold HB at h h'
  rw [h] at h'
  injection h' with h'
  injection h' with _ h'
  exact ht h'
theorem hb_set1' {w : World} {g t : Nat} {a : Value} (h : HB w g t #[a]) (n : Value) : HB (w.setCell ⟨g, 0, none⟩ n) g t #[n] := hb_set1 h
theorem wronghold_any (z : Int) (sorts : List Int) (S : Option Addr) (sc : Nat) (_hl : sorts.length ≤ maxLen) (w : World) (h : Is w S sorts) :
    Calls Try.prog 27 #[.int .i64 z, .slice S sorts.length sc] w fun e w' => e = .returned (.int .i64 (hdC z sorts)) ∧ w' = w := by
  unfold maxLen at _hl
  by_cases h1 : z < 0
  · have d1 : decide (z < 0) = true := by simpa using h1
    rw [show hdC z sorts = 3 by unfold hdC; rw [if_pos (.inl h1)]]
    clear h h1
    generalize sorts.length = L at *
    go_enter Try.func27, Try.ntmps27
    go_wp2_with fail
    go_ret
    exact ⟨rfl, rfl⟩
  · have d1 : decide (z < 0) = false := by simpa using h1
    by_cases h2 : (sorts.length : Int) ≤ z
    · rw [show hdC z sorts = 3 by unfold hdC; rw [if_pos (.inr h2)]]
      clear h
      generalize sorts.length = L at *
      have d2 : decide ((L : Int) ≤ z) = true := by simpa using h2
      go_enter Try.func27, Try.ntmps27
      go_wp2_with fail
      go_ret
      exact ⟨rfl, rfl⟩
    · obtain ⟨b, o, rfl, hb, c0⟩ := is_at (i := z.toNat) h (by omega)
      have HE : hdC z sorts = if nth sorts z.toNat ≠ 1 then 8 else 0 := by unfold hdC; rw [if_neg (by omega)]
      by_cases h3 : nth sorts z.toNat = 1
      · rw [HE, if_neg (by simpa using h3)]
        rw [h3] at c0
        clear h HE h3
        generalize sorts.length = L at *
        have d2 : decide ((L : Int) ≤ z) = false := by simpa using h2
        have hz : 0 ≤ z := by omega
        go_enter Try.func27, Try.ntmps27
        go_wp2_with fail
        go_ret
        exact ⟨rfl, rfl⟩
      · rw [HE, if_pos h3]
        have d3 : (nth sorts z.toNat != 1) = true := by simpa using h3
        clear h HE h3
        generalize nth sorts z.toNat = x at *
        generalize sorts.length = L at *
        have d2 : decide ((L : Int) ≤ z) = false := by simpa using h2
        have hz : 0 ≤ z := by omega
        go_enter Try.func27, Try.ntmps27
        go_wp2_with fail
        go_ret
        exact ⟨rfl, rfl⟩
theorem sorts1_any (qs : List Dc) (Ad An Ah : Option Addr) (dc nl nc hl hc : Nat) (i : Nat) (hi : i < qs.length) (hc1 : qs.length ≤ dc) (hc2 : dc ≤ maxLen) (ga : Nat) (w : World) (hd : DsAt w Ad qs) (hg : HB w ga 30 #[.slice Ad qs.length dc, .slice An nl nc, .slice Ah hl hc]) :
    Calls Try.prog 22 (#[.int .i64 i] ++ #[.pointer (some ⟨ga, 0, none⟩)]) w fun e w' => e = .returned (.int .i64 (dcC qs i)) ∧ Below w.heap.size w w' := by
  show Calls Try.prog 22 #[.int .i64 i, .pointer (some ⟨ga, 0, none⟩)] w _
  have HX := Lib.hid (wrongdecl_any qs Ad dc i hi hc1 hc2 w hd)
  obtain ⟨h0, h1, h2, _⟩ := hg.three
  clear hd hg hi hc1 hc2
  generalize qs.length = ql at *
  go_enter Try.func22, Try.ntmps22
  go_wp2_with fail
  refine HX.out.mono ?_
  rintro e w1 ⟨rfl, hb1⟩
  have HB1 := Lib.hid hb1
  clear hb1
  go_wp2_with fail
  go_ret
  exact ⟨rfl, HB1.out⟩
theorem sorts3_any (hs sorts : List Int) (Ad An Ah S : Option Addr) (dl dc nl nc hc sc : Nat) (i : Nat) (hi : i < hs.length) (_hl1 : hs.length ≤ maxLen) (hl2 : sorts.length ≤ maxLen) (ga gs : Nat) (w : World) (hh : Is w Ah hs) (hS : Is w S sorts) (hg : HB w ga 30 #[.slice Ad dl dc, .slice An nl nc, .slice Ah hs.length hc]) (hq : HB w gs 22 #[.slice S sorts.length sc]) :
    Calls Try.prog 26 (#[.int .i64 i] ++ #[.pointer (some ⟨ga, 0, none⟩), .pointer (some ⟨gs, 0, none⟩)]) w fun e w' => e = .returned (.int .i64 (hdC (nth hs i) sorts)) ∧ Below w.heap.size w w' := by
  show Calls Try.prog 26 #[.int .i64 i, .pointer (some ⟨ga, 0, none⟩), .pointer (some ⟨gs, 0, none⟩)] w _
  obtain ⟨b, o, rfl, hb, c0⟩ := is_at hh hi
  have HX := Lib.hid (fun (n : Nat) => wronghold_any (nth hs i) sorts S sc hl2 (w.drewN n) (hS.drewN n))
  obtain ⟨h0, h1, h2, _⟩ := hg.three
  obtain ⟨q0, _⟩ := hq.one
  unfold maxLen at _hl1 hl2
  clear hh hS hg hq
  generalize nth hs i = z at *
  generalize hdC z sorts = r at *
  generalize hs.length = hl at *
  generalize sorts.length = sl at *
  go_enter Try.func26, Try.ntmps26
  go_wp2_with fail
  go_quiet ((go_at_call 27; exact Calls.quiet_of_same (HX.out _)))
  go_wp2_with fail
  go_ret
  exact ⟨rfl, below_dn (Below.refl _ _) _⟩
/-- What stands while the nodes are asked: the sorts so far. -/
def SoI (qs : List Dc) (ns : List Nd) (w0 : World) (base ga gs : Nat) (va : Array Value) (i : Nat) (W : World) : Prop :=
  Below base w0 W ∧ HB W ga 30 va ∧ ∃ S sc, HB W gs 22 #[.slice S i sc] ∧ W.ownsRow base 3 1 (.slice S i sc) i (intV (srtL qs ns i))
set_option maxHeartbeats 2000000 in
theorem sorts2_any (qs : List Dc) (ns : List Nd) (Ad An Ah : Option Addr) (dc nc hl hc : Nat) (i : Nat) (hi : i < ns.length) (hn2 : ns.length ≤ 200) (hc1 : qs.length ≤ maxLen) (w0 : World) (base ga gs : Nat) (hbase : base = w0.heap.size) (hgs : base ≤ gs) (w : World) (hd : DsAt w0 Ad qs) (hn : NsAt w0 An ns)
    (hI : SoI qs ns w0 base ga gs #[.slice Ad qs.length dc, .slice An ns.length nc, .slice Ah hl hc] i w) :
    Calls Try.prog 24 (#[.int .i64 i] ++ #[.pointer (some ⟨ga, 0, none⟩), .pointer (some ⟨gs, 0, none⟩)]) w fun e w' => e = .returned (.int .i64 (nC qs ns i)) ∧ SoI qs ns w0 base ga gs #[.slice Ad qs.length dc, .slice An ns.length nc, .slice Ah hl hc] (i + 1) w' ∧ (∀ g cs, HB w g 47 cs → HB w' g 47 cs) := by
  show Calls Try.prog 24 #[.int .i64 i, .pointer (some ⟨ga, 0, none⟩), .pointer (some ⟨gs, 0, none⟩)] w _
  obtain ⟨hB, hga, S, sc, hgS, hown⟩ := hI
  subst hbase
  have hlen := srtL_len qs ns i
  have his := own_isb hown hlen
  have hbw := hB.size
  have HX := Lib.hid (nodesort_any qs ns (srtL qs ns i) Ad An Ah S dc nc hl hc sc i hc1 hi (by unfold maxLen; omega) hlen his.2 (own_cap hown) (by omega) w (hd.below hB) (hn.below hB) his.1.is)
  rw [hlen] at HX
  obtain ⟨h0, h1, h2, _⟩ := hga.three
  obtain ⟨q0, q1⟩ := hgS.one
  have HGA := Lib.hid hga
  have HGS := Lib.hid hgS
  have HO := Lib.hid hown
  have HBW := Lib.hid hB
  have HN : Hid (srtL qs ns (i + 1) = srtL qs ns i ++ [ndS qs (nn ns i) i (srtL qs ns i)]) := Lib.hid rfl
  have HC : Hid (nC qs ns i = ndC qs (nn ns i) i (srtL qs ns i)) := Lib.hid rfl
  clear hd hn hB hga hgS hown hlen his hc1
  unfold SoI
  generalize ndS qs (nn ns i) i (srtL qs ns i) = so at *
  generalize ndC qs (nn ns i) i (srtL qs ns i) = co at *
  generalize srtL qs ns (i + 1) = L2 at *
  generalize srtL qs ns i = L1 at *
  generalize qs.length = ql at *
  have hi2 : i < 200 := by omega
  generalize ns.length = nl at *
  go_enter Try.func24, Try.ntmps24
  go_wp2_with fail
  refine HX.out.mono ?_
  rintro e w1 ⟨rfl, hb1⟩
  have B1 : Hid (Below w0.heap.size w0 w1) := Lib.hid (bw_below (Nat.le_refl _) HBW.out hb1)
  have HG1 := Lib.hid (HGA.out.below hb1)
  have HS1 := Lib.hid (HGS.out.below hb1)
  have HO1 := Lib.hid (own_below HO.out hb1)
  have K1 : Hid (∀ g cs, HB w g 47 cs → HB w1 g 47 cs) := Lib.hid (fun g cs h => h.below hb1)
  have lw1 := hb1.size
  clear hb1 h0 h1 h2 q0 q1 HX
  obtain ⟨q0, q1⟩ := HS1.out.one
  have lgs := HS1.out.lt
  go_wp2_with (at_builtin; refine wpl_app 22 3 Try.underlying22 (.int .i64 0) 1 8 info3' rfl (by decide) rfl _ _ rfl w0.heap.size (.slice S i sc) i (intV L1) rfl (own_alloc HO1.out _) w1.heap.size #[.int .i64 so] rfl (HB.new _ _ _) rfl (by simp [Value.oneCell']) (by omega) (by unfold maxLen; omega) (by simp; omega) ?_)
  intro g4 cap4 w4 hown4 hkp4 hbw4
  have O4 : Hid (w4.ownsRow w0.heap.size 3 1 (.slice (some ⟨g4, 0, none⟩) (i + 1) cap4) (i + 1) (intV L2)) := Lib.hid (by rw [HN.out, intV_snoc]; exact hown4.out)
  have GA4 := Lib.hid (hkp4 _ _ _ (own_ne HO1.out HG1.out (by decide)) (HG1.out.alloc (.cells #[.int .i64 so] 3)))
  have GS4 := Lib.hid (hkp4 _ _ _ (own_ne HO1.out HS1.out (by decide)) (HS1.out.alloc (.cells #[.int .i64 so] 3)))
  have K4 : Hid (∀ g cs, HB w g 47 cs → HB w4 g 47 cs) := Lib.hid (fun g cs h => hkp4 _ _ _ (own_ne HO1.out (K1.out g cs h) (by decide)) ((K1.out g cs h).alloc (.cells #[.int .i64 so] 3)))
  have B4 : Hid (Below w0.heap.size w0 w4) := Lib.hid (hbw4 w0 (Below.alloc B1.out (by omega) _))
  clear hown4 hkp4 hbw4 q0 q1
  obtain ⟨q0, q1⟩ := GS4.out.one
  have l4 := GS4.out.lt
  go_wp2_with fail
  go_ret
  have F := far_set w4 gs 0 (.slice (some ⟨g4, 0, none⟩) (i + 1) cap4)
  refine ⟨by rw [HC.out]; rfl, ⟨bw_far B4.out hgs F, GA4.out.far_ (hb_ne GA4.out GS4.out (by decide)) F, some ⟨g4, 0, none⟩, cap4, hb_set1 GS4.out, own_far O4.out (own_ne O4.out GS4.out (by decide)) F⟩, fun g cs h => (K4.out g cs h).far_ (hb_ne (K4.out g cs h) GS4.out (by decide)) F⟩
end Go.Proofs.Ytibpgcdaommjeaa
namespace Go.Proofs.Ytibpgcdaommjeaa
open Go.RowKit

theorem fs_zero {code : Nat → Int} {n lim : Nat} (h : fsC code n lim = 0) : fsA code n lim = 0 ∧ n ≤ lim ∧ fsK code n lim = n := by
  unfold fsC at h
  unfold fsA fsK
  by_cases h1 : lim < n
  · rw [if_pos h1] at h; cases h
  · rw [if_neg h1] at h
    rw [if_neg h1, if_neg h1]
    by_cases h2 : fsI code n < n
    · rw [if_pos h2] at h
      exfalso
      unfold fsI at h h2
      have hl : (List.range n).findIdx (fun i => code i != 0) < (List.range n).length := by rw [List.length_range]; exact h2
      have := List.findIdx_getElem (w := hl)
      rw [List.getElem_range, h] at this
      simp at this
    · rw [if_neg h2, if_neg h2]
      exact ⟨rfl, by omega, rfl⟩
/-- The first fault of an ask, and where. -/
def hC (qs : List Dc) (ns : List Nd) (hs : List Int) (i : Nat) : Int := hdC (nth hs i) (srtL qs ns ns.length)
def akC (qs : List Dc) (ns : List Nd) (hs : List Int) : Int :=
  if fsC (dcC qs) qs.length 30 ≠ 0 then fsC (dcC qs) qs.length 30 else if fsC (nC qs ns) ns.length 200 ≠ 0 then fsC (nC qs ns) ns.length 200 else fsC (hC qs ns hs) hs.length 200
def akA (qs : List Dc) (ns : List Nd) (hs : List Int) : Int :=
  if fsC (dcC qs) qs.length 30 ≠ 0 then fsA (dcC qs) qs.length 30 else if fsC (nC qs ns) ns.length 200 ≠ 0 then fsA (nC qs ns) ns.length 200 else fsA (hC qs ns hs) hs.length 200
/-- The sorts that are told. -/
def akL (qs : List Dc) (ns : List Nd) (hs : List Int) : List Int := if akC qs ns hs = 0 then srtL qs ns ns.length else []
theorem soI_below {qs : List Dc} {ns : List Nd} {w0 : World} {base ga gs i : Nat} {va : Array Value} {W W' : World} (hb : base = w0.heap.size) (h : SoI qs ns w0 base ga gs va i W) (k : Below W.heap.size W W') : SoI qs ns w0 base ga gs va i W' := by
  obtain ⟨h1, h2, S, sc, h3, h4⟩ := h
  subst hb
  exact ⟨bw_below (Nat.le_refl _) h1 k, h2.below k, S, sc, h3.below k, own_below h4 k⟩
theorem soI_far {qs : List Dc} {ns : List Nd} {w0 : World} {base ga gs i : Nat} {va cs : Array Value} {W W' : World} {g : Nat} (hg : base ≤ g) (hh : HB W g 47 cs) (f : Far g W W') (h : SoI qs ns w0 base ga gs va i W) : SoI qs ns w0 base ga gs va i W' := by
  obtain ⟨h1, h2, S, sc, h3, h4⟩ := h
  exact ⟨bw_far h1 hg f, h2.far_ (hb_ne h2 hh (by decide)) f, S, sc, h3.far_ (hb_ne h3 hh (by decide)) f, own_far h4 (own_ne h4 hh (by decide)) f⟩
/-- What ask.Sorts yields. -/
def GivesS (L : List Int) (C A : Int) (w : World) (e : Ending) (w' : World) : Prop :=
  ∃ S sc, e = .returned (.tuple #[.slice S L.length sc, .agg #[.int .i64 C, .int .i64 A]]) ∧ Isb w.heap.size w' S L ∧ L.length ≤ sc ∧ sc ≤ maxLen ∧ Below w.heap.size w w'
set_option maxHeartbeats 4000000 in
theorem sorts_any (qs : List Dc) (ns : List Nd) (hs : List Int) (Ad An Ah : Option Addr) (dc nc hc : Nat) (h1 : qs.length ≤ dc) (h2 : dc ≤ maxLen) (h3 : ns.length ≤ maxLen) (h4 : hs.length ≤ maxLen) (w : World) (hd : DsAt w Ad qs) (hn : NsAt w An ns) (hh : Is w Ah hs) :
    Calls Try.prog 14 #[.agg #[.slice Ad qs.length dc, .slice An ns.length nc, .slice Ah hs.length hc]] w (GivesS (akL qs ns hs) (akC qs ns hs) (akA qs ns hs) w) := by
  have HD := Lib.hid hd
  have HN := Lib.hid hn
  have HH := Lib.hid hh
  have HL1 := Lib.hid h1
  have HL2 := Lib.hid h2
  have HL3 := Lib.hid h3
  have HL4 := Lib.hid h4
  have HF1 := Lib.hid (fun (W : World) (hW : Below w.heap.size w W ∧ HB W w.heap.size 30 #[.slice Ad qs.length dc, .slice An ns.length nc, .slice Ah hs.length hc]) (hsz : w.heap.size ≤ W.heap.size) =>
    first_any enters21 qs.length 30 (by unfold maxLen at h2; omega) #[.pointer (some ⟨w.heap.size, 0, none⟩)] (dcC qs) (fun _ W => Below w.heap.size w W ∧ HB W w.heap.size 30 #[.slice Ad qs.length dc, .slice An ns.length nc, .slice Ah hs.length hc]) W
      (fun _ W W' h k => ⟨bw_below (Nat.le_refl _) h.1 k, h.2.below k⟩) (fun _ W W' g cs hg hb f h => ⟨bw_far h.1 (Nat.le_trans hsz hg) f, h.2.far_ (hb_ne h.2 hb (by decide)) f⟩)
      (fun i W hi _ h => (sorts1_any qs Ad An Ah dc ns.length nc hs.length hc i hi h1 h2 w.heap.size W (hd.below h.1) h.2).mono fun e w' ⟨e1, b1⟩ => ⟨e1, ⟨bw_below (Nat.le_refl _) h.1 b1, h.2.below b1⟩, fun g cs hb => hb.below b1⟩) hW)
  have HF2 := Lib.hid (fun (gs : Nat) (W : World) (hgs : w.heap.size ≤ gs) (hW : SoI qs ns w w.heap.size w.heap.size gs #[.slice Ad qs.length dc, .slice An ns.length nc, .slice Ah hs.length hc] 0 W) (hsz : w.heap.size ≤ W.heap.size) =>
    first_any enters23 ns.length 200 (by unfold maxLen at h3; omega) #[.pointer (some ⟨w.heap.size, 0, none⟩), .pointer (some ⟨gs, 0, none⟩)] (nC qs ns) (fun i W => SoI qs ns w w.heap.size w.heap.size gs #[.slice Ad qs.length dc, .slice An ns.length nc, .slice Ah hs.length hc] i W) W
      (fun _ W W' h k => soI_below rfl h k) (fun _ W W' g cs hg hb f h => soI_far (Nat.le_trans hsz hg) hb f h)
      (fun i W hi hl h => sorts2_any qs ns Ad An Ah dc nc hs.length hc i hi hl (Nat.le_trans h1 h2) w w.heap.size w.heap.size gs rfl hgs W hd hn h) hW)
  have HF3 := Lib.hid (fun (gs : Nat) (W : World) (hgs : w.heap.size ≤ gs) (hW : SoI qs ns w w.heap.size w.heap.size gs #[.slice Ad qs.length dc, .slice An ns.length nc, .slice Ah hs.length hc] ns.length W) (hsz : w.heap.size ≤ W.heap.size) =>
    first_any enters25 hs.length 200 (by unfold maxLen at h4; omega) #[.pointer (some ⟨w.heap.size, 0, none⟩), .pointer (some ⟨gs, 0, none⟩)] (hC qs ns hs) (fun _ W => SoI qs ns w w.heap.size w.heap.size gs #[.slice Ad qs.length dc, .slice An ns.length nc, .slice Ah hs.length hc] ns.length W) W
      (fun _ W W' h k => soI_below rfl h k) (fun _ W W' g cs hg hb f h => soI_far (Nat.le_trans hsz hg) hb f h)
      (fun i W hi hl h => by
        obtain ⟨b1, b2, S, sc, b3, b4⟩ := h
        have hlen := srtL_len qs ns ns.length
        have his := own_isb b4 hlen
        have hq : HB W gs 22 #[.slice S (srtL qs ns ns.length).length sc] := by rw [hlen]; exact b3
        exact (sorts3_any hs (srtL qs ns ns.length) Ad An Ah S qs.length dc ns.length nc hc sc i hi h4 (by rw [hlen]; exact h3) w.heap.size gs W (hh.below b1) his.1.is b2 hq).mono fun e w' ⟨e1, k⟩ => ⟨e1, soI_below rfl ⟨b1, b2, S, sc, b3, b4⟩ k, fun g cs hb => hb.below k⟩) hW)
  have HZ1 := Lib.hid (fun h => fs_zero (code := dcC qs) (n := qs.length) (lim := 30) h)
  have HZ2 := Lib.hid (fun h => fs_zero (code := nC qs ns) (n := ns.length) (lim := 200) h)
  have HZ3 := Lib.hid (fun h => fs_zero (code := hC qs ns hs) (n := hs.length) (lim := 200) h)
  have HSL := Lib.hid (srtL_len qs ns ns.length)
  have HC : Hid (akC qs ns hs = if fsC (dcC qs) qs.length 30 ≠ 0 then fsC (dcC qs) qs.length 30 else if fsC (nC qs ns) ns.length 200 ≠ 0 then fsC (nC qs ns) ns.length 200 else fsC (hC qs ns hs) hs.length 200) := Lib.hid rfl
  have HA : Hid (akA qs ns hs = if fsC (dcC qs) qs.length 30 ≠ 0 then fsA (dcC qs) qs.length 30 else if fsC (nC qs ns) ns.length 200 ≠ 0 then fsA (nC qs ns) ns.length 200 else fsA (hC qs ns hs) hs.length 200) := Lib.hid rfl
  have HL : Hid (akL qs ns hs = if akC qs ns hs = 0 then srtL qs ns ns.length else []) := Lib.hid rfl
  unfold GivesS
  generalize fsK (nC qs ns) ns.length 200 = K2 at *
  generalize fsK (hC qs ns hs) hs.length 200 = K3 at *
  generalize akL qs ns hs = L at *
  generalize akC qs ns hs = C at *
  generalize akA qs ns hs = A at *
  generalize fsC (dcC qs) qs.length 30 = C1 at *
  generalize fsA (dcC qs) qs.length 30 = A1 at *
  generalize fsC (nC qs ns) ns.length 200 = C2 at *
  generalize fsA (nC qs ns) ns.length 200 = A2 at *
  generalize fsC (hC qs ns hs) hs.length 200 = C3 at *
  generalize fsA (hC qs ns hs) hs.length 200 = A3 at *
  unfold maxLen at h2 h3 h4
  clear hd hn hh
  generalize qs.length = ql at *
  generalize ns.length = nl at *
  generalize hs.length = hl at *
  have N1 : Hid (HB ((w.alloc (.cells #[.slice Ad ql dc, .slice An nl nc, .slice Ah hl hc] 30)).alloc (.cells #[.int .i64 0, .int .i64 0] 47)) w.heap.size 30 #[.slice Ad ql dc, .slice An nl nc, .slice Ah hl hc]) := Lib.hid ((HB.new _ _ _).alloc _)
  have R1 : Hid (HB ((w.alloc (.cells #[.slice Ad ql dc, .slice An nl nc, .slice Ah hl hc] 30)).alloc (.cells #[.int .i64 0, .int .i64 0] 47)) (w.heap.size + 1) 47 #[.int .i64 0, .int .i64 0]) := Lib.hid (HB.new1 _ _ _ _)
  have G1 : Hid (Below w.heap.size w ((w.alloc (.cells #[.slice Ad ql dc, .slice An nl nc, .slice Ah hl hc] 30)).alloc (.cells #[.int .i64 0, .int .i64 0] 47))) := Lib.hid (by go_grown)
  have X1 := Lib.hid (HF1.out _ ⟨G1.out, N1.out⟩ (by simp; omega))
  go_enter Try.func14, Try.ntmps14
  go_wp2_with fail
  refine X1.out.mono ?_
  rintro e w1 ⟨rfl, hi1, hk1⟩
  have G2 := Lib.hid hi1.1
  have N2 := Lib.hid hi1.2
  have R2 := Lib.hid (hk1 _ _ (by simp) R1.out)
  clear hi1 hk1 X1 G1 N1 R1
  obtain ⟨x0, x1, x2, _⟩ := N2.out.three
  obtain ⟨r0, r1, r2, r3⟩ := R2.out.two
  have lr := R2.out.lt
  have lw := G2.out.size
  by_cases hc1 : C1 = 0
  · obtain ⟨hA1, _, _⟩ := HZ1.out hc1
    rw [if_neg (by simpa using hc1)] at HC HA
    clear HZ1
    subst hc1 hA1
    have lqq : w.heap.size < w1.heap.size := by omega
    have lq2 : w.heap.size + 1 < w1.heap.size := lr
    have S0 : Hid (SoI qs ns w w.heap.size w.heap.size (w1.heap.size + 1) #[.slice Ad ql dc, .slice An nl nc, .slice Ah hl hc] 0 ((w1.alloc (.cells #[.int .i64 0, .int .i64 0] 47)).alloc (.cells #[.slice none 0 0] 22))) := Lib.hid
      ⟨Below.alloc (Below.alloc G2.out lw _) (by simp; omega) _, (N2.out.alloc _).alloc _, none, 0, HB.new1 _ _ _ _, own_nil _ _ _ _⟩
    have X2 := Lib.hid (HF2.out (w1.heap.size + 1) _ (by omega) S0.out (by simp; omega))
    have R3 := Lib.hid ((R2.out.alloc (.cells #[.int .i64 0, .int .i64 0] 47)).alloc (.cells #[.slice none 0 0] 22))
    have T3 := Lib.hid ((HB.new w1 47 #[.int .i64 0, .int .i64 0]).alloc (.cells #[.slice none 0 0] 22))
    go_wp2_with fail
    refine X2.out.mono ?_
    rintro e w2 ⟨rfl, hi2, hk2⟩
    have S2 := Lib.hid hi2
    have R4 := Lib.hid (hk2 _ _ (by simp; omega) R3.out)
    have T4 := Lib.hid (hk2 _ _ (by simp; omega) T3.out)
    clear hi2 hk2 X2 S0 R3 T3 x0 x1 x2 r0 r1 r2 r3 lr HF1 HF2 N2 R2
    obtain ⟨r0, r1, r2, r3⟩ := R4.out.two
    obtain ⟨q0, q1, q2, q3⟩ := T4.out.two
    have lr := R4.out.lt
    have lq := T4.out.lt
    have hne : w.heap.size + 1 ≠ w1.heap.size := by omega
    by_cases hc2 : C2 = 0
    · obtain ⟨hA2, hn200, hK2⟩ := HZ2.out hc2
      rw [if_neg (by simpa using hc2)] at HC HA
      clear HZ2
      subst hc2 hA2
      rw [hK2] at S2
      have F4 := far2 w2 w1.heap.size (.int .i64 0) (.int .i64 0)
      have S3 := Lib.hid (soI_far (Nat.le_of_lt lqq) T4.out F4 S2.out)
      have R5 := Lib.hid (R4.out.far_ hne F4)
      have T5 := Lib.hid (hb_set2 (n := .int .i64 0) (d := .int .i64 0) T4.out)
      have lw3 : w2.heap.size = ((w2.setCell ⟨w1.heap.size, 0, none⟩ (.int .i64 0)).setCell ⟨w1.heap.size, 1, none⟩ (.int .i64 0)).heap.size := F4.size.symm
      have X3 := Lib.hid (HF3.out (w1.heap.size + 1) _ (by omega) S3.out (by omega))
      obtain ⟨_, NA, S', sc', NS, _⟩ := S2.out
      obtain ⟨x0, x1, x2, _⟩ := NA.three
      have s0 := NS.one.1
      clear NA NS
      go_wp2_with fail
      refine X3.out.mono ?_
      rintro e w5 ⟨rfl, hi5, hk5⟩
      have S5 := Lib.hid hi5
      have R6 := Lib.hid (hk5 _ _ (by omega) R5.out)
      have T6 := Lib.hid (hk5 _ _ (by omega) T5.out)
      clear hi5 hk5 X3 S2 S3 R4 R5 T4 T5 F4 x0 x1 x2 s0 q0 q1 q2 q3 r0 r1 r2 r3 HF3 lw3 lr lq
      obtain ⟨r0, r1, r2, r3⟩ := R6.out.two
      obtain ⟨q0, q1, q2, q3⟩ := T6.out.two
      have lr := R6.out.lt
      have lq := T6.out.lt
      by_cases hc3 : C3 = 0
      · obtain ⟨hA3, _, _⟩ := HZ3.out hc3
        clear HZ3
        subst hc3 hA3
        rw [if_pos HC.out] at HL
        have F6 := far2 w5 w1.heap.size (.int .i64 0) (.int .i64 0)
        have F7 := far2 ((w5.setCell ⟨w1.heap.size, 0, none⟩ (.int .i64 0)).setCell ⟨w1.heap.size, 1, none⟩ (.int .i64 0)) (w.heap.size + 1) (.int .i64 0) (.int .i64 0)
        have S6 := soI_far (Nat.le_of_lt lqq) T6.out F6 S5.out
        have RR := R6.out.far_ hne F6
        have S7 := Lib.hid (soI_far (Nat.le_succ _) RR F7 S6)
        have RR7 := hb_set2 (n := .int .i64 0) (d := .int .i64 0) RR
        obtain ⟨y0, y1, _, _⟩ := RR7.two
        obtain ⟨_, _, S', sc', NS, OW⟩ := S5.out
        have s0 := NS.one.1
        have ls := NS.lt
        have O6 := own_far OW (own_ne OW T6.out (by decide)) F6
        have O7 := Lib.hid (own_far O6 (own_ne O6 RR (by decide)) F7)
        have B7 := Lib.hid S7.out.1
        clear S6 F6 F7 RR NS OW O6
        go_wp2_with fail
        have his := own_isb O7.out HSL.out
        refine bodyPost_ret (v := .tuple #[.slice S' nl sc', .agg #[.int .i64 0, .int .i64 0]]) (by simp [results, Try.results14, go_sem, y0, y1]) rfl ⟨S', sc', by rw [HL.out, HSL.out, HC.out, HA.out], by rw [HL.out]; exact his.1, by rw [HL.out, HSL.out]; exact his.2, own_cap O7.out, B7.out⟩
      · have t3 : (C3 == 0) = false := by simpa using hc3
        have HC3 := Lib.hid hc3
        rw [if_neg (by rw [HC.out]; exact hc3)] at HL
        clear hc3
        have F6 := far2 w5 w1.heap.size (.int .i64 C3) (.int .i64 A3)
        have RR := hb_set2 (n := .int .i64 C3) (d := .int .i64 A3) (R6.out.far_ hne F6)
        have GG := bw_far (bw_far S5.out.1 (Nat.le_of_lt lqq) F6) (Nat.le_succ _) (far2 _ (w.heap.size + 1) (.int .i64 C3) (.int .i64 A3))
        go_wp2_with fail
        go_region
        all_goals
          go_wp2_with fail
          obtain ⟨y0, y1, _, _⟩ := RR.two
          refine bodyPost_ret (v := .tuple #[.slice none 0 0, .agg #[.int .i64 C3, .int .i64 A3]]) (by simp [results, Try.results14, go_sem, y0, y1]) rfl ⟨none, 0, by rw [HL.out, HC.out, HA.out]; rfl, by rw [HL.out]; exact isb_nil _ _ _, by rw [HL.out]; exact Nat.le_refl _, Nat.zero_le _, ?_⟩
          exact GG.drew
    · have t2 : (C2 == 0) = false := by simpa using hc2
      have HC2 := Lib.hid hc2
      rw [if_pos hc2] at HC HA
      rw [if_neg (by rw [HC.out]; exact hc2)] at HL
      clear hc2
      have F4 := far2 w2 w1.heap.size (.int .i64 C2) (.int .i64 A2)
      have RR := hb_set2 (n := .int .i64 C2) (d := .int .i64 A2) (R4.out.far_ hne F4)
      have GG := bw_far (bw_far S2.out.1 (Nat.le_of_lt lqq) F4) (Nat.le_succ _) (far2 _ (w.heap.size + 1) (.int .i64 C2) (.int .i64 A2))
      go_wp2_with fail
      go_region
      all_goals
        go_wp2_with fail
        obtain ⟨y0, y1, _, _⟩ := RR.two
        refine bodyPost_ret (v := .tuple #[.slice none 0 0, .agg #[.int .i64 C2, .int .i64 A2]]) (by simp [results, Try.results14, go_sem, y0, y1]) rfl ⟨none, 0, by rw [HL.out, HC.out, HA.out]; rfl, by rw [HL.out]; exact isb_nil _ _ _, by rw [HL.out]; exact Nat.le_refl _, Nat.zero_le _, ?_⟩
        exact GG.drew
  · have t1 : (C1 == 0) = false := by simpa using hc1
    rw [if_pos hc1] at HC HA
    rw [if_neg (by rw [HC.out]; exact hc1)] at HL
    clear hc1
    have RR := (hb_set2 (n := .int .i64 C1) (d := .int .i64 A1) R2.out).alloc (.cells #[.int .i64 C1, .int .i64 A1] 47)
    have F := bw_far G2.out (by omega) (far2 w1 (w.heap.size + 1) (.int .i64 C1) (.int .i64 A1))
    go_wp2_with fail
    go_region
    all_goals
      go_wp2_with fail
      obtain ⟨y0, y1, _, _⟩ := RR.two
      refine bodyPost_ret (v := .tuple #[.slice none 0 0, .agg #[.int .i64 C1, .int .i64 A1]]) (by simp [results, Try.results14, go_sem, y0, y1]) rfl ⟨none, 0, by rw [HL.out, HC.out, HA.out]; rfl, by rw [HL.out]; exact isb_nil _ _ _, by rw [HL.out]; exact Nat.le_refl _, Nat.zero_le _, ?_⟩
      exact (Below.alloc F F.size _).drew
end Go.Proofs.Ytibpgcdaommjeaa
