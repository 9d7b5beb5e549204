/-
  Asks: the first fault among elements.
  Asks: what ask.Sorts asks of each declaration, node and assertion.
  Asks: ask.Sorts.
  Asks that are made of raw numbers: numbers picked, what the maker has in memory.
  Asks that are made of raw numbers: a node is put.
  Values of nodes: what a meaning tells of arguments.
-/
import Derived.Test.YtaodebpogibimaaGreatAskR
import Derived.Deep.AppendLies
import Derived.Deep.RegionLaw
import Derived.Test.YtaodebpogibimaaGreatG03
import Derived.Laws.AppendOwnNone
namespace Go.Proofs.YtaodebpogibimaaGreat
open Go.RowKit

/-- The first element with a code. -/
def fsI (code : Nat → Int) (n : Nat) : Nat := (List.range n).findIdx fun i => code i != 0
theorem fs_hit {code : Nat → Int} {n i : Nat} (hi : i < n) (h : ∀ j, j < i → code j = 0) (hc : code i ≠ 0) : fsI code n = i := by
  unfold fsI
  have hl : i < (List.range n).length := by simpa using hi
  rw [List.findIdx_eq hl]
  refine ⟨by simpa using hc, fun j hj => ?_⟩
  simp [h j hj]
theorem fs_miss {code : Nat → Int} {n : Nat} (h : ∀ j, j < n → code j = 0) : fsI code n = n := by
  unfold fsI
  have : (List.range n).findIdx (fun i => code i != 0) = (List.range n).length := by
    rw [List.findIdx_eq_length]
    intro x hx
    simp [h x (List.mem_range.1 hx)]
  rw [this, List.length_range]
/-- The fault: its code, and where. -/
def fsC (code : Nat → Int) (n lim : Nat) : Int := if lim < n then 2 else if fsI code n < n then code (fsI code n) else 0
def fsA (code : Nat → Int) (n lim : Nat) : Int := if lim < n then 0 else if fsI code n < n then (fsI code n : Int) else 0
/-- How many elements have been asked. -/
def fsK (code : Nat → Int) (n lim : Nat) : Nat := if lim < n then 0 else if fsI code n < n then fsI code n + 1 else n
set_option maxHeartbeats 2000000 in
set_option maxRecDepth 100000 in
theorem first_any {fid : Nat} (hc : Enters fid) (n lim : Nat) (hn : n ≤ 9223372036854775807) (caps : Array Value) (code : Nat → Int) (I : Nat → World → Prop) (w : World)
    (hI : ∀ i W W', I i W → Below W.heap.size W W' → I i W')
    (hF : ∀ i W W' g cs, w.heap.size ≤ g → HB W g 32 cs → Far g W W' → I i W → I i W')
    (H : ∀ i W, i < n → n ≤ lim → I i W → Calls Tryz.prog fid (#[.int .i64 i] ++ caps) W fun e w' => e = .returned (.int .i64 (code i)) ∧ I (i + 1) w' ∧ (∀ g cs, HB W g 32 cs → HB w' g 32 cs))
    (hw : I 0 w) :
    Calls Tryz.prog 25 #[.int .i64 n, .int .i64 lim, .func (.func fid) #[] caps] w fun e w' => e = .returned (.agg #[.int .i64 (fsC code n lim), .int .i64 (fsA code n lim)]) ∧ I (fsK code n lim) w' ∧ (∀ g cs, g < w.heap.size → HB w g 32 cs → HB w' g 32 cs) := by
  have HC := Lib.hid hc
  have HH := Lib.hid H
  have HI := Lib.hid hI
  have HF := Lib.hid hF
  have HW := Lib.hid (hI 0 w _ hw (new_below w (.cells #[.int .i64 0, .int .i64 0] 32)))
  have HWA := Lib.hid (fun o => hI 0 w _ hw (new_below w o))
  clear hc H hI hF hw
  by_cases h1 : lim < n
  · have HE : Hid (fsC code n lim = 2 ∧ fsA code n lim = 0 ∧ fsK code n lim = 0) := Lib.hid (by unfold fsC fsA fsK; simp only [h1, if_true, and_self])
    go_enter Tryz.func25, Tryz.ntmps25
    go_wp2_with fail
    refine bodyPost_ret (v := .agg #[.int .i64 2, .int .i64 0]) (by simp [results, Tryz.results25, go_sem]) rfl ⟨by rw [HE.out.1, HE.out.2.1], ?_, ?_⟩
    · rw [HE.out.2.2]; exact HWA.out _
    · intro g cs hg h; exact h.alloc _
  · go_enter Tryz.func25, Tryz.ntmps25
    go_wp2_with fail
    go_loopw [7, 8, 14] (fun _ _ k wr => ∃ i : Nat, i ≤ n ∧ k = .int .i64 i ∧ Hid (∀ j, j < i → code j = 0) ∧ Hid (I i wr) ∧ Hid (HB wr w.heap.size 32 #[.int .i64 0, .int .i64 0]) ∧ Hid (∀ g cs, g < w.heap.size → HB w g 32 cs → HB wr g 32 cs)) (fun _ _ k _ => n - (intOf k).toNat)
    case atStart => exact ⟨0, by omega, rfl, fun j hj => absurd hj (by omega), HW, HB.new _ _ _, Lib.hid (fun g cs hg h => h.alloc _)⟩
    case round =>
      obtain ⟨i, hi, rfl, HP, HX, HR, HG⟩ := hrel
      obtain ⟨r0, r1, r2, r3⟩ := HR.out.two
      have lr := HR.out.lt
      by_cases hlt : i < n
      · have t3 : decide ((i : Int) < n) = true := by simpa using hlt
        have HL := Lib.hid (show n ≤ lim by omega)
        clear h1
        go_wp2_with fail
        rw [HC.out, Oper.upon_enter]
        refine (HH.out i _ hlt HL.out HX.out).mono ?_
        rintro e w1 ⟨rfl, hx1, hg1⟩
        have X1 := Lib.hid hx1
        have R1 := Lib.hid (hg1 _ _ HR.out)
        have G1 : Hid (∀ g cs, g < w.heap.size → HB w g 32 cs → HB w1 g 32 cs) := Lib.hid (fun g cs hg h => hg1 g cs (HG.out g cs hg h))
        clear hx1 hg1 r0 r1 r2 r3 lr
        obtain ⟨r0, r1, r2, r3⟩ := R1.out.two
        have lr := R1.out.lt
        by_cases hc : code i = 0
        · have HC0 := Lib.hid hc
          rw [hc]
          clear hc
          go_wp2_with fail
          go_round
          case rel => exact ⟨i + 1, by omega, by go_num, fun j hj => by
            rcases Nat.lt_or_ge j i with z | z
            · exact HP.out j z
            · obtain rfl : j = i := by omega
              exact HC0.out, X1, R1, G1⟩
          case measure => simp [intOf]; omega
        · have tc : (code i != 0) = true := by simpa using hc
          have HE : Hid (fsC code n lim = code i ∧ fsA code n lim = i ∧ fsK code n lim = i + 1) := Lib.hid (by
            have := fs_hit hlt HP.out hc
            have h1 := HL.out
            unfold fsC fsA fsK
            rw [this, if_neg (by omega), if_pos hlt, if_neg (by omega), if_pos hlt, if_neg (by omega), if_pos hlt]
            exact ⟨rfl, rfl, rfl⟩)
          clear hc
          generalize code i = ci at *
          go_wp2_with fail
          have RR := hb_set2 (n := .int .i64 ci) (d := .int .i64 i) R1.out
          have FF := far2 w1 w.heap.size (.int .i64 ci) (.int .i64 i)
          obtain ⟨y0, y1, _, _⟩ := RR.two
          refine bodyPost_ret (v := .agg #[.int .i64 ci, .int .i64 i]) (by simp [results, Tryz.results25, go_sem, y0, y1]) rfl ⟨by rw [HE.out.1, HE.out.2.1], ?_, ?_⟩
          · rw [HE.out.2.2]; exact HF.out _ _ _ _ _ (Nat.le_refl _) R1.out FF X1.out
          · intro g cs hg h; exact (G1.out g cs hg h).far_ (by omega) FF
      · obtain rfl : i = n := by omega
        have t3 : decide ((i : Int) < i) = false := by simp
        have HE : Hid (fsC code i lim = 0 ∧ fsA code i lim = 0 ∧ fsK code i lim = i) := Lib.hid (by
          have := fs_miss HP.out
          unfold fsC fsA fsK
          rw [this, if_neg (by omega), if_neg (by omega), if_neg (by omega), if_neg (by omega), if_neg (by omega), if_neg (by omega)]
          exact ⟨rfl, rfl, rfl⟩)
        clear hlt h1
        go_wp2_with fail
        have RR := hb_set2 (n := .int .i64 0) (d := .int .i64 0) HR.out
        have FF := far2 wr w.heap.size (.int .i64 0) (.int .i64 0)
        obtain ⟨y0, y1, _, _⟩ := RR.two
        refine bodyPost_ret (v := .agg #[.int .i64 0, .int .i64 0]) (by simp [results, Tryz.results25, go_sem, y0, y1]) rfl ⟨by rw [HE.out.1, HE.out.2.1], ?_, ?_⟩
        · rw [HE.out.2.2]; exact HF.out _ _ _ _ _ (Nat.le_refl _) HR.out FF HX.out
        · intro g cs hg h; exact (HG.out g cs hg h).far_ (by omega) FF
end Go.Proofs.YtaodebpogibimaaGreat
namespace Go.Proofs.YtaodebpogibimaaGreat
open Go.RowKit

/-- The sorts of the first nodes. -/
def srtL (qs : List Dc) (ns : List Nd) : Nat → List Int
  | 0 => []
  | i + 1 => srtL qs ns i ++ [ndS qs (nn ns i) i (srtL qs ns i)]
theorem srtL_len (qs : List Dc) (ns : List Nd) (i : Nat) : (srtL qs ns i).length = i := by
  induction i with
  | zero => rfl
  | succ i ih => rw [srtL, List.length_append, ih]; rfl
def nC (qs : List Dc) (ns : List Nd) (i : Nat) : Int := ndC qs (nn ns i) i (srtL qs ns i)
/-- What is wrong with an assertion. -/
def hdC (z : Int) (sorts : List Int) : Int := if z < 0 ∨ (sorts.length : Int) ≤ z then 3 else if nth sorts z.toNat ≠ 1 then 8 else 0
theorem hb_ne {w : World} {g g' t t' : Nat} {cs cs' : Array Value} (h : HB w g t cs) (h' : HB w g' t' cs') (ht : t ≠ t') : g ≠ g' := by
  rintro rfl
  unfold HB at h h'
  rw [h] at h'
  injection h' with h'
  injection h' with _ h'
  exact ht h'
theorem hb_set1' {w : World} {g t : Nat} {a : Value} (h : HB w g t #[a]) (n : Value) : HB (w.setCell ⟨g, 0, none⟩ n) g t #[n] := hb_set1 h
theorem wronghold_any (z : Int) (sorts : List Int) (S : Option Addr) (sc : Nat) (_hl : sorts.length ≤ maxLen) (w : World) (h : Is w S sorts) :
    Calls Tryz.prog 31 #[.int .i64 z, .slice S sorts.length sc] w fun e w' => e = .returned (.int .i64 (hdC z sorts)) ∧ w' = w := by
  unfold maxLen at _hl
  by_cases h1 : z < 0
  · have d1 : decide (z < 0) = true := by simpa using h1
    rw [show hdC z sorts = 3 by unfold hdC; rw [if_pos (.inl h1)]]
    clear h h1
    generalize sorts.length = L at *
    go_enter Tryz.func31, Tryz.ntmps31
    go_wp2_with fail
    go_ret
    exact ⟨rfl, rfl⟩
  · have d1 : decide (z < 0) = false := by simpa using h1
    by_cases h2 : (sorts.length : Int) ≤ z
    · rw [show hdC z sorts = 3 by unfold hdC; rw [if_pos (.inr h2)]]
      clear h
      generalize sorts.length = L at *
      have d2 : decide ((L : Int) ≤ z) = true := by simpa using h2
      go_enter Tryz.func31, Tryz.ntmps31
      go_wp2_with fail
      go_ret
      exact ⟨rfl, rfl⟩
    · obtain ⟨b, o, rfl, hb, c0⟩ := is_at (i := z.toNat) h (by omega)
      have HE : hdC z sorts = if nth sorts z.toNat ≠ 1 then 8 else 0 := by unfold hdC; rw [if_neg (by omega)]
      by_cases h3 : nth sorts z.toNat = 1
      · rw [HE, if_neg (by simpa using h3)]
        rw [h3] at c0
        clear h HE h3
        generalize sorts.length = L at *
        have d2 : decide ((L : Int) ≤ z) = false := by simpa using h2
        have hz : 0 ≤ z := by omega
        go_enter Tryz.func31, Tryz.ntmps31
        go_wp2_with fail
        go_ret
        exact ⟨rfl, rfl⟩
      · rw [HE, if_pos h3]
        have d3 : (nth sorts z.toNat != 1) = true := by simpa using h3
        clear h HE h3
        generalize nth sorts z.toNat = x at *
        generalize sorts.length = L at *
        have d2 : decide ((L : Int) ≤ z) = false := by simpa using h2
        have hz : 0 ≤ z := by omega
        go_enter Tryz.func31, Tryz.ntmps31
        go_wp2_with fail
        go_ret
        exact ⟨rfl, rfl⟩
theorem sorts1_any (qs : List Dc) (Ad An Ah : Option Addr) (dc nl nc hl hc : Nat) (i : Nat) (hi : i < qs.length) (hc1 : qs.length ≤ dc) (hc2 : dc ≤ maxLen) (ga : Nat) (w : World) (hd : DsAt w Ad qs) (hg : HB w ga 26 #[.slice Ad qs.length dc, .slice An nl nc, .slice Ah hl hc]) :
    Calls Tryz.prog 26 (#[.int .i64 i] ++ #[.pointer (some ⟨ga, 0, none⟩)]) w fun e w' => e = .returned (.int .i64 (dcC qs i)) ∧ Below w.heap.size w w' := by
  show Calls Tryz.prog 26 #[.int .i64 i, .pointer (some ⟨ga, 0, none⟩)] w _
  have HX := Lib.hid (wrongdecl_any qs Ad dc i hi hc1 hc2 w hd)
  obtain ⟨h0, h1, h2, _⟩ := hg.three
  clear hd hg hi hc1 hc2
  generalize qs.length = ql at *
  go_enter Tryz.func26, Tryz.ntmps26
  go_wp2_with fail
  refine HX.out.mono ?_
  rintro e w1 ⟨rfl, hb1⟩
  have HB1 := Lib.hid hb1
  clear hb1
  go_wp2_with fail
  go_ret
  exact ⟨rfl, HB1.out⟩
theorem sorts3_any (hs sorts : List Int) (Ad An Ah S : Option Addr) (dl dc nl nc hc sc : Nat) (i : Nat) (hi : i < hs.length) (_hl1 : hs.length ≤ maxLen) (hl2 : sorts.length ≤ maxLen) (ga gs : Nat) (w : World) (hh : Is w Ah hs) (hS : Is w S sorts) (hg : HB w ga 26 #[.slice Ad dl dc, .slice An nl nc, .slice Ah hs.length hc]) (hq : HB w gs 24 #[.slice S sorts.length sc]) :
    Calls Tryz.prog 30 (#[.int .i64 i] ++ #[.pointer (some ⟨ga, 0, none⟩), .pointer (some ⟨gs, 0, none⟩)]) w fun e w' => e = .returned (.int .i64 (hdC (nth hs i) sorts)) ∧ Below w.heap.size w w' := by
  show Calls Tryz.prog 30 #[.int .i64 i, .pointer (some ⟨ga, 0, none⟩), .pointer (some ⟨gs, 0, none⟩)] w _
  obtain ⟨b, o, rfl, hb, c0⟩ := is_at hh hi
  have HX := Lib.hid (fun (n : Nat) => wronghold_any (nth hs i) sorts S sc hl2 (w.drewN n) (hS.drewN n))
  obtain ⟨h0, h1, h2, _⟩ := hg.three
  obtain ⟨q0, _⟩ := hq.one
  unfold maxLen at _hl1 hl2
  clear hh hS hg hq
  generalize nth hs i = z at *
  generalize hdC z sorts = r at *
  generalize hs.length = hl at *
  generalize sorts.length = sl at *
  go_enter Tryz.func30, Tryz.ntmps30
  go_wp2_with fail
  go_quiet ((go_at_call 31; exact Calls.quiet_of_same (HX.out _)))
  go_wp2_with fail
  go_ret
  exact ⟨rfl, below_dn (Below.refl _ _) _⟩
/-- What stands while the nodes are asked: the sorts so far. -/
def SoI (qs : List Dc) (ns : List Nd) (w0 : World) (base ga gs : Nat) (va : Array Value) (i : Nat) (W : World) : Prop :=
  Below base w0 W ∧ HB W ga 26 va ∧ ∃ S sc, HB W gs 24 #[.slice S i sc] ∧ W.ownsRow base 3 1 (.slice S i sc) i (intV (srtL qs ns i))
set_option maxHeartbeats 2000000 in
theorem sorts2_any (qs : List Dc) (ns : List Nd) (Ad An Ah : Option Addr) (dc nc hl hc : Nat) (i : Nat) (hi : i < ns.length) (hn2 : ns.length ≤ 200) (hc1 : qs.length ≤ maxLen) (w0 : World) (base ga gs : Nat) (hbase : base = w0.heap.size) (hgs : base ≤ gs) (w : World) (hd : DsAt w0 Ad qs) (hn : NsAt w0 An ns)
    (hI : SoI qs ns w0 base ga gs #[.slice Ad qs.length dc, .slice An ns.length nc, .slice Ah hl hc] i w) :
    Calls Tryz.prog 28 (#[.int .i64 i] ++ #[.pointer (some ⟨ga, 0, none⟩), .pointer (some ⟨gs, 0, none⟩)]) w fun e w' => e = .returned (.int .i64 (nC qs ns i)) ∧ SoI qs ns w0 base ga gs #[.slice Ad qs.length dc, .slice An ns.length nc, .slice Ah hl hc] (i + 1) w' ∧ (∀ g cs, HB w g 32 cs → HB w' g 32 cs) := by
  show Calls Tryz.prog 28 #[.int .i64 i, .pointer (some ⟨ga, 0, none⟩), .pointer (some ⟨gs, 0, none⟩)] w _
  obtain ⟨hB, hga, S, sc, hgS, hown⟩ := hI
  subst hbase
  have hlen := srtL_len qs ns i
  have his := own_isb hown hlen
  have hbw := hB.size
  have HX := Lib.hid (nodesort_any qs ns (srtL qs ns i) Ad An Ah S dc nc hl hc sc i hc1 hi (by unfold maxLen; omega) hlen his.2 (own_cap hown) (by omega) w (hd.below hB) (hn.below hB) his.1.is)
  rw [hlen] at HX
  obtain ⟨h0, h1, h2, _⟩ := hga.three
  obtain ⟨q0, q1⟩ := hgS.one
  have HGA := Lib.hid hga
  have HGS := Lib.hid hgS
  have HO := Lib.hid hown
  have HBW := Lib.hid hB
  have HN : Hid (srtL qs ns (i + 1) = srtL qs ns i ++ [ndS qs (nn ns i) i (srtL qs ns i)]) := Lib.hid rfl
  have HC : Hid (nC qs ns i = ndC qs (nn ns i) i (srtL qs ns i)) := Lib.hid rfl
  clear hd hn hB hga hgS hown hlen his hc1
  unfold SoI
  generalize ndS qs (nn ns i) i (srtL qs ns i) = so at *
  generalize ndC qs (nn ns i) i (srtL qs ns i) = co at *
  generalize srtL qs ns (i + 1) = L2 at *
  generalize srtL qs ns i = L1 at *
  generalize qs.length = ql at *
  have hi2 : i < 200 := by omega
  generalize ns.length = nl at *
  go_enter Tryz.func28, Tryz.ntmps28
  go_wp2_with fail
  refine HX.out.mono ?_
  rintro e w1 ⟨rfl, hb1⟩
  have B1 : Hid (Below w0.heap.size w0 w1) := Lib.hid (bw_below (Nat.le_refl _) HBW.out hb1)
  have HG1 := Lib.hid (HGA.out.below hb1)
  have HS1 := Lib.hid (HGS.out.below hb1)
  have HO1 := Lib.hid (own_below HO.out hb1)
  have K1 : Hid (∀ g cs, HB w g 32 cs → HB w1 g 32 cs) := Lib.hid (fun g cs h => h.below hb1)
  have lw1 := hb1.size
  clear hb1 h0 h1 h2 q0 q1 HX
  obtain ⟨q0, q1⟩ := HS1.out.one
  have lgs := HS1.out.lt
  go_wp2_with (at_builtin; refine wpl_app 24 3 Tryz.underlying24 (.int .i64 0) 1 8 info3' rfl (by decide) rfl _ _ rfl w0.heap.size (.slice S i sc) i (intV L1) rfl (own_alloc HO1.out _) w1.heap.size #[.int .i64 so] rfl (HB.new _ _ _) rfl (by simp [Value.oneCell']) (by omega) (by unfold maxLen; omega) (by simp; omega) ?_)
  intro g4 cap4 w4 hown4 hkp4 hbw4
  have O4 : Hid (w4.ownsRow w0.heap.size 3 1 (.slice (some ⟨g4, 0, none⟩) (i + 1) cap4) (i + 1) (intV L2)) := Lib.hid (by rw [HN.out, intV_snoc]; exact hown4.out)
  have GA4 := Lib.hid (hkp4 _ _ _ (own_ne HO1.out HG1.out (by decide)) (HG1.out.alloc (.cells #[.int .i64 so] 3)))
  have GS4 := Lib.hid (hkp4 _ _ _ (own_ne HO1.out HS1.out (by decide)) (HS1.out.alloc (.cells #[.int .i64 so] 3)))
  have K4 : Hid (∀ g cs, HB w g 32 cs → HB w4 g 32 cs) := Lib.hid (fun g cs h => hkp4 _ _ _ (own_ne HO1.out (K1.out g cs h) (by decide)) ((K1.out g cs h).alloc (.cells #[.int .i64 so] 3)))
  have B4 : Hid (Below w0.heap.size w0 w4) := Lib.hid (hbw4 w0 (Below.alloc B1.out (by omega) _))
  clear hown4 hkp4 hbw4 q0 q1
  obtain ⟨q0, q1⟩ := GS4.out.one
  have l4 := GS4.out.lt
  go_wp2_with fail
  go_ret
  have F := far_set w4 gs 0 (.slice (some ⟨g4, 0, none⟩) (i + 1) cap4)
  refine ⟨by rw [HC.out]; rfl, ⟨bw_far B4.out hgs F, GA4.out.far_ (hb_ne GA4.out GS4.out (by decide)) F, some ⟨g4, 0, none⟩, cap4, hb_set1 GS4.out, own_far O4.out (own_ne O4.out GS4.out (by decide)) F⟩, fun g cs h => (K4.out g cs h).far_ (hb_ne (K4.out g cs h) GS4.out (by decide)) F⟩
end Go.Proofs.YtaodebpogibimaaGreat
namespace Go.Proofs.YtaodebpogibimaaGreat
open Go.RowKit

theorem fs_zero {code : Nat → Int} {n lim : Nat} (h : fsC code n lim = 0) : fsA code n lim = 0 ∧ n ≤ lim ∧ fsK code n lim = n := by
  unfold fsC at h
  unfold fsA fsK
  by_cases h1 : lim < n
  · rw [if_pos h1] at h; cases h
  · rw [if_neg h1] at h
    rw [if_neg h1, if_neg h1]
    by_cases h2 : fsI code n < n
    · rw [if_pos h2] at h
      exfalso
      unfold fsI at h h2
      have hl : (List.range n).findIdx (fun i => code i != 0) < (List.range n).length := by rw [List.length_range]; exact h2
      have := List.findIdx_getElem (w := hl)
      rw [List.getElem_range, h] at this
      simp at this
    · rw [if_neg h2, if_neg h2]
      exact ⟨rfl, by omega, rfl⟩
/-- The first fault of an ask, and where. -/
def hC (qs : List Dc) (ns : List Nd) (hs : List Int) (i : Nat) : Int := hdC (nth hs i) (srtL qs ns ns.length)
def akC (qs : List Dc) (ns : List Nd) (hs : List Int) : Int :=
  if fsC (dcC qs) qs.length 30 ≠ 0 then fsC (dcC qs) qs.length 30 else if fsC (nC qs ns) ns.length 200 ≠ 0 then fsC (nC qs ns) ns.length 200 else fsC (hC qs ns hs) hs.length 200
def akA (qs : List Dc) (ns : List Nd) (hs : List Int) : Int :=
  if fsC (dcC qs) qs.length 30 ≠ 0 then fsA (dcC qs) qs.length 30 else if fsC (nC qs ns) ns.length 200 ≠ 0 then fsA (nC qs ns) ns.length 200 else fsA (hC qs ns hs) hs.length 200
/-- The sorts that are told. -/
def akL (qs : List Dc) (ns : List Nd) (hs : List Int) : List Int := if akC qs ns hs = 0 then srtL qs ns ns.length else []
theorem soI_below {qs : List Dc} {ns : List Nd} {w0 : World} {base ga gs i : Nat} {va : Array Value} {W W' : World} (hb : base = w0.heap.size) (h : SoI qs ns w0 base ga gs va i W) (k : Below W.heap.size W W') : SoI qs ns w0 base ga gs va i W' := by
  obtain ⟨h1, h2, S, sc, h3, h4⟩ := h
  subst hb
  exact ⟨bw_below (Nat.le_refl _) h1 k, h2.below k, S, sc, h3.below k, own_below h4 k⟩
theorem soI_far {qs : List Dc} {ns : List Nd} {w0 : World} {base ga gs i : Nat} {va cs : Array Value} {W W' : World} {g : Nat} (hg : base ≤ g) (hh : HB W g 32 cs) (f : Far g W W') (h : SoI qs ns w0 base ga gs va i W) : SoI qs ns w0 base ga gs va i W' := by
  obtain ⟨h1, h2, S, sc, h3, h4⟩ := h
  exact ⟨bw_far h1 hg f, h2.far_ (hb_ne h2 hh (by decide)) f, S, sc, h3.far_ (hb_ne h3 hh (by decide)) f, own_far h4 (own_ne h4 hh (by decide)) f⟩
/-- What ask.Sorts yields. -/
def GivesS (L : List Int) (C A : Int) (w : World) (e : Ending) (w' : World) : Prop :=
  ∃ S sc, e = .returned (.tuple #[.slice S L.length sc, .agg #[.int .i64 C, .int .i64 A]]) ∧ Isb w.heap.size w' S L ∧ L.length ≤ sc ∧ sc ≤ maxLen ∧ Below w.heap.size w w'
set_option maxHeartbeats 4000000 in
theorem sorts_any (qs : List Dc) (ns : List Nd) (hs : List Int) (Ad An Ah : Option Addr) (dc nc hc : Nat) (h1 : qs.length ≤ dc) (h2 : dc ≤ maxLen) (h3 : ns.length ≤ maxLen) (h4 : hs.length ≤ maxLen) (w : World) (hd : DsAt w Ad qs) (hn : NsAt w An ns) (hh : Is w Ah hs) :
    Calls Tryz.prog 11 #[.agg #[.slice Ad qs.length dc, .slice An ns.length nc, .slice Ah hs.length hc]] w (GivesS (akL qs ns hs) (akC qs ns hs) (akA qs ns hs) w) := by
  have HD := Lib.hid hd
  have HN := Lib.hid hn
  have HH := Lib.hid hh
  have HL1 := Lib.hid h1
  have HL2 := Lib.hid h2
  have HL3 := Lib.hid h3
  have HL4 := Lib.hid h4
  have HF1 := Lib.hid (fun (W : World) (hW : Below w.heap.size w W ∧ HB W w.heap.size 26 #[.slice Ad qs.length dc, .slice An ns.length nc, .slice Ah hs.length hc]) (hsz : w.heap.size ≤ W.heap.size) =>
    first_any enters21 qs.length 30 (by unfold maxLen at h2; omega) #[.pointer (some ⟨w.heap.size, 0, none⟩)] (dcC qs) (fun _ W => Below w.heap.size w W ∧ HB W w.heap.size 26 #[.slice Ad qs.length dc, .slice An ns.length nc, .slice Ah hs.length hc]) W
      (fun _ W W' h k => ⟨bw_below (Nat.le_refl _) h.1 k, h.2.below k⟩) (fun _ W W' g cs hg hb f h => ⟨bw_far h.1 (Nat.le_trans hsz hg) f, h.2.far_ (hb_ne h.2 hb (by decide)) f⟩)
      (fun i W hi _ h => (sorts1_any qs Ad An Ah dc ns.length nc hs.length hc i hi h1 h2 w.heap.size W (hd.below h.1) h.2).mono fun e w' ⟨e1, b1⟩ => ⟨e1, ⟨bw_below (Nat.le_refl _) h.1 b1, h.2.below b1⟩, fun g cs hb => hb.below b1⟩) hW)
  have HF2 := Lib.hid (fun (gs : Nat) (W : World) (hgs : w.heap.size ≤ gs) (hW : SoI qs ns w w.heap.size w.heap.size gs #[.slice Ad qs.length dc, .slice An ns.length nc, .slice Ah hs.length hc] 0 W) (hsz : w.heap.size ≤ W.heap.size) =>
    first_any enters23 ns.length 200 (by unfold maxLen at h3; omega) #[.pointer (some ⟨w.heap.size, 0, none⟩), .pointer (some ⟨gs, 0, none⟩)] (nC qs ns) (fun i W => SoI qs ns w w.heap.size w.heap.size gs #[.slice Ad qs.length dc, .slice An ns.length nc, .slice Ah hs.length hc] i W) W
      (fun _ W W' h k => soI_below rfl h k) (fun _ W W' g cs hg hb f h => soI_far (Nat.le_trans hsz hg) hb f h)
      (fun i W hi hl h => sorts2_any qs ns Ad An Ah dc nc hs.length hc i hi hl (Nat.le_trans h1 h2) w w.heap.size w.heap.size gs rfl hgs W hd hn h) hW)
  have HF3 := Lib.hid (fun (gs : Nat) (W : World) (hgs : w.heap.size ≤ gs) (hW : SoI qs ns w w.heap.size w.heap.size gs #[.slice Ad qs.length dc, .slice An ns.length nc, .slice Ah hs.length hc] ns.length W) (hsz : w.heap.size ≤ W.heap.size) =>
    first_any enters25 hs.length 200 (by unfold maxLen at h4; omega) #[.pointer (some ⟨w.heap.size, 0, none⟩), .pointer (some ⟨gs, 0, none⟩)] (hC qs ns hs) (fun _ W => SoI qs ns w w.heap.size w.heap.size gs #[.slice Ad qs.length dc, .slice An ns.length nc, .slice Ah hs.length hc] ns.length W) W
      (fun _ W W' h k => soI_below rfl h k) (fun _ W W' g cs hg hb f h => soI_far (Nat.le_trans hsz hg) hb f h)
      (fun i W hi hl h => by
        obtain ⟨b1, b2, S, sc, b3, b4⟩ := h
        have hlen := srtL_len qs ns ns.length
        have his := own_isb b4 hlen
        have hq : HB W gs 24 #[.slice S (srtL qs ns ns.length).length sc] := by rw [hlen]; exact b3
        exact (sorts3_any hs (srtL qs ns ns.length) Ad An Ah S qs.length dc ns.length nc hc sc i hi h4 (by rw [hlen]; exact h3) w.heap.size gs W (hh.below b1) his.1.is b2 hq).mono fun e w' ⟨e1, k⟩ => ⟨e1, soI_below rfl ⟨b1, b2, S, sc, b3, b4⟩ k, fun g cs hb => hb.below k⟩) hW)
  have HZ1 := Lib.hid (fun h => fs_zero (code := dcC qs) (n := qs.length) (lim := 30) h)
  have HZ2 := Lib.hid (fun h => fs_zero (code := nC qs ns) (n := ns.length) (lim := 200) h)
  have HZ3 := Lib.hid (fun h => fs_zero (code := hC qs ns hs) (n := hs.length) (lim := 200) h)
  have HSL := Lib.hid (srtL_len qs ns ns.length)
  have HC : Hid (akC qs ns hs = if fsC (dcC qs) qs.length 30 ≠ 0 then fsC (dcC qs) qs.length 30 else if fsC (nC qs ns) ns.length 200 ≠ 0 then fsC (nC qs ns) ns.length 200 else fsC (hC qs ns hs) hs.length 200) := Lib.hid rfl
  have HA : Hid (akA qs ns hs = if fsC (dcC qs) qs.length 30 ≠ 0 then fsA (dcC qs) qs.length 30 else if fsC (nC qs ns) ns.length 200 ≠ 0 then fsA (nC qs ns) ns.length 200 else fsA (hC qs ns hs) hs.length 200) := Lib.hid rfl
  have HL : Hid (akL qs ns hs = if akC qs ns hs = 0 then srtL qs ns ns.length else []) := Lib.hid rfl
  unfold GivesS
  generalize fsK (nC qs ns) ns.length 200 = K2 at *
  generalize fsK (hC qs ns hs) hs.length 200 = K3 at *
  generalize akL qs ns hs = L at *
  generalize akC qs ns hs = C at *
  generalize akA qs ns hs = A at *
  generalize fsC (dcC qs) qs.length 30 = C1 at *
  generalize fsA (dcC qs) qs.length 30 = A1 at *
  generalize fsC (nC qs ns) ns.length 200 = C2 at *
  generalize fsA (nC qs ns) ns.length 200 = A2 at *
  generalize fsC (hC qs ns hs) hs.length 200 = C3 at *
  generalize fsA (hC qs ns hs) hs.length 200 = A3 at *
  unfold maxLen at h2 h3 h4
  clear hd hn hh
  generalize qs.length = ql at *
  generalize ns.length = nl at *
  generalize hs.length = hl at *
  have N1 : Hid (HB ((w.alloc (.cells #[.slice Ad ql dc, .slice An nl nc, .slice Ah hl hc] 26)).alloc (.cells #[.int .i64 0, .int .i64 0] 32)) w.heap.size 26 #[.slice Ad ql dc, .slice An nl nc, .slice Ah hl hc]) := Lib.hid ((HB.new _ _ _).alloc _)
  have R1 : Hid (HB ((w.alloc (.cells #[.slice Ad ql dc, .slice An nl nc, .slice Ah hl hc] 26)).alloc (.cells #[.int .i64 0, .int .i64 0] 32)) (w.heap.size + 1) 32 #[.int .i64 0, .int .i64 0]) := Lib.hid (HB.new1 _ _ _ _)
  have G1 : Hid (Below w.heap.size w ((w.alloc (.cells #[.slice Ad ql dc, .slice An nl nc, .slice Ah hl hc] 26)).alloc (.cells #[.int .i64 0, .int .i64 0] 32))) := Lib.hid (by go_grown)
  have X1 := Lib.hid (HF1.out _ ⟨G1.out, N1.out⟩ (by simp; omega))
  go_enter Tryz.func11, Tryz.ntmps11
  go_wp2_with fail
  refine X1.out.mono ?_
  rintro e w1 ⟨rfl, hi1, hk1⟩
  have G2 := Lib.hid hi1.1
  have N2 := Lib.hid hi1.2
  have R2 := Lib.hid (hk1 _ _ (by simp) R1.out)
  clear hi1 hk1 X1 G1 N1 R1
  obtain ⟨x0, x1, x2, _⟩ := N2.out.three
  obtain ⟨r0, r1, r2, r3⟩ := R2.out.two
  have lr := R2.out.lt
  have lw := G2.out.size
  by_cases hc1 : C1 = 0
  · obtain ⟨hA1, _, _⟩ := HZ1.out hc1
    rw [if_neg (by simpa using hc1)] at HC HA
    clear HZ1
    subst hc1 hA1
    have lqq : w.heap.size < w1.heap.size := by omega
    have lq2 : w.heap.size + 1 < w1.heap.size := lr
    have S0 : Hid (SoI qs ns w w.heap.size w.heap.size (w1.heap.size + 1) #[.slice Ad ql dc, .slice An nl nc, .slice Ah hl hc] 0 ((w1.alloc (.cells #[.int .i64 0, .int .i64 0] 32)).alloc (.cells #[.slice none 0 0] 24))) := Lib.hid
      ⟨Below.alloc (Below.alloc G2.out lw _) (by simp; omega) _, (N2.out.alloc _).alloc _, none, 0, HB.new1 _ _ _ _, own_nil _ _ _ _⟩
    have X2 := Lib.hid (HF2.out (w1.heap.size + 1) _ (by omega) S0.out (by simp; omega))
    have R3 := Lib.hid ((R2.out.alloc (.cells #[.int .i64 0, .int .i64 0] 32)).alloc (.cells #[.slice none 0 0] 24))
    have T3 := Lib.hid ((HB.new w1 32 #[.int .i64 0, .int .i64 0]).alloc (.cells #[.slice none 0 0] 24))
    go_wp2_with fail
    refine X2.out.mono ?_
    rintro e w2 ⟨rfl, hi2, hk2⟩
    have S2 := Lib.hid hi2
    have R4 := Lib.hid (hk2 _ _ (by simp; omega) R3.out)
    have T4 := Lib.hid (hk2 _ _ (by simp; omega) T3.out)
    clear hi2 hk2 X2 S0 R3 T3 x0 x1 x2 r0 r1 r2 r3 lr HF1 HF2 N2 R2
    obtain ⟨r0, r1, r2, r3⟩ := R4.out.two
    obtain ⟨q0, q1, q2, q3⟩ := T4.out.two
    have lr := R4.out.lt
    have lq := T4.out.lt
    have hne : w.heap.size + 1 ≠ w1.heap.size := by omega
    by_cases hc2 : C2 = 0
    · obtain ⟨hA2, hn200, hK2⟩ := HZ2.out hc2
      rw [if_neg (by simpa using hc2)] at HC HA
      clear HZ2
      subst hc2 hA2
      rw [hK2] at S2
      have F4 := far2 w2 w1.heap.size (.int .i64 0) (.int .i64 0)
      have S3 := Lib.hid (soI_far (Nat.le_of_lt lqq) T4.out F4 S2.out)
      have R5 := Lib.hid (R4.out.far_ hne F4)
      have T5 := Lib.hid (hb_set2 (n := .int .i64 0) (d := .int .i64 0) T4.out)
      have lw3 : w2.heap.size = ((w2.setCell ⟨w1.heap.size, 0, none⟩ (.int .i64 0)).setCell ⟨w1.heap.size, 1, none⟩ (.int .i64 0)).heap.size := F4.size.symm
      have X3 := Lib.hid (HF3.out (w1.heap.size + 1) _ (by omega) S3.out (by omega))
      obtain ⟨_, NA, S', sc', NS, _⟩ := S2.out
      obtain ⟨x0, x1, x2, _⟩ := NA.three
      have s0 := NS.one.1
      clear NA NS
      go_wp2_with fail
      refine X3.out.mono ?_
      rintro e w5 ⟨rfl, hi5, hk5⟩
      have S5 := Lib.hid hi5
      have R6 := Lib.hid (hk5 _ _ (by omega) R5.out)
      have T6 := Lib.hid (hk5 _ _ (by omega) T5.out)
      clear hi5 hk5 X3 S2 S3 R4 R5 T4 T5 F4 x0 x1 x2 s0 q0 q1 q2 q3 r0 r1 r2 r3 HF3 lw3 lr lq
      obtain ⟨r0, r1, r2, r3⟩ := R6.out.two
      obtain ⟨q0, q1, q2, q3⟩ := T6.out.two
      have lr := R6.out.lt
      have lq := T6.out.lt
      by_cases hc3 : C3 = 0
      · obtain ⟨hA3, _, _⟩ := HZ3.out hc3
        clear HZ3
        subst hc3 hA3
        rw [if_pos HC.out] at HL
        have F6 := far2 w5 w1.heap.size (.int .i64 0) (.int .i64 0)
        have F7 := far2 ((w5.setCell ⟨w1.heap.size, 0, none⟩ (.int .i64 0)).setCell ⟨w1.heap.size, 1, none⟩ (.int .i64 0)) (w.heap.size + 1) (.int .i64 0) (.int .i64 0)
        have S6 := soI_far (Nat.le_of_lt lqq) T6.out F6 S5.out
        have RR := R6.out.far_ hne F6
        have S7 := Lib.hid (soI_far (Nat.le_succ _) RR F7 S6)
        have RR7 := hb_set2 (n := .int .i64 0) (d := .int .i64 0) RR
        obtain ⟨y0, y1, _, _⟩ := RR7.two
        obtain ⟨_, _, S', sc', NS, OW⟩ := S5.out
        have s0 := NS.one.1
        have ls := NS.lt
        have O6 := own_far OW (own_ne OW T6.out (by decide)) F6
        have O7 := Lib.hid (own_far O6 (own_ne O6 RR (by decide)) F7)
        have B7 := Lib.hid S7.out.1
        clear S6 F6 F7 RR NS OW O6
        go_wp2_with fail
        have his := own_isb O7.out HSL.out
        refine bodyPost_ret (v := .tuple #[.slice S' nl sc', .agg #[.int .i64 0, .int .i64 0]]) (by simp [results, Tryz.results11, go_sem, y0, y1]) rfl ⟨S', sc', by rw [HL.out, HSL.out, HC.out, HA.out], by rw [HL.out]; exact his.1, by rw [HL.out, HSL.out]; exact his.2, own_cap O7.out, B7.out⟩
      · have t3 : (C3 == 0) = false := by simpa using hc3
        have HC3 := Lib.hid hc3
        rw [if_neg (by rw [HC.out]; exact hc3)] at HL
        clear hc3
        have F6 := far2 w5 w1.heap.size (.int .i64 C3) (.int .i64 A3)
        have RR := hb_set2 (n := .int .i64 C3) (d := .int .i64 A3) (R6.out.far_ hne F6)
        have GG := bw_far (bw_far S5.out.1 (Nat.le_of_lt lqq) F6) (Nat.le_succ _) (far2 _ (w.heap.size + 1) (.int .i64 C3) (.int .i64 A3))
        go_wp2_with fail
        go_region
        all_goals
          go_wp2_with fail
          obtain ⟨y0, y1, _, _⟩ := RR.two
          refine bodyPost_ret (v := .tuple #[.slice none 0 0, .agg #[.int .i64 C3, .int .i64 A3]]) (by simp [results, Tryz.results11, go_sem, y0, y1]) rfl ⟨none, 0, by rw [HL.out, HC.out, HA.out]; rfl, by rw [HL.out]; exact isb_nil _ _ _, by rw [HL.out]; exact Nat.le_refl _, Nat.zero_le _, ?_⟩
          exact GG.drew
    · have t2 : (C2 == 0) = false := by simpa using hc2
      have HC2 := Lib.hid hc2
      rw [if_pos hc2] at HC HA
      rw [if_neg (by rw [HC.out]; exact hc2)] at HL
      clear hc2
      have F4 := far2 w2 w1.heap.size (.int .i64 C2) (.int .i64 A2)
      have RR := hb_set2 (n := .int .i64 C2) (d := .int .i64 A2) (R4.out.far_ hne F4)
      have GG := bw_far (bw_far S2.out.1 (Nat.le_of_lt lqq) F4) (Nat.le_succ _) (far2 _ (w.heap.size + 1) (.int .i64 C2) (.int .i64 A2))
      go_wp2_with fail
      go_region
      all_goals
        go_wp2_with fail
        obtain ⟨y0, y1, _, _⟩ := RR.two
        refine bodyPost_ret (v := .tuple #[.slice none 0 0, .agg #[.int .i64 C2, .int .i64 A2]]) (by simp [results, Tryz.results11, go_sem, y0, y1]) rfl ⟨none, 0, by rw [HL.out, HC.out, HA.out]; rfl, by rw [HL.out]; exact isb_nil _ _ _, by rw [HL.out]; exact Nat.le_refl _, Nat.zero_le _, ?_⟩
        exact GG.drew
  · have t1 : (C1 == 0) = false := by simpa using hc1
    rw [if_pos hc1] at HC HA
    rw [if_neg (by rw [HC.out]; exact hc1)] at HL
    clear hc1
    have RR := (hb_set2 (n := .int .i64 C1) (d := .int .i64 A1) R2.out).alloc (.cells #[.int .i64 C1, .int .i64 A1] 32)
    have F := bw_far G2.out (by omega) (far2 w1 (w.heap.size + 1) (.int .i64 C1) (.int .i64 A1))
    go_wp2_with fail
    go_region
    all_goals
      go_wp2_with fail
      obtain ⟨y0, y1, _, _⟩ := RR.two
      refine bodyPost_ret (v := .tuple #[.slice none 0 0, .agg #[.int .i64 C1, .int .i64 A1]]) (by simp [results, Tryz.results11, go_sem, y0, y1]) rfl ⟨none, 0, by rw [HL.out, HC.out, HA.out]; rfl, by rw [HL.out]; exact isb_nil _ _ _, by rw [HL.out]; exact Nat.le_refl _, Nat.zero_le _, ?_⟩
      exact (Below.alloc F F.size _).drew
end Go.Proofs.YtaodebpogibimaaGreat
namespace Go.Proofs.YtaodebpogibimaaGreat
open Go.RowKit

theorem tmod_bd (a n : Int) (h : 0 < n) : -n < a.tmod n ∧ a.tmod n < n := by
  have h1 := Int.tmod_lt_of_pos a h
  have h2 := Int.tmod_lt_of_pos (-a) h
  rw [Int.neg_tmod] at h2
  omega
theorem pick_eq (a n : Int) (h : 0 < n) : a % n = if a.tmod n < 0 then a.tmod n + n else a.tmod n := by
  obtain ⟨h1, h2⟩ := tmod_bd a n h
  have e : a % n = (a.tmod n) % n := by
    have q : a % n = (a.tmod n + n * a.tdiv n) % n := by rw [Int.tmod_add_mul_tdiv]
    rw [Int.add_mul_emod_self_left] at q
    exact q
  rw [e]
  split
  · rw [← Int.add_emod_right, Int.emod_eq_of_lt (by omega) (by omega)]
  · rw [Int.emod_eq_of_lt (by omega) (by omega)]
section
variable {P : Program} {w : World} {ops : Array Oper} {rest : List Oper} {o : Oper} {a : Act} {K : Act → World → Prop} {Q : Exit → Act → World → Prop} {E : Prop}
/-- An append of one element at a step of a region that draws its order: the row's block is the old one, or new. -/
theorem step_app2 (t e : TypeId) (hut : P.underlying t = some (.slice e)) (z : Value) (sz by_ : Nat) (hinfo : (P.info? e).map (fun i => (i.zero, i.size, i.bytes)) = some (some z, sz, by_)) (hzs : z.cells.size = sz) (hsz : 0 < sz)
    (hgd : o.guard = none) (s x : Operand) (ho : o.op = .call { callee := .builtin .append, args := #[s, x], argTypes := #[t, t] })
    (base : Nat) (v : Value) (n : Nat) (xs : List Value) (hs : a.eval s = v) (hown : w.ownsRow base e sz v n xs) (gb : Nat) (news : Array Value) (hx : a.eval x = .slice (some ⟨gb, 0, none⟩) 1 1) (hnews : HB w gb e news) (hl : news.size = sz) (h1 : ∀ u ∈ news.toList, u.oneCell' = true)
    (hn : (n + 1) * by_ ≤ 140737488355328) (hn2 : n + 1 ≤ maxLen) (hbase : base ≤ w.heap.size)
    (h : ∀ g cap w', Hid (w'.ownsRow base e sz (.slice (some ⟨g, 0, none⟩) (n + 1) cap) (n + 1) (xs ++ news.toList)) → (∀ g t cs, some g ≠ v.ownBlock → HB w g t cs → HB w' g t cs) → (∀ W, Below base W w → Below base W w') → Hid (v.ownBlock = some g ∨ g = w.heap.size) → K (a.put o.dst (.slice (some ⟨g, 0, none⟩) (n + 1) cap)) w') :
    if Region.wanted o (yielded ops a.tmps) = true then Oper.wp P o a w K Q else E := by
  obtain ⟨i0, hi0, hz0, hz1, hz2⟩ := info_parts hinfo
  refine step_append_lies w hgd s x t ho base e i0 z sz by_ hut hi0 hz0 hz1 hz2 hzs hsz v n xs hs hown ⟨gb, 0, none⟩ 1 1 news.toList hx (by simp [hl]) (World.news_of_block (cs := news) hnews) h1 (by omega) hn2 hn hbase _ rfl ?_
  intro g cap w' hown' hg hf _
  exact h g cap w' (Lib.hid hown') (fun g' t cs hne hb => hb.grown hg hne) (fun W hW => bw_grown hbase hW hown hg) hf
end
/-- The maker's blocks. -/
def Mb (g : Nat) (nv sv : Value) (b : Nat) : Prop := b = g ∨ some b = nv.ownBlock ∨ some b = sv.ownBlock
/-- Nothing but some blocks from a number on has changed. -/
def Mv (base : Nat) (X : Nat → Prop) (w : World) (X' : Nat → Prop) (w' : World) : Prop :=
  Below base w w' ∧ w.heap.size ≤ w'.heap.size ∧ ∀ b t cs, ¬ X b → HB w b t cs → HB w' b t cs ∧ ¬ X' b
theorem Mv.trans {base : Nat} {X X' X'' : Nat → Prop} {w w' w'' : World} (h : Mv base X w X' w') (k : Mv base X' w' X'' w'') : Mv base X w X'' w'' :=
  ⟨h.1.trans k.1, Nat.le_trans h.2.1 k.2.1, fun b t cs h1 h2 => k.2.2 b t cs (h.2.2 b t cs h1 h2).2 (h.2.2 b t cs h1 h2).1⟩
theorem mv_refl (base : Nat) (X : Nat → Prop) (w : World) : Mv base X w X w := ⟨Below.refl _ _, Nat.le_refl _, fun _ _ _ h1 h2 => ⟨h2, h1⟩⟩
theorem mv_below {base : Nat} {X : Nat → Prop} {w w' : World} (hb : base ≤ w.heap.size) (h : Below w.heap.size w w') : Mv base X w X w' :=
  ⟨h.mono hb, h.size, fun _ _ _ h1 h2 => ⟨h2.below h, h1⟩⟩
/-- Kids of a node in memory, apart from some blocks. -/
def Kat (w : World) (X : Nat → Prop) (v : Value) (ks : List Int) : Prop :=
  ∃ A c, v = .slice A ks.length c ∧ ks.length ≤ c ∧ c ≤ maxLen ∧ (0 < ks.length → ∃ b o cs, A = some ⟨b, o, none⟩ ∧ HB w b 3 cs ∧ ¬ X b ∧ ∀ k, k < ks.length → cs[o + k]? = some (.int .i64 (nth ks k)))
theorem Kat.mv {base : Nat} {X X' : Nat → Prop} {w w' : World} {v : Value} {ks : List Int} (h : Kat w X v ks) (k : Mv base X w X' w') : Kat w' X' v ks := by
  obtain ⟨A, c, e, h1, h2, h3⟩ := h
  refine ⟨A, c, e, h1, h2, fun z => ?_⟩
  obtain ⟨b, o, cs, e2, hb, hx, hc⟩ := h3 z
  obtain ⟨q1, q2⟩ := k.2.2 b 3 cs hx hb
  exact ⟨b, o, cs, e2, q1, q2, hc⟩
theorem kat_nil (w : World) (X : Nat → Prop) : Kat w X (.slice none 0 0) [] := ⟨none, 0, rfl, Nat.le_refl _, Nat.zero_le _, fun z => absurd z (by simp)⟩
theorem Kat.is {X : Nat → Prop} {w : World} {A : Option Addr} {c : Nat} {ks : List Int} (h : Kat w X (.slice A ks.length c) ks) : Is w A ks := fun z => by
  obtain ⟨A', c', e, _, _, h3⟩ := h
  injection e with e _ _
  subst e
  obtain ⟨b, o, cs, e2, hb, _, hc⟩ := h3 z
  exact ⟨b, o, e2, hb.lt, fun k hk => (hb.cell _).trans (hc k hk)⟩
theorem own_keep {w w' : World} {base m sz : Nat} {e : TypeId} {v : Value} {xs : List Value} (h : w.ownsRow base e sz v m xs) (k : ∀ b cs, some b = v.ownBlock → HB w b e cs → HB w' b e cs) : w'.ownsRow base e sz v m xs := by
  refine ⟨h.1, ?_⟩
  rcases h.2 with z | ⟨g, cap, cur, rfl, hb, hh, r⟩
  · exact .inl z
  · exact .inr ⟨g, cap, cur, rfl, hb, k g cur rfl hh, r⟩
theorem own_mv {base base' m sz : Nat} {X X' : Nat → Prop} {w w' : World} {e : TypeId} {v : Value} {xs : List Value} (h : w.ownsRow base e sz v m xs) (hx : ∀ b, some b = v.ownBlock → ¬ X b) (k : Mv base' X w X' w') : w'.ownsRow base e sz v m xs ∧ ∀ b, some b = v.ownBlock → ¬ X' b := by
  refine ⟨own_keep h fun b cs hb hh => (k.2.2 b e cs (hx b hb) hh).1, fun b hb => ?_⟩
  rcases h.2 with ⟨rfl, _⟩ | ⟨g, cap, cur, rfl, _, hh, _⟩
  · simp [Value.ownBlock] at hb
  · simp [Value.ownBlock] at hb
    subst hb
    exact (k.2.2 b e cur (hx b (by simp [Value.ownBlock])) hh).2
theorem own_ne2 {w : World} {base base' m m' sz sz' : Nat} {e e' : TypeId} {v v' : Value} {xs xs' : List Value} (h : w.ownsRow base e sz v m xs) (k : w.ownsRow base' e' sz' v' m' xs') (ht : e ≠ e') : ∀ b, some b = v.ownBlock → some b ≠ v'.ownBlock := by
  intro b hb
  rcases h.2 with ⟨rfl, _⟩ | ⟨g, cap, cur, rfl, _, hh, _⟩
  · simp [Value.ownBlock] at hb
  · simp [Value.ownBlock] at hb
    subst hb
    exact own_ne k hh ht
/-- The maker's blocks, and some others. -/
def MbY (Y : Nat → Prop) (g : Nat) (nv sv : Value) (b : Nat) : Prop := Mb g nv sv b ∨ Y b
/-- No others. -/
def No : Nat → Prop := fun _ => False
theorem mvY {base g : Nat} {nv sv nv' sv' : Value} {w w' : World} (Y : Nat → Prop) (h : Mv base (Mb g nv sv) w (Mb g nv' sv') w') : Mv base (MbY Y g nv sv) w (MbY Y g nv' sv') w' :=
  ⟨h.1, h.2.1, fun b t cs hx hb => ⟨(h.2.2 b t cs (fun z => hx (.inl z)) hb).1, fun z => z.elim (h.2.2 b t cs (fun z => hx (.inl z)) hb).2 (fun z => hx (.inr z))⟩⟩
/-- A node's cells. -/
def ndV (p : Nd × Value) : List Value := [.int .i64 p.1.op, p.2, .int .i64 p.1.n, .int .i64 p.1.d, .string p.1.name]
theorem own_val {w : World} {base m sz : Nat} {e : TypeId} {v : Value} {xs : List Value} (h : w.ownsRow base e sz v m xs) : ∃ A c, v = .slice A m c := by
  rcases h.2 with ⟨rfl, h1⟩ | ⟨g, cap, cur, rfl, _⟩
  · exact ⟨none, 0, by rw [h1]⟩
  · exact ⟨_, _, rfl⟩
theorem info56' : (Tryz.prog.info? 56).map (fun i => (i.zero, i.size, i.bytes)) = some (some (.agg #[.int .i64 0, .slice none 0 0, .int .i64 0, .int .i64 0, .string ⟨#[]⟩]), 5, 64) := by kernel_rfl
end Go.Proofs.YtaodebpogibimaaGreat
namespace Go.Proofs.YtaodebpogibimaaGreat
open Go.RowKit

section
variable {P : Program} {w : World} {ops : Array Oper} {rest : List Oper} {o : Oper} {a : Act} {K : Act → World → Prop} {Q : Exit → Act → World → Prop}
theorem wpl_app2 (t e : TypeId) (hut : P.underlying t = some (.slice e)) (z : Value) (sz by_ : Nat) (hinfo : (P.info? e).map (fun i => (i.zero, i.size, i.bytes)) = some (some z, sz, by_)) (hzs : z.cells.size = sz) (hsz : 0 < sz)
    (hgd : o.guard = none) (s x : Operand) (ho : o.op = .call { callee := .builtin .append, args := #[s, x], argTypes := #[t, t] })
    (base : Nat) (v : Value) (n : Nat) (xs : List Value) (hs : a.eval s = v) (hown : w.ownsRow base e sz v n xs) (gb : Nat) (news : Array Value) (hx : a.eval x = .slice (some ⟨gb, 0, none⟩) 1 1) (hnews : HB w gb e news) (hl : news.size = sz) (h1 : ∀ u ∈ news.toList, u.oneCell' = true)
    (hn : (n + 1) * by_ ≤ 140737488355328) (hn2 : n + 1 ≤ maxLen) (hbase : base ≤ w.heap.size)
    (h : ∀ g cap w', Hid (w'.ownsRow base e sz (.slice (some ⟨g, 0, none⟩) (n + 1) cap) (n + 1) (xs ++ news.toList)) → (∀ g t cs, some g ≠ v.ownBlock → HB w g t cs → HB w' g t cs) → (∀ W, Below base W w → Below base W w') → Hid (v.ownBlock = some g ∨ g = w.heap.size) → wpList P ops Q rest (a.put o.dst (.slice (some ⟨g, 0, none⟩) (n + 1) cap)) w') :
    wpList P ops Q (o :: rest) a w := by
  obtain ⟨i0, hi0, hz0, hz1, hz2⟩ := info_parts hinfo
  refine wpList_append_lies w hgd s x t ho base e i0 z sz by_ hut hi0 hz0 hz1 hz2 hzs hsz v n xs hs hown ⟨gb, 0, none⟩ 1 1 news.toList hx (by simp [hl]) (World.news_of_block (cs := news) hnews) h1 (by omega) hn2 hn hbase _ rfl ?_
  intro g cap w' hown' hg hf _
  exact h g cap w' (Lib.hid hown') (fun g' t cs hne hb => hb.grown hg hne) (fun W hW => bw_grown hbase hW hown hg) hf
end
end Go.Proofs.YtaodebpogibimaaGreat
namespace Go.Proofs.YtaodebpogibimaaGreat
open Go.RowKit

/-- Cells of an array as they lie in memory. -/
def csV (cs : List (Int × Int)) : List Value := cs.flatMap fun q => [.int .i64 q.1, .int .i64 q.2]
theorem csV_len (cs : List (Int × Int)) : (csV cs).length = cs.length * 2 := by
  induction cs with
  | nil => rfl
  | cons q cs ih =>
    show ([Value.int .i64 q.1, .int .i64 q.2] ++ csV cs).length = _
    rw [List.length_append, ih, List.length_cons]
    simp
    omega
theorem csV_at {cs : List (Int × Int)} : ∀ {j : Nat} {u : Value}, (csV cs)[j]? = some u → ∃ (i : Nat) (q : Int × Int), cs[i]? = some q ∧ (j = i * 2 ∧ u = .int .i64 q.1 ∨ j = i * 2 + 1 ∧ u = .int .i64 q.2) := by
  induction cs with
  | nil => intro j u h; simp [csV] at h
  | cons q cs ih =>
    intro j u h
    match j, h with
    | 0, h => exact ⟨0, q, rfl, .inl ⟨rfl, (by injection h with h; exact h.symm)⟩⟩
    | 1, h => exact ⟨0, q, rfl, .inr ⟨rfl, (by injection h with h; exact h.symm)⟩⟩
    | j + 2, h =>
      obtain ⟨i, p, h1, h2⟩ := ih (j := j) (u := u) h
      exact ⟨i + 1, p, h1, by
        rcases h2 with ⟨a, b⟩ | ⟨a, b⟩
        · exact .inl ⟨by omega, b⟩
        · exact .inr ⟨by omega, b⟩⟩
theorem csV_one (cs : List (Int × Int)) : ∀ u ∈ csV cs, u.oneCell' = true := by
  intro u hu
  obtain ⟨j, hj⟩ := mem_get hu
  obtain ⟨i, q, _, ⟨_, rfl⟩ | ⟨_, rfl⟩⟩ := csV_at hj <;> rfl
section
variable {P : Program} {w : World} {ops : Array Oper} {rest : List Oper} {o : Oper} {a : Act} {Q : Exit → Act → World → Prop}
/-- Cells of an array are put behind a row of the call's own. -/
theorem wpl_cs (t e : TypeId) (hut : P.underlying t = some (.slice e)) (z : Value) (hinfo : (P.info? e).map (fun i => (i.zero, i.size, i.bytes)) = some (some z, 2, 16)) (hzs : z.cells.size = 2)
    (hgd : o.guard = none) (s x : Operand) (ho : o.op = .call { callee := .builtin .append, args := #[s, x], argTypes := #[t, t] })
    (base : Nat) (v : Value) (n : Nat) (xs : List Value) (hs : a.eval s = v) (hown : w.ownsRow base e 2 v n xs) (A : Option Addr) (c : Nat) (cs : List (Int × Int)) (hx : a.eval x = .slice A cs.length c) (hat : CsAt w A cs) (hm : 0 < cs.length) (hb : n + cs.length ≤ 1000000) (hbase : base ≤ w.heap.size)
    (h : ∀ g cap w', Hid (w'.ownsRow base e 2 (.slice (some ⟨g, 0, none⟩) (n + cs.length) cap) (n + cs.length) (xs ++ csV cs)) → (∀ g t cs, some g ≠ v.ownBlock → HB w g t cs → HB w' g t cs) → (∀ W, Below base W w → Below base W w') → Hid (v.ownBlock = some g ∨ g = w.heap.size) → wpList P ops Q rest (a.put o.dst (.slice (some ⟨g, 0, none⟩) (n + cs.length) cap)) w') :
    wpList P ops Q (o :: rest) a w := by
  obtain ⟨i0, hi0, hz0, hz1, hz2⟩ := info_parts hinfo
  obtain ⟨b, off, rfl, hbl, hq⟩ := hat hm
  refine wpList_append_lies w hgd s x t ho base e i0 z 2 16 hut hi0 hz0 hz1 hz2 hzs (by omega) v n xs hs hown ⟨b, off, none⟩ cs.length c (csV cs) hx (csV_len cs) (fun j u hu => ?_) (csV_one cs) hm (by unfold maxLen; omega) (by omega) hbase _ rfl ?_
  · obtain ⟨i, q, h1, ⟨rfl, rfl⟩ | ⟨rfl, rfl⟩⟩ := csV_at hu
    · rw [Go.WideShapes.add_plain]
      exact (hq i q h1).1
    · rw [Go.WideShapes.add_plain]
      exact (hq i q h1).2
  · intro g cap w' hown' hg hf _
    exact h g cap w' (Lib.hid hown') (fun g' t cs hne hb => hb.grown hg hne) (fun W hW => bw_grown hbase hW hown hg) (Lib.hid hf)
end
theorem enters_tol1 : Enters 75 := fun _ _ => by kernel_rfl
set_option maxRecDepth 100000 in
set_option maxHeartbeats 2000000 in
theorem tol1_any (q : En) (Aa Ac A2 : Option Addr) (ca cc c2 g : Nat) (fs : List (Int × Int)) (hf : fs.length ≤ maxLen) (w : World) (h : enI w q Aa ca Ac cc) (hg : HB w g 73 #[.slice A2 fs.length c2]) (h2 : CsAt w A2 fs) :
    Calls Tryz.prog 75 (#[enV q Aa ca Ac cc] ++ #[.pointer (some ⟨g, 0, none⟩)]) w fun e w' => e = .returned (.bool (eqA q.args fs)) ∧ Below w.heap.size w w' := by
  obtain ⟨⟨ha1, ha2, ha3⟩, hc1, hc2, hc3⟩ := h
  have X := Lib.hid (fun W (k : Below w.heap.size w W) => eqfun_any q.args fs Aa A2 ca c2 (Nat.le_trans ha1 ha2) hf W (ha3.below k) (h2.below k))
  have g0 := hg.cell 0
  have gl := hg.lt
  simp only [List.getElem?_toArray, List.getElem?_cons_zero] at g0
  unfold enV
  show Calls Tryz.prog 75 #[.agg #[.slice Aa q.args.length ca, .int .i64 q.too.num, .int .i64 q.too.den, .slice Ac q.too.cells.length cc, .int .i64 q.too.rest], .pointer (some ⟨g, 0, none⟩)] w _
  generalize eqA q.args fs = r at *
  generalize q.args.length = al at *
  generalize q.too.num = vn at *
  generalize q.too.den = vd at *
  generalize q.too.rest = vr at *
  generalize q.too.cells.length = cl at *
  generalize fs.length = L at *
  have BW : Hid (Below w.heap.size w (w.alloc (.cells #[.slice Aa al ca, .int .i64 vn, .int .i64 vd, .slice Ac cl cc, .int .i64 vr] 89))) := Lib.hid (new_below _ _)
  clear ha1 ha2 ha3 hc1 hc2 hc3 h2 hg
  go_enter Tryz.func75, Tryz.ntmps75
  go_wp2_with fail
  refine (X.out _ BW.out).mono ?_
  rintro e w1 ⟨rfl, hb1⟩
  have B1 := Lib.hid (below_after BW.out hb1)
  clear hb1
  go_wp2_with fail
  go_ret
  exact ⟨rfl, B1.out⟩
/-- What a meaning tells. -/
def tolF (m : Mg) (fs : List (Int × Int)) : Vl := match m.rows.find? (fun e => eqA e.args fs) with | some e => e.too | none => m.rest
theorem tolF_some {m : Mg} {fs : List (Int × Int)} {i : Nat} (hi : i < m.rows.length) (h : eqA (en m.rows i).args fs = true) (hn : ∀ j, j < i → eqA (en m.rows j).args fs = false) : tolF m fs = (en m.rows i).too := by
  have e : m.rows.find? (fun e => eqA e.args fs) = some (en m.rows i) := by
    rw [List.find?_eq_some_iff_getElem]
    have e1 : ∀ j (hj : j < m.rows.length), m.rows[j] = en m.rows j := fun j hj => by simp [en, List.getD, hj]
    exact ⟨h, i, hi, e1 i hi, fun j hj => by rw [e1 j (by omega), hn j hj]; rfl⟩
  unfold tolF
  rw [e]
theorem tolF_none {m : Mg} {fs : List (Int × Int)} (hn : ∀ j, j < m.rows.length → eqA (en m.rows j).args fs = false) : tolF m fs = m.rest := by
  have e : m.rows.find? (fun e => eqA e.args fs) = none := by
    rw [List.find?_eq_none]
    intro x hx
    obtain ⟨j, hj, rfl⟩ := List.getElem_of_mem hx
    have := hn j hj
    rw [show en m.rows j = m.rows[j] by simp [en, List.getD, hj]] at this
    rw [this]
    simp
  unfold tolF
  rw [e]
/-- A value that a call has made: its cells lie in a row of the call's own. -/
def ValQ (q : Vl) (w : World) (e : Ending) (w' : World) : Prop := ∃ A c, e = .returned (.agg #[.int .i64 q.num, .int .i64 q.den, .slice A q.cells.length c, .int .i64 q.rest]) ∧ Hid (w'.ownsRow w.heap.size 96 2 (.slice A q.cells.length c) q.cells.length (csV q.cells)) ∧ Below w.heap.size w w'
theorem infoCell : (Tryz.prog.info? 96).map (fun i => (i.zero, i.size, i.bytes)) = some (some (.agg #[.int .i64 0, .int .i64 0]), 2, 16) := by kernel_rfl
theorem found_inv {n : Nat} {p : Nat → Bool} {C : World → Prop} {k : Int} {w : World} (h : Found n p (fun _ => C) k w) : C w := by
  rcases h with ⟨_, _, _, _, _, h⟩ | ⟨_, _, h⟩ <;> exact h
theorem hb_set4 {w : World} {g t : Nat} {x0 x1 x2 x3 n d e f : Value} (h : HB w g t #[x0, x1, x2, x3]) : HB ((((w.setCell ⟨g, 0, none⟩ n).setCell ⟨g, 1, none⟩ d).setCell ⟨g, 2, none⟩ e).setCell ⟨g, 3, none⟩ f) g t #[n, d, e, f] := by
  have := (((h.set_ 0 n).set_ 1 d).set_ 2 e).set_ 3 f
  simpa using this
theorem far4 (w : World) (g : Nat) (v1 v2 v3 v4 : Value) : Far g w ((((w.setCell ⟨g, 0, none⟩ v1).setCell ⟨g, 1, none⟩ v2).setCell ⟨g, 2, none⟩ v3).setCell ⟨g, 3, none⟩ v4) := (far3 w g v1 v2 v3).trans (far_set _ g 3 v4)
theorem hb_far {w w' : World} {g h t : Nat} {cs : Array Value} (hb : HB w g t cs) (ne : g ≠ h) (f : Far h w w') : HB w' g t cs := (f.block g ne).trans hb
theorem told_new (w : World) (vn vd vr : Int) (rl cr cl cc L c2 : Nat) (Ar Ac A2 : Option Addr) :
    HB ((((w.alloc (.cells #[.slice Ar rl cr, .int .i64 vn, .int .i64 vd, .slice Ac cl cc, .int .i64 vr] 49)).alloc (.cells #[.slice A2 L c2] 73)).alloc (.cells #[.int .i64 0, .int .i64 0, .slice none 0 0, .int .i64 0] 47)).alloc (.cells #[.int .i64 vn, .int .i64 vd, .slice Ac cl cc, .int .i64 vr] 47)) w.heap.size 49 #[.slice Ar rl cr, .int .i64 vn, .int .i64 vd, .slice Ac cl cc, .int .i64 vr] ∧ HB ((((w.alloc (.cells #[.slice Ar rl cr, .int .i64 vn, .int .i64 vd, .slice Ac cl cc, .int .i64 vr] 49)).alloc (.cells #[.slice A2 L c2] 73)).alloc (.cells #[.int .i64 0, .int .i64 0, .slice none 0 0, .int .i64 0] 47)).alloc (.cells #[.int .i64 vn, .int .i64 vd, .slice Ac cl cc, .int .i64 vr] 47)) (w.heap.size + 1) 73 #[.slice A2 L c2] ∧ HB ((((w.alloc (.cells #[.slice Ar rl cr, .int .i64 vn, .int .i64 vd, .slice Ac cl cc, .int .i64 vr] 49)).alloc (.cells #[.slice A2 L c2] 73)).alloc (.cells #[.int .i64 0, .int .i64 0, .slice none 0 0, .int .i64 0] 47)).alloc (.cells #[.int .i64 vn, .int .i64 vd, .slice Ac cl cc, .int .i64 vr] 47)) (w.heap.size + 1 + 1) 47 #[.int .i64 0, .int .i64 0, .slice none 0 0, .int .i64 0] ∧
    HB ((((w.alloc (.cells #[.slice Ar rl cr, .int .i64 vn, .int .i64 vd, .slice Ac cl cc, .int .i64 vr] 49)).alloc (.cells #[.slice A2 L c2] 73)).alloc (.cells #[.int .i64 0, .int .i64 0, .slice none 0 0, .int .i64 0] 47)).alloc (.cells #[.int .i64 vn, .int .i64 vd, .slice Ac cl cc, .int .i64 vr] 47)) (w.heap.size + 1 + 1 + 1) 47 #[.int .i64 vn, .int .i64 vd, .slice Ac cl cc, .int .i64 vr] ∧ Below w.heap.size w ((((w.alloc (.cells #[.slice Ar rl cr, .int .i64 vn, .int .i64 vd, .slice Ac cl cc, .int .i64 vr] 49)).alloc (.cells #[.slice A2 L c2] 73)).alloc (.cells #[.int .i64 0, .int .i64 0, .slice none 0 0, .int .i64 0] 47)).alloc (.cells #[.int .i64 vn, .int .i64 vd, .slice Ac cl cc, .int .i64 vr] 47)) :=
  ⟨(((HB.new _ _ _).alloc _).alloc _).alloc _, ((HB.new1 _ _ _ _).alloc _).alloc _, (HB.new2 _ _ _ _ _).alloc _, HB.new3 _ _ _ _ _ _, by go_grown⟩
set_option maxRecDepth 100000 in
set_option maxHeartbeats 4000000 in
theorem told_any (m : Mg) (Ar Ac A2 : Option Addr) (cr cc c2 : Nat) (fs : List (Int × Int)) (hf : fs.length ≤ maxLen) (hr : m.rows.length ≤ maxLen) (hc0 : m.rest.cells.length ≤ 2000) (hc1 : ∀ i, i < m.rows.length → (en m.rows i).too.cells.length ≤ 2000) (w : World)
    (h1 : EsAt w Ar m.rows) (h2 : CsAt w A2 fs) (h3 : CsAt w Ac m.rest.cells) :
    Calls Tryz.prog 32 #[.agg #[.slice Ar m.rows.length cr, .int .i64 m.rest.num, .int .i64 m.rest.den, .slice Ac m.rest.cells.length cc, .int .i64 m.rest.rest], .slice A2 fs.length c2] w (ValQ (tolF m fs) w) := by
  have HN := Lib.hid (told_new w m.rest.num m.rest.den m.rest.rest m.rows.length cr m.rest.cells.length cc fs.length c2 Ar Ac A2)
  have HX := Lib.hid (fun (X : World) (hg : HB X (w.heap.size + 1) 73 #[.slice A2 fs.length c2]) (hb : Below w.heap.size w X) =>
    indexen_any enters_tol1 m.rows Ar cr #[.pointer (some ⟨w.heap.size + 1, 0, none⟩)] (fun i => eqA (en m.rows i).args fs) (fun _ W => Below X.heap.size X W) hr (fun i W k => h1.below (below_after hb k))
      (fun i W Aa ca Ac cc hi k he => (tol1_any (en m.rows i) Aa Ac A2 ca cc c2 (w.heap.size + 1) fs hf W he (hg.below k) (h2.below (below_after hb k))).mono fun e w' h => ⟨h.1, below_after k h.2⟩) X (Below.refl _ _))
  go_enter Tryz.func32, Tryz.ntmps32
  go_wp2_with fail
  refine (HX.out _ HN.out.2.1 HN.out.2.2.2.2).mono ?_
  rintro e w1 ⟨k, rfl, hk⟩
  have HK : Hid ((∃ i : Nat, i < m.rows.length ∧ k = i ∧ tolF m fs = (en m.rows i).too) ∨ k = -1 ∧ tolF m fs = m.rest) := Lib.hid (by
    rcases hk.out with ⟨i, hi, hp, hn, he, _⟩ | ⟨hn, he, _⟩
    · exact .inl ⟨i, hi, he, tolF_some hi hp hn⟩
    · exact .inr ⟨he, tolF_none hn⟩)
  have hb1 := found_inv hk.out
  have M1 := Lib.hid (HN.out.1.below hb1)
  have R1 := Lib.hid (HN.out.2.2.1.below hb1)
  have T1 := Lib.hid (HN.out.2.2.2.1.below hb1)
  have B1 := Lib.hid (below_after HN.out.2.2.2.2 hb1)
  have E1 := Lib.hid h1
  have C1 := Lib.hid h3
  have L1 := Lib.hid hc1
  have L0 := Lib.hid hc0
  clear hk hb1 HX HN h1 h2 h3 hc1 hc0
  generalize tolF m fs = v at *
  go_upto_if 16 with fail
  go_cut [7] (fun _ wx => ∃ (A : Option Addr) (c : Nat), v.cells.length ≤ 2000 ∧ Hid (HB wx (w.heap.size + 1 + 1 + 1) 47 #[.int .i64 v.num, .int .i64 v.den, .slice A v.cells.length c, .int .i64 v.rest]) ∧ Hid (HB wx (w.heap.size + 1 + 1) 47 #[.int .i64 0, .int .i64 0, .slice none 0 0, .int .i64 0]) ∧ Hid (CsAt wx A v.cells) ∧ Hid (Below w.heap.size w wx))
  case first =>
    rcases HK.out with ⟨i, hi, rfl, hv⟩ | ⟨rfl, hv⟩
    · have lv := L1.out i hi
      obtain ⟨b, o, hAr, hb, ⟨⟨Aa, ca, c0, _⟩, c1, c2, c4, Ac', cc', c3, _, _, hcs⟩⟩ := es_at (i := i) E1.out hi
      subst hAr
      replace c1 := (B1.out.cell (p := ⟨b, o + i * 5 + 1, none⟩) hb).trans c1
      replace c2 := (B1.out.cell (p := ⟨b, o + i * 5 + (1 + 1), none⟩) hb).trans c2
      replace c3 := (B1.out.cell (p := ⟨b, o + i * 5 + (1 + 2), none⟩) hb).trans c3
      replace c4 := (B1.out.cell (p := ⟨b, o + i * 5 + (1 + 3), none⟩) hb).trans c4
      rw [← hv] at c1 c2 c3 c4 hcs lv
      have m0 := M1.out.cell 0
      simp only [List.getElem?_toArray, List.getElem?_cons_zero] at m0
      obtain ⟨x0, x1, x2, x3, y0, y1, y2, y3⟩ := T1.out.four
      have T2 := Lib.hid (hb_set4 (n := .int .i64 v.num) (d := .int .i64 v.den) (e := .slice Ac' v.cells.length cc') (f := .int .i64 v.rest) T1.out)
      have FR := far4 w1 (w.heap.size + 1 + 1 + 1) (.int .i64 v.num) (.int .i64 v.den) (.slice Ac' v.cells.length cc') (.int .i64 v.rest)
      have R2 := Lib.hid (hb_far R1.out (by omega) FR)
      have B2 := Lib.hid (bw_far B1.out (by omega) FR)
      have C2 := Lib.hid (hcs.below B2.out)
      have li : (i : Int) < m.rows.length := by omega
      have hr' : m.rows.length ≤ 2 ^ 63 - 1 := hr
      clear hv hcs FR E1 HK L1 C1
      generalize v.cells.length = cl at *
      generalize m.rows.length = rl at *
      generalize v.num = vn at *
      generalize v.den = vd at *
      generalize v.rest = vr at *
      go_wp2_with fail
      go_meet
      case rel => exact ⟨Ac', cc', lv, T2, R2, C2, B2⟩
    · subst hv
      go_wp2_with fail
      go_meet
      case rel => exact ⟨Ac, cc, L0.out, T1, R1, Lib.hid (C1.out.below B1.out), B1⟩
  case rest =>
    obtain ⟨A, c, hl, T2, R2, C2, B2⟩ := hcut
    obtain ⟨x0, x1, x2, x3, y0, y1, y2, y3⟩ := T2.out.four
    by_cases hz : v.cells.length = 0
    · have hn := List.eq_nil_of_length_eq_zero hz
      have F1 := far_set wc (w.heap.size + 1 + 1 + 1) 2 (.slice none 0 0)
      have R3 := Lib.hid (hb_far R2.out (by omega) F1)
      have R4 := Lib.hid (hb_set4 (n := .int .i64 v.num) (d := .int .i64 v.den) (e := .slice none 0 0) (f := .int .i64 v.rest) R3.out)
      have B4 := Lib.hid (bw_far (bw_far B2.out (by omega) F1) (by omega) (far4 _ (w.heap.size + 1 + 1) (.int .i64 v.num) (.int .i64 v.den) (.slice none 0 0) (.int .i64 v.rest)))
      have FIN : Hid (∀ W', Below w.heap.size w W' → ValQ v w (.returned (.agg #[.int .i64 v.num, .int .i64 v.den, .slice none 0 0, .int .i64 v.rest])) W') := Lib.hid (fun W' k => ⟨none, 0, by rw [hz], Lib.hid (by rw [hn]; exact own_nil _ _ _ _), k⟩)
      obtain ⟨r0, r1, r2, r3, s0, s1, s2, s3⟩ := R2.out.four
      obtain ⟨z0, z1, z2, z3, -⟩ := R4.out.four
      rw [hz] at x2
      clear F1 hn
      cases A with
      | none =>
        go_wp2_with fail
        exact bodyPost_ret (v := .agg #[.int .i64 v.num, .int .i64 v.den, .slice none 0 0, .int .i64 v.rest]) (by simp [results, Tryz.results32, go_sem, z0, z1, z2, z3]) rfl (FIN.out _ B4.out)
      | some a =>
        go_wp2_with fail
        exact bodyPost_ret (v := .agg #[.int .i64 v.num, .int .i64 v.den, .slice none 0 0, .int .i64 v.rest]) (by simp [results, Tryz.results32, go_sem, z0, z1, z2, z3]) rfl (FIN.out _ B4.out)
    · have hp : 0 < v.cells.length := by omega
      go_wp2_with (at_builtin; refine wpl_cs 45 96 Tryz.underlying45 (.agg #[.int .i64 0, .int .i64 0]) infoCell rfl rfl _ _ rfl w.heap.size (.slice none 0 0) 0 [] rfl (own_nil _ _ _ _) A c v.cells rfl C2.out hp (by omega) B2.out.size ?_)
      intro g4 cap4 w4 hown4 hkp4 hbw4 _
      have T3 := Lib.hid (hkp4 _ _ _ (by simp [Value.ownBlock]) T2.out)
      have R3 := Lib.hid (hkp4 _ _ _ (by simp [Value.ownBlock]) R2.out)
      have F1 := far_set w4 (w.heap.size + 1 + 1 + 1) 2 (.slice (some ⟨g4, 0, none⟩) v.cells.length cap4)
      have B3 := hbw4 _ B2.out
      have R4 := Lib.hid (hb_far R3.out (by omega) F1)
      have R5 := Lib.hid (hb_set4 (n := .int .i64 v.num) (d := .int .i64 v.den) (e := .slice (some ⟨g4, 0, none⟩) v.cells.length cap4) (f := .int .i64 v.rest) R4.out)
      have O5 := own_far (own_far hown4.out (own_ne hown4.out T3.out (by decide)) F1) (own_ne (own_far hown4.out (own_ne hown4.out T3.out (by decide)) F1) R4.out (by decide)) (far4 _ (w.heap.size + 1 + 1) (.int .i64 v.num) (.int .i64 v.den) (.slice (some ⟨g4, 0, none⟩) v.cells.length cap4) (.int .i64 v.rest))
      have B5 := bw_far (bw_far B3 (by omega) F1) (by omega) (far4 _ (w.heap.size + 1 + 1) (.int .i64 v.num) (.int .i64 v.den) (.slice (some ⟨g4, 0, none⟩) v.cells.length cap4) (.int .i64 v.rest))
      have FIN : Hid (ValQ v w (.returned (.agg #[.int .i64 v.num, .int .i64 v.den, .slice (some ⟨g4, 0, none⟩) v.cells.length cap4, .int .i64 v.rest])) _) := Lib.hid ⟨some ⟨g4, 0, none⟩, cap4, rfl, Lib.hid O5, B5⟩
      clear x0 x1 x2 x3 y0 y1 y2 y3 F1 B3 O5 B5 hkp4 hbw4
      obtain ⟨x0, x1, x2, x3, y0, y1, y2, y3⟩ := T3.out.four
      obtain ⟨r0, r1, r2, r3, s0, s1, s2, s3⟩ := R3.out.four
      obtain ⟨z0, z1, z2, z3, -⟩ := R5.out.four
      go_wp2_with fail
      exact bodyPost_ret (v := .agg #[.int .i64 v.num, .int .i64 v.den, .slice (some ⟨g4, 0, none⟩) v.cells.length cap4, .int .i64 v.rest]) (by simp [results, Tryz.results32, go_sem, z0, z1, z2, z3]) rfl FIN.out
end Go.Proofs.YtaodebpogibimaaGreat
