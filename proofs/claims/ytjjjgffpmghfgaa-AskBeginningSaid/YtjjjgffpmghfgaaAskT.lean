/-
  Asks: what ask.Sorts asks of each declaration, node and assertion.
-/
import Derived.Test.YtjjjgffpmghfgaaAskS
namespace Go.Proofs.Ytjjjgffpmghfgaa
open Go.RowKit

/-- The sorts of the first nodes. -/
def srtL (qs : List Dc) (ns : List Nd) : Nat → List Int
  | 0 => []
  | i + 1 => srtL qs ns i ++ [ndS qs (nn ns i) i (srtL qs ns i)]
theorem srtL_len (qs : List Dc) (ns : List Nd) (i : Nat) : (srtL qs ns i).length = i := by
  induction i with
  | zero => rfl
  | succ i ih => rw [srtL, List.length_append, ih]; rfl
def nC (qs : List Dc) (ns : List Nd) (i : Nat) : Int := ndC qs (nn ns i) i (srtL qs ns i)
/-- What is wrong with an assertion. -/
def hdC (z : Int) (sorts : List Int) : Int := if z < 0 ∨ (sorts.length : Int) ≤ z then 3 else if nth sorts z.toNat ≠ 1 then 8 else 0
theorem hb_ne {w : World} {g g' t t' : Nat} {cs cs' : Array Value} (h : HB w g t cs) (h' : HB w g' t' cs') (ht : t ≠ t') : g ≠ g' := by
  rintro rfl
  unfold HB at h h'
  rw [h] at h'
  injection h' with h'
  injection h' with _ h'
  exact ht h'
theorem hb_set1' {w : World} {g t : Nat} {a : Value} (h : HB w g t #[a]) (n : Value) : HB (w.setCell ⟨g, 0, none⟩ n) g t #[n] := hb_set1 h
theorem wronghold_any (z : Int) (sorts : List Int) (S : Option Addr) (sc : Nat) (_hl : sorts.length ≤ maxLen) (w : World) (h : Is w S sorts) :
    Calls Try.prog 26 #[.int .i64 z, .slice S sorts.length sc] w fun e w' => e = .returned (.int .i64 (hdC z sorts)) ∧ w' = w := by
  unfold maxLen at _hl
  by_cases h1 : z < 0
  · have d1 : decide (z < 0) = true := by simpa using h1
    rw [show hdC z sorts = 3 by unfold hdC; rw [if_pos (.inl h1)]]
    clear h h1
    generalize sorts.length = L at *
    go_enter Try.func26, Try.ntmps26
    go_wp2_with fail
    go_ret
    exact ⟨rfl, rfl⟩
  · have d1 : decide (z < 0) = false := by simpa using h1
    by_cases h2 : (sorts.length : Int) ≤ z
    · rw [show hdC z sorts = 3 by unfold hdC; rw [if_pos (.inr h2)]]
      clear h
      generalize sorts.length = L at *
      have d2 : decide ((L : Int) ≤ z) = true := by simpa using h2
      go_enter Try.func26, Try.ntmps26
      go_wp2_with fail
      go_ret
      exact ⟨rfl, rfl⟩
    · obtain ⟨b, o, rfl, hb, c0⟩ := is_at (i := z.toNat) h (by omega)
      have HE : hdC z sorts = if nth sorts z.toNat ≠ 1 then 8 else 0 := by unfold hdC; rw [if_neg (by omega)]
      by_cases h3 : nth sorts z.toNat = 1
      · rw [HE, if_neg (by simpa using h3)]
        rw [h3] at c0
        clear h HE h3
        generalize sorts.length = L at *
        have d2 : decide ((L : Int) ≤ z) = false := by simpa using h2
        have hz : 0 ≤ z := by omega
        go_enter Try.func26, Try.ntmps26
        go_wp2_with fail
        go_ret
        exact ⟨rfl, rfl⟩
      · rw [HE, if_pos h3]
        have d3 : (nth sorts z.toNat != 1) = true := by simpa using h3
        clear h HE h3
        generalize nth sorts z.toNat = x at *
        generalize sorts.length = L at *
        have d2 : decide ((L : Int) ≤ z) = false := by simpa using h2
        have hz : 0 ≤ z := by omega
        go_enter Try.func26, Try.ntmps26
        go_wp2_with fail
        go_ret
        exact ⟨rfl, rfl⟩
theorem sorts1_any (qs : List Dc) (Ad An Ah : Option Addr) (dc nl nc hl hc : Nat) (i : Nat) (hi : i < qs.length) (hc1 : qs.length ≤ dc) (hc2 : dc ≤ maxLen) (ga : Nat) (w : World) (hd : DsAt w Ad qs) (hg : HB w ga 26 #[.slice Ad qs.length dc, .slice An nl nc, .slice Ah hl hc]) :
    Calls Try.prog 21 (#[.int .i64 i] ++ #[.pointer (some ⟨ga, 0, none⟩)]) w fun e w' => e = .returned (.int .i64 (dcC qs i)) ∧ Below w.heap.size w w' := by
  show Calls Try.prog 21 #[.int .i64 i, .pointer (some ⟨ga, 0, none⟩)] w _
  have HX := Lib.hid (wrongdecl_any qs Ad dc i hi hc1 hc2 w hd)
  obtain ⟨h0, h1, h2, _⟩ := hg.three
  clear hd hg hi hc1 hc2
  generalize qs.length = ql at *
  go_enter Try.func21, Try.ntmps21
  go_wp2_with fail
  refine HX.out.mono ?_
  rintro e w1 ⟨rfl, hb1⟩
  have HB1 := Lib.hid hb1
  clear hb1
  go_wp2_with fail
  go_ret
  exact ⟨rfl, HB1.out⟩
theorem sorts3_any (hs sorts : List Int) (Ad An Ah S : Option Addr) (dl dc nl nc hc sc : Nat) (i : Nat) (hi : i < hs.length) (_hl1 : hs.length ≤ maxLen) (hl2 : sorts.length ≤ maxLen) (ga gs : Nat) (w : World) (hh : Is w Ah hs) (hS : Is w S sorts) (hg : HB w ga 26 #[.slice Ad dl dc, .slice An nl nc, .slice Ah hs.length hc]) (hq : HB w gs 22 #[.slice S sorts.length sc]) :
    Calls Try.prog 25 (#[.int .i64 i] ++ #[.pointer (some ⟨ga, 0, none⟩), .pointer (some ⟨gs, 0, none⟩)]) w fun e w' => e = .returned (.int .i64 (hdC (nth hs i) sorts)) ∧ Below w.heap.size w w' := by
  show Calls Try.prog 25 #[.int .i64 i, .pointer (some ⟨ga, 0, none⟩), .pointer (some ⟨gs, 0, none⟩)] w _
  obtain ⟨b, o, rfl, hb, c0⟩ := is_at hh hi
  have HX := Lib.hid (fun (n : Nat) => wronghold_any (nth hs i) sorts S sc hl2 (w.drewN n) (hS.drewN n))
  obtain ⟨h0, h1, h2, _⟩ := hg.three
  obtain ⟨q0, _⟩ := hq.one
  unfold maxLen at _hl1 hl2
  clear hh hS hg hq
  generalize nth hs i = z at *
  generalize hdC z sorts = r at *
  generalize hs.length = hl at *
  generalize sorts.length = sl at *
  go_enter Try.func25, Try.ntmps25
  go_wp2_with fail
  go_quiet ((go_at_call 26; exact Calls.quiet_of_same (HX.out _)))
  go_wp2_with fail
  go_ret
  exact ⟨rfl, below_dn (Below.refl _ _) _⟩
/-- What stands while the nodes are asked: the sorts so far. -/
def SoI (qs : List Dc) (ns : List Nd) (w0 : World) (base ga gs : Nat) (va : Array Value) (i : Nat) (W : World) : Prop :=
  Below base w0 W ∧ HB W ga 26 va ∧ ∃ S sc, HB W gs 22 #[.slice S i sc] ∧ W.ownsRow base 3 1 (.slice S i sc) i (intV (srtL qs ns i))
set_option maxHeartbeats 2000000 in
theorem sorts2_any (qs : List Dc) (ns : List Nd) (Ad An Ah : Option Addr) (dc nc hl hc : Nat) (i : Nat) (hi : i < ns.length) (hn2 : ns.length ≤ 200) (hc1 : qs.length ≤ maxLen) (w0 : World) (base ga gs : Nat) (hbase : base = w0.heap.size) (hgs : base ≤ gs) (w : World) (hd : DsAt w0 Ad qs) (hn : NsAt w0 An ns)
    (hI : SoI qs ns w0 base ga gs #[.slice Ad qs.length dc, .slice An ns.length nc, .slice Ah hl hc] i w) :
    Calls Try.prog 23 (#[.int .i64 i] ++ #[.pointer (some ⟨ga, 0, none⟩), .pointer (some ⟨gs, 0, none⟩)]) w fun e w' => e = .returned (.int .i64 (nC qs ns i)) ∧ SoI qs ns w0 base ga gs #[.slice Ad qs.length dc, .slice An ns.length nc, .slice Ah hl hc] (i + 1) w' ∧ (∀ g cs, HB w g 29 cs → HB w' g 29 cs) := by
  show Calls Try.prog 23 #[.int .i64 i, .pointer (some ⟨ga, 0, none⟩), .pointer (some ⟨gs, 0, none⟩)] w _
  obtain ⟨hB, hga, S, sc, hgS, hown⟩ := hI
  subst hbase
  have hlen := srtL_len qs ns i
  have his := own_isb hown hlen
  have hbw := hB.size
  have HX := Lib.hid (nodesort_any qs ns (srtL qs ns i) Ad An Ah S dc nc hl hc sc i hc1 hi (by unfold maxLen; omega) hlen his.2 (own_cap hown) (by omega) w (hd.below hB) (hn.below hB) his.1.is)
  rw [hlen] at HX
  obtain ⟨h0, h1, h2, _⟩ := hga.three
  obtain ⟨q0, q1⟩ := hgS.one
  have HGA := Lib.hid hga
  have HGS := Lib.hid hgS
  have HO := Lib.hid hown
  have HBW := Lib.hid hB
  have HN : Hid (srtL qs ns (i + 1) = srtL qs ns i ++ [ndS qs (nn ns i) i (srtL qs ns i)]) := Lib.hid rfl
  have HC : Hid (nC qs ns i = ndC qs (nn ns i) i (srtL qs ns i)) := Lib.hid rfl
  clear hd hn hB hga hgS hown hlen his hc1
  unfold SoI
  generalize ndS qs (nn ns i) i (srtL qs ns i) = so at *
  generalize ndC qs (nn ns i) i (srtL qs ns i) = co at *
  generalize srtL qs ns (i + 1) = L2 at *
  generalize srtL qs ns i = L1 at *
  generalize qs.length = ql at *
  have hi2 : i < 200 := by omega
  generalize ns.length = nl at *
  go_enter Try.func23, Try.ntmps23
  go_wp2_with fail
  refine HX.out.mono ?_
  rintro e w1 ⟨rfl, hb1⟩
  have B1 : Hid (Below w0.heap.size w0 w1) := Lib.hid (bw_below (Nat.le_refl _) HBW.out hb1)
  have HG1 := Lib.hid (HGA.out.below hb1)
  have HS1 := Lib.hid (HGS.out.below hb1)
  have HO1 := Lib.hid (own_below HO.out hb1)
  have K1 : Hid (∀ g cs, HB w g 29 cs → HB w1 g 29 cs) := Lib.hid (fun g cs h => h.below hb1)
  have lw1 := hb1.size
  clear hb1 h0 h1 h2 q0 q1 HX
  obtain ⟨q0, q1⟩ := HS1.out.one
  have lgs := HS1.out.lt
  go_wp2_with (at_builtin; refine wpl_app 22 3 Try.underlying22 (.int .i64 0) 1 8 info3' rfl (by decide) rfl _ _ rfl w0.heap.size (.slice S i sc) i (intV L1) rfl (own_alloc HO1.out _) w1.heap.size #[.int .i64 so] rfl (HB.new _ _ _) rfl (by simp [Value.oneCell']) (by omega) (by unfold maxLen; omega) (by simp; omega) ?_)
  intro g4 cap4 w4 hown4 hkp4 hbw4
  have O4 : Hid (w4.ownsRow w0.heap.size 3 1 (.slice (some ⟨g4, 0, none⟩) (i + 1) cap4) (i + 1) (intV L2)) := Lib.hid (by rw [HN.out, intV_snoc]; exact hown4.out)
  have GA4 := Lib.hid (hkp4 _ _ _ (own_ne HO1.out HG1.out (by decide)) (HG1.out.alloc (.cells #[.int .i64 so] 3)))
  have GS4 := Lib.hid (hkp4 _ _ _ (own_ne HO1.out HS1.out (by decide)) (HS1.out.alloc (.cells #[.int .i64 so] 3)))
  have K4 : Hid (∀ g cs, HB w g 29 cs → HB w4 g 29 cs) := Lib.hid (fun g cs h => hkp4 _ _ _ (own_ne HO1.out (K1.out g cs h) (by decide)) ((K1.out g cs h).alloc (.cells #[.int .i64 so] 3)))
  have B4 : Hid (Below w0.heap.size w0 w4) := Lib.hid (hbw4 w0 (Below.alloc B1.out (by omega) _))
  clear hown4 hkp4 hbw4 q0 q1
  obtain ⟨q0, q1⟩ := GS4.out.one
  have l4 := GS4.out.lt
  go_wp2_with fail
  go_ret
  have F := far_set w4 gs 0 (.slice (some ⟨g4, 0, none⟩) (i + 1) cap4)
  refine ⟨by rw [HC.out]; rfl, ⟨bw_far B4.out hgs F, GA4.out.far_ (hb_ne GA4.out GS4.out (by decide)) F, some ⟨g4, 0, none⟩, cap4, hb_set1 GS4.out, own_far O4.out (own_ne O4.out GS4.out (by decide)) F⟩, fun g cs h => (K4.out g cs h).far_ (hb_ne (K4.out g cs h) GS4.out (by decide)) F⟩
end Go.Proofs.Ytjjjgffpmghfgaa
