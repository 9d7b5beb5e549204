/-
  Two worlds in memory, and meanings taken from the one to the other.
-/
import Derived.Test.YtcpeddogckillaaGreatMevN
namespace Go.Proofs.YtcpeddogckillaaGreat
open Go.RowKit

/-- A meaning with its two slices. -/
abbrev Mt := Mg × Value × Value
def mt (ps : List Mt) (i : Nat) : Mt := ps.getD i (default, .int .i64 0, .int .i64 0)
/-- Fourteen meanings, cell by cell. -/
def Rw (cur : Array Value) (f : Nat → Mt) : Prop := 70 ≤ cur.size ∧ ∀ i, i < 14 → ∀ j, j < 5 → cur[i * 5 + j]? = (mgV (f i))[j]?
def up (f : Nat → Mt) (d : Nat) (p : Mt) : Nat → Mt := fun i => if i = d then p else f i
theorem rw_set {cur : Array Value} {f : Nat → Mt} {d : Nat} {p : Mt} (h : Rw cur f) (hd : d < 14) :
    Rw (((((cur.setIfInBounds (d * 5) p.2.1).setIfInBounds (d * 5 + 1) (.int .i64 p.1.rest.num)).setIfInBounds (d * 5 + 2) (.int .i64 p.1.rest.den)).setIfInBounds (d * 5 + 3) p.2.2).setIfInBounds (d * 5 + 4) (.int .i64 p.1.rest.rest)) (up f d p) := by
  refine ⟨by simp only [Array.size_setIfInBounds]; exact h.1, fun i hi j hj => ?_⟩
  have hs := h.1
  by_cases e : i = d
  · subst e
    rw [show up f i p i = p by simp [up]]
    have : j = 0 ∨ j = 1 ∨ j = 2 ∨ j = 3 ∨ j = 4 := by omega
    rcases this with rfl | rfl | rfl | rfl | rfl
    all_goals
      simp only [Array.getElem?_setIfInBounds, Array.size_setIfInBounds]
      simp [mgV]
      omega
  · rw [show up f d p i = f i by simp [up, e], Array.getElem?_setIfInBounds_ne (by omega), Array.getElem?_setIfInBounds_ne (by omega), Array.getElem?_setIfInBounds_ne (by omega), Array.getElem?_setIfInBounds_ne (by omega), Array.getElem?_setIfInBounds_ne (by omega)]
    exact h.2 i hi j hj
theorem row_of {w : World} {B n c : Nat} {A : Option Addr} {ps : List Mt} (h : w.ownsRow B 49 5 (.slice A n c) ps.length (ps.flatMap mgV)) (hn : ps.length = 14) :
    ∃ b cur, A = some ⟨b, 0, none⟩ ∧ B ≤ b ∧ HB w b 49 cur ∧ Rw cur (mt ps) := by
  rcases h.2 with ⟨h0, h1⟩ | ⟨g, cap, cur, h0, hb, hh, hc, hm, hsz, htk⟩
  · omega
  · injection h0 with h0 _ _
    refine ⟨g, cur, h0, hb, hh, by omega, fun i hi j hj => ?_⟩
    have hp : ps[i]? = some ps[i] := List.getElem?_eq_getElem (by omega)
    have e1 := flat5 hp hj
    rw [← htk, List.getElem?_take_of_lt (by omega)] at e1
    rw [show mt ps i = ps[i] by simp [mt, List.getD, hp], ← e1]
    simp
/-- What holds while meanings are taken over. -/
structure UwI (w0 W : World) (ga gu gv gw bv bw nl vc wc : Nat) (da na ha : Value) (ub : Nat → Bool) (fv f : Nat → Mt) : Prop where
  b : Below w0.heap.size w0 W
  a : HB W ga 26 #[da, na, ha]
  u : HB W gu 4 (BA ub nl)
  v : HB W gv 36 #[.slice (some ⟨bv, 0, none⟩) 14 vc]
  w : HB W gw 36 #[.slice (some ⟨bw, 0, none⟩) 14 wc]
  rv : ∃ cur, HB W bv 49 cur ∧ Rw cur fv
  rw : ∃ cur, HB W bw 49 cur ∧ Rw cur f
  mv : ∀ i, i < 14 → MdK W (fv i).1 (fv i).2.1 (fv i).2.2
  mw : ∀ i, i < 14 → MdK W (f i).1 (f i).2.1 (f i).2.2
  n : bv ≠ bw
  l : w0.heap.size ≤ bw
theorem UwI.set {w0 W : World} {ga gu gv gw bv bw nl vc wc : Nat} {da na ha : Value} {ub : Nat → Bool} {fv f : Nat → Mt} (h : UwI w0 W ga gu gv gw bv bw nl vc wc da na ha ub fv f) {d : Nat} (hd : d < 14) :
    UwI w0 (((((W.setCell ⟨bw, d * 5, none⟩ (fv d).2.1).setCell ⟨bw, d * 5 + 1, none⟩ (.int .i64 (fv d).1.rest.num)).setCell ⟨bw, d * 5 + 2, none⟩ (.int .i64 (fv d).1.rest.den)).setCell ⟨bw, d * 5 + 3, none⟩ (fv d).2.2).setCell ⟨bw, d * 5 + 4, none⟩ (.int .i64 (fv d).1.rest.rest)) ga gu gv gw bv bw nl vc wc da na ha ub fv (up f d (fv d)) := by
  obtain ⟨cv, hv, rv⟩ := h.rv
  obtain ⟨cw, hw, rw'⟩ := h.rw
  have F : Far bw W (((((W.setCell ⟨bw, d * 5, none⟩ (fv d).2.1).setCell ⟨bw, d * 5 + 1, none⟩ (.int .i64 (fv d).1.rest.num)).setCell ⟨bw, d * 5 + 2, none⟩ (.int .i64 (fv d).1.rest.den)).setCell ⟨bw, d * 5 + 3, none⟩ (fv d).2.2).setCell ⟨bw, d * 5 + 4, none⟩ (.int .i64 (fv d).1.rest.rest)) :=
    ((((far_set W bw _ _).trans (far_set _ bw _ _)).trans (far_set _ bw _ _)).trans (far_set _ bw _ _)).trans (far_set _ bw _ _)
  have K := kp_far hw (by decide) (by decide) (by decide) F
  refine ⟨bw_far h.b h.l F, hb_far h.a (hb_ne h.a hw (by decide)) F, hb_far h.u (hb_ne h.u hw (by decide)) F, hb_far h.v (hb_ne h.v hw (by decide)) F, hb_far h.w (hb_ne h.w hw (by decide)) F, ⟨cv, hb_far hv h.n F, rv⟩,
    ⟨_, ((((hw.set_ _ _).set_ _ _).set_ _ _).set_ _ _).set_ _ _, rw_set rw' hd⟩, fun i hi => (h.mv i hi).mono K, fun i hi => ?_, h.n, h.l⟩
  by_cases e : i = d
  · subst e
    rw [show up f i (fv i) i = fv i by simp [up]]
    exact (h.mv i hi).mono K
  · rw [show up f d (fv d) i = f i by simp [up, e]]
    exact (h.mw i hi).mono K
theorem UwI.drew {w0 W : World} {ga gu gv gw bv bw nl vc wc : Nat} {da na ha : Value} {ub : Nat → Bool} {fv f : Nat → Mt} (h : UwI w0 W ga gu gv gw bv bw nl vc wc da na ha ub fv f) (k : Nat) : UwI w0 (W.drewN k) ga gu gv gw bv bw nl vc wc da na ha ub fv f := by
  have B := below_dn (Below.refl W.heap.size W) k
  obtain ⟨cv, hv, rv⟩ := h.rv
  obtain ⟨cw, hw, rw'⟩ := h.rw
  exact ⟨below_dn h.b k, h.a.below B, h.u.below B, h.v.below B, h.w.below B, ⟨cv, hv.below B, rv⟩, ⟨cw, hw.below B, rw'⟩, fun i hi => (h.mv i hi).mono (kp_below B), fun i hi => (h.mw i hi).mono (kp_below B), h.n, h.l⟩
/-- The meanings as a list. -/
def msF (f : Nat → Mt) : List Mg := (List.range 14).map fun i => (f i).1
theorem msf_len (f : Nat → Mt) : (msF f).length = 14 := by simp [msF]
theorem msf_at {f : Nat → Mt} {i : Nat} (hi : i < 14) : mn (msF f) i = (f i).1 := by simp [mn, msF, List.getD, hi]
theorem rw_ms {W : World} {b : Nat} {cur : Array Value} {f : Nat → Mt} (hh : HB W b 49 cur) (h : Rw cur f) (hm : ∀ i, i < 14 → MdK W (f i).1 (f i).2.1 (f i).2.2) : MsAt W (some ⟨b, 0, none⟩) (msF f) := fun _ => by
  refine ⟨b, 0, rfl, HB.lt hh, fun i q hq => ?_⟩
  have hi : i < 14 := by
    rcases Nat.lt_or_ge i 14 with y | y
    · exact y
    · rw [List.getElem?_eq_none (by rw [msf_len]; exact y)] at hq; cases hq
  obtain rfl : (f i).1 = q := by
    rw [← msf_at hi]
    simp [mn, List.getD, hq]
  have hcell : ∀ j u, j < 5 → (mgV (f i))[j]? = some u → W.cell? ⟨b, 0 + i * 5 + j, none⟩ = some u := fun j u hj hu => by
    rw [show 0 + i * 5 + j = i * 5 + j by omega, hh.cell, h.2 i hi j hj, hu]
  obtain ⟨Ar, cr, Ac, cc, a1, a2, a3, a4, a5, a6, a7⟩ := hm i hi
  obtain ⟨x1, x2⟩ := a7 W (kp_refl _)
  have c0 := hcell 0 _ (by omega) rfl
  have c3 := hcell 3 _ (by omega) rfl
  rw [a1] at c0
  rw [a4] at c3
  exact ⟨⟨Ar, cr, c0, a2, a3, x1⟩, hcell 1 _ (by omega) rfl, hcell 2 _ (by omega) rfl, hcell 4 _ (by omega) rfl, Ac, cc, c3, a5, a6, x2⟩
theorem msf_good {f : Nat → Mt} (h : ∀ i, i < 14 → mgC (dn dqs i).args.length (dn dqs i).sort (f i).1 = 0) : ∀ i, i < 14 → mcF dqs (msF f) i = 0 := fun i hi => by
  unfold mcF
  rw [msf_at hi]
  exact h i hi
theorem msf_wf {f : Nat → Mt} (h : ∀ i, i < 14 → mgC (dn dqs i).args.length (dn dqs i).sort (f i).1 = 0) : ∀ q ∈ msF f, q.wf := fun q hq => by
  obtain ⟨i, hi, rfl⟩ := List.mem_map.1 hq
  exact mg_wf (h i (List.mem_range.1 hi))
theorem mt_good {ps : List Mt} (hl : ps.length = 14) (h : ∀ i p, ps[i]? = some p → mgC (dn dqs i).args.length (dn dqs i).sort p.1 = 0) : ∀ i, i < 14 → mgC (dn dqs i).args.length (dn dqs i).sort (mt ps i).1 = 0 := fun i hi => by
  have e : ps[i]? = some ps[i] := List.getElem?_eq_getElem (by omega)
  rw [show mt ps i = ps[i]'(by omega) by simp [mt, List.getD, e]]
  exact h i _ e
theorem mt_mdk {W : World} {ps : List Mt} (hl : ps.length = 14) (h : ∀ p ∈ ps, MdK W p.1 p.2.1 p.2.2) : ∀ i, i < 14 → MdK W (mt ps i).1 (mt ps i).2.1 (mt ps i).2.2 := fun i hi => by
  have e : ps[i]? = some ps[i] := List.getElem?_eq_getElem (by omega)
  rw [show mt ps i = ps[i]'(by omega) by simp [mt, List.getD, e]]
  exact h _ (List.getElem_mem _)
end Go.Proofs.YtcpeddogckillaaGreat
