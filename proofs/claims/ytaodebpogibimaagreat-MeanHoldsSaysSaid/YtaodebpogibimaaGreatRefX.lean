/-
  The reference's values of nodes: rows of values; MeanValue.
-/
import Derived.Test.YtaodebpogibimaaGreatG14
import Derived.Test.YtaodebpogibimaaGreatMeaL
import Derived.Test.YtaodebpogibimaaGreatMeaZ
namespace Go.Proofs.YtaodebpogibimaaGreat
open Go.RowKit

/-- A row of values of the call's own; each one's cells lie where ClsK says. -/
def RMk (B C : Nat) (sv : Value) (w : World) (ps : List (Vl × Value)) : Prop :=
  w.ownsRow B 47 4 sv ps.length (ps.flatMap vlV) ∧ ∀ p ∈ ps, ∃ A c, p.2 = .slice A p.1.cells.length c ∧ p.1.cells.length ≤ c ∧ c ≤ maxLen ∧ ClsK C w A c p.1.cells
theorem rm_nil (B C : Nat) (w : World) : RMk B C (.slice none 0 0) w [] := ⟨own_nil _ _ _ _, fun p hp => absurd hp (by simp)⟩
theorem cls_below {C : Nat} {w w' : World} {A : Option Addr} {c : Nat} {cs : List (Int × Int)} (h : ClsK C w A c cs) (k : Below w.heap.size w w') : ClsK C w' A c cs := fun z => by
  rcases h z with ⟨y, r⟩ | y
  · exact .inl ⟨y.below k, r⟩
  · exact .inr (own_below y k)
theorem cls_base {C D : Nat} {w : World} {A : Option Addr} {c : Nat} {cs : List (Int × Int)} (h : ClsK C w A c cs) (hD : D = C) : ClsK D w A c cs := by subst hD; exact h
/-- Cells in memory that stays. -/
theorem cs_low {C : Nat} {w w' : World} {A : Option Addr} {cs : List (Int × Int)} (h : CsAt w A cs) (hA : ∃ b o, A = some ⟨b, o, none⟩ ∧ b < C) (k : Below C w w') : CsAt w' A cs := fun z => by
  obtain ⟨b, o, e, l, q⟩ := h z
  obtain ⟨b', o', e', l'⟩ := hA
  rw [e] at e'
  injection e' with e'
  injection e' with e1 e2
  subst e1 e2
  exact ⟨b, o, e, Nat.lt_of_lt_of_le l k.size, fun i x hx => ⟨(k.cell (p := ⟨b, o + i * 2, none⟩) l').trans (q i x hx).1, (k.cell (p := ⟨b, o + i * 2 + 1, none⟩) l').trans (q i x hx).2⟩⟩
theorem cls_far {C g : Nat} {w w' : World} {A : Option Addr} {c : Nat} {cs : List (Int × Int)} {xs : Array Value} {t : Nat} (h : ClsK C w A c cs) (P : HB w g t xs) (ht : t ≠ 96) (F : Far g w w') (k : Below C w w') : ClsK C w' A c cs := fun z => by
  rcases h z with ⟨y, r⟩ | y
  · exact .inl ⟨cs_low y r k, r⟩
  · exact .inr (own_far y (own_ne y P ht) F)
/-- Another row has grown. -/
theorem cls_grown {B C n : Nat} {w w' : World} {A : Option Addr} {c : Nat} {cs : List (Int × Int)} {sv : Value} {xs : List Value} (h : ClsK C w A c cs) (ho : w.ownsRow B 47 4 sv n xs) (k : Below C w w') (hk : ∀ b t cs, some b ≠ sv.ownBlock → HB w b t cs → HB w' b t cs) : ClsK C w' A c cs := fun z => by
  rcases h z with ⟨y, r⟩ | y
  · exact .inl ⟨cs_low y r k, r⟩
  · exact .inr (own_keep y fun b cs hb hx => hk b 96 cs (own_ne2 y ho (by decide) b hb) hx)
theorem RMk.below {B C : Nat} {sv : Value} {w w' : World} {ps : List (Vl × Value)} (h : RMk B C sv w ps) (k : Below w.heap.size w w') : RMk B C sv w' ps :=
  ⟨own_below h.1 k, fun p hp => by
    obtain ⟨A, c, h1, h2, h3, h4⟩ := h.2 p hp
    exact ⟨A, c, h1, h2, h3, cls_below h4 k⟩⟩
theorem rm_vs {B C c n : Nat} {A : Option Addr} {w : World} {ps : List (Vl × Value)} (h : RMk B C (.slice A n c) w ps) (hn : ps.length = n) : VsAt w A (ps.map (·.1)) := by
  obtain ⟨ho, hp⟩ := h
  rcases ho.2 with ⟨h0, h1⟩ | ⟨g, cap, cur, h0, hb, hh, hc, hm, hsz, htk⟩
  · intro z
    rw [List.length_map] at z
    omega
  · injection h0 with h0 _ _
    intro z
    refine ⟨g, 0, h0, HB.lt hh, fun i q hq => ?_⟩
    rw [List.getElem?_map] at hq
    obtain ⟨p, hpi, rfl⟩ := Option.map_eq_some_iff.1 hq
    have hi : i < ps.length := by
      rcases Nat.lt_or_ge i ps.length with y | y
      · exact y
      · rw [List.getElem?_eq_none y] at hpi; cases hpi
    have hcell : ∀ j u, j < 4 → (vlV p)[j]? = some u → w.cell? ⟨g, 0 + i * 4 + j, none⟩ = some u := fun j u hj hu => by
      have e1 := flat4 hpi hj
      rw [hu, ← htk, List.getElem?_take_of_lt (by omega)] at e1
      rw [show 0 + i * 4 + j = i * 4 + j by omega, cell_of_row w g (i * 4 + j) cur 47 (0, 0) hh]
      simpa using e1
    have hpm : p ∈ ps := List.mem_of_getElem? hpi
    obtain ⟨A', c', e1, e2, e3, e4⟩ := hp p hpm
    have h2 := hcell 2 p.2 (by omega) rfl
    rw [e1] at h2
    exact ⟨hcell 0 _ (by omega) rfl, hcell 1 _ (by omega) rfl, hcell 3 _ (by omega) rfl, A', c', h2, e2, e3, cls_at e4⟩
theorem rm_at {B C c n : Nat} {A : Option Addr} {w : World} {ps : List (Vl × Value)} (h : RMk B C (.slice A n c) w ps) {k : Nat} {p : Vl × Value} (hp : ps[k]? = some p) :
    ∃ b, A = some ⟨b, 0, none⟩ ∧ b < w.heap.size ∧ w.cell? ⟨b, k * 4, none⟩ = some (.int .i64 p.1.num) ∧ w.cell? ⟨b, k * 4 + 1, none⟩ = some (.int .i64 p.1.den) ∧ w.cell? ⟨b, k * 4 + 2, none⟩ = some p.2 ∧ w.cell? ⟨b, k * 4 + 3, none⟩ = some (.int .i64 p.1.rest) := by
  have hk : k < ps.length := by
    rcases Nat.lt_or_ge k ps.length with y | y
    · exact y
    · rw [List.getElem?_eq_none y] at hp; cases hp
  rcases h.1.2 with ⟨h0, h1⟩ | ⟨g, cap, cur, h0, hb, hh, hc, hm, hsz, htk⟩
  · omega
  · injection h0 with h0 _ _
    have hcell : ∀ j u, j < 4 → (vlV p)[j]? = some u → w.cell? ⟨g, k * 4 + j, none⟩ = some u := fun j u hj hu => by
      have e1 := flat4 hp hj
      rw [hu, ← htk, List.getElem?_take_of_lt (by omega)] at e1
      rw [cell_of_row w g (k * 4 + j) cur 47 (0, 0) hh]
      simpa using e1
    exact ⟨g, h0, HB.lt hh, hcell 0 _ (by omega) rfl, hcell 1 _ (by omega) rfl, hcell 2 _ (by omega) rfl, hcell 3 _ (by omega) rfl⟩
/-- One value more. -/
theorem rm_app {B C : Nat} {sv sv' : Value} {w w' : World} {ps : List (Vl × Value)} {p : Vl × Value} (h : RMk B C sv w ps) (hp : ∃ A c, p.2 = .slice A p.1.cells.length c ∧ p.1.cells.length ≤ c ∧ c ≤ maxLen ∧ ClsK C w A c p.1.cells) (kb : Below C w w')
    (ho : w'.ownsRow B 47 4 sv' (ps.length + 1) (ps.flatMap vlV ++ vlV p)) (hk : ∀ b t cs, some b ≠ sv.ownBlock → HB w b t cs → HB w' b t cs) : RMk B C sv' w' (ps ++ [p]) := by
  refine ⟨by rw [List.length_append, List.flatMap_append]; simpa using ho, fun q hq => ?_⟩
  have hx : ∃ A c, q.2 = .slice A q.1.cells.length c ∧ q.1.cells.length ≤ c ∧ c ≤ maxLen ∧ ClsK C w A c q.1.cells := by
    rcases List.mem_append.1 hq with z | z
    · exact h.2 q z
    · rw [List.mem_singleton] at z
      subst z
      exact hp
  obtain ⟨A, c, h1, h2, h3, h4⟩ := hx
  exact ⟨A, c, h1, h2, h3, cls_grown h4 h.1 kb hk⟩
/-- What MeanValue yields. -/
def RvsQ (r : Except (Int × Int) (List Vl)) (w : World) (e : Ending) (w' : World) : Prop :=
  match r with
  | .ok vs => ∃ A c, e = .returned (.tuple #[.slice A vs.length c, .agg #[.int .i64 0, .int .i64 0]]) ∧ VsAt w' A vs ∧ Below w.heap.size w w'
  | .error p => e = .returned (.tuple #[.slice none 0 0, .agg #[.int .i64 p.1, .int .i64 p.2]]) ∧ Below w.heap.size w w'
/-- The arguments of valueOf in memory. -/
@[reducible] def TenE (a m b o d e : Nat) (x0 x1 x2 x3 y0 y1 y2 y3 y4 z : Value) (W : World) : Prop := W.cell? ⟨a, 0, none⟩ = some x0 ∧ W.cell? ⟨a, 1, none⟩ = some x1 ∧ W.cell? ⟨a, 2, none⟩ = some x2 ∧ W.cell? ⟨m, 0, none⟩ = some x3 ∧ W.cell? ⟨b, o, none⟩ = some y0 ∧ W.cell? ⟨b, o + 1, none⟩ = some y1 ∧ W.cell? ⟨b, o + 2, none⟩ = some y2 ∧ W.cell? ⟨b, o + 3, none⟩ = some y3 ∧ W.cell? ⟨b, o + 4, none⟩ = some y4 ∧ W.cell? ⟨d, e, none⟩ = some z
/-- The variables that hold a value in the end. -/
def XvQ (C : Nat) (wr : World) (q : Vl) (f : Int) (s t : Value) (W : World) : Prop := ∃ (g : Nat) (p : Vl) (A : Option Addr) (c : Nat), s = .pointer (some ⟨g, 0, none⟩) ∧ t = .bool (f == 0) ∧ Hid (HB W g 47 #[.int .i64 p.num, .int .i64 p.den, .slice A p.cells.length c, .int .i64 p.rest]) ∧ Hid (p.cells.length ≤ c ∧ c ≤ maxLen) ∧ Hid (ClsK C W A c p.cells) ∧ Hid (f = 0 → p = q) ∧ Hid (Below wr.heap.size wr W)
section
variable {C g c : Nat} {wr w5 : World} {q p : Vl} {f : Int} {A : Option Addr} {u0 u1 u2 u3 : Value}
theorem xvq1 (G : Below wr.heap.size wr w5) (hb : p.cells.length ≤ c ∧ c ≤ maxLen) (K : ClsK C w5 A c p.cells) (e : f = 0 → p = q) : XvQ C wr q f (.pointer (some ⟨w5.heap.size, 0, none⟩)) (.bool (f == 0)) (w5.alloc (.cells #[.int .i64 p.num, .int .i64 p.den, .slice A p.cells.length c, .int .i64 p.rest] 47)) :=
  ⟨_, p, A, c, rfl, rfl, Lib.hid (HB.new _ _ _), Lib.hid hb, Lib.hid (cls_below K (new_below _ _)), Lib.hid e, Lib.hid (bw_below (Nat.le_refl _) G (new_below _ _))⟩
theorem xvq2 (G : Below wr.heap.size wr w5) (hb : p.cells.length ≤ c ∧ c ≤ maxLen) (K : ClsK C w5 A c p.cells) (e : f = 0 → p = q) (P : HB w5 g 47 #[u0, u1, u2, u3]) (hg : wr.heap.size ≤ g) (hC : C ≤ wr.heap.size) :
    XvQ C wr q f (.pointer (some ⟨g, 0, none⟩)) (.bool (f == 0)) ((((w5.setCell ⟨g, 0, none⟩ (.int .i64 p.num)).setCell ⟨g, 1, none⟩ (.int .i64 p.den)).setCell ⟨g, 2, none⟩ (.slice A p.cells.length c)).setCell ⟨g, 3, none⟩ (.int .i64 p.rest)) :=
  have F := far4 w5 g (.int .i64 p.num) (.int .i64 p.den) (.slice A p.cells.length c) (.int .i64 p.rest)
  ⟨_, p, A, c, rfl, rfl, Lib.hid (hb_set4 P), Lib.hid hb, Lib.hid (cls_far K P (by decide) F (bw_far (Below.refl _ _) (Nat.le_trans hC hg) F)), Lib.hid e, Lib.hid (bw_far G hg F)⟩
end
theorem vx_new {w w' : World} (k : Below (w.alloc (.cells #[.int .i64 0, .int .i64 0, .slice none 0 0, .int .i64 0] 47)).drew.heap.size (w.alloc (.cells #[.int .i64 0, .int .i64 0, .slice none 0 0, .int .i64 0] 47)).drew w') : (Hid (HB w' w.heap.size 47 #[.int .i64 0, .int .i64 0, .slice none 0 0, .int .i64 0]) ∧ w'.cell? ⟨w.heap.size, 0, none⟩ = some (.int .i64 0) ∧ w'.cell? ⟨w.heap.size, 1, none⟩ = some (.int .i64 0) ∧ w'.cell? ⟨w.heap.size, 2, none⟩ = some (.slice none 0 0) ∧ w'.cell? ⟨w.heap.size, 3, none⟩ = some (.int .i64 0) ∧ w'.frozen? ⟨w.heap.size, 0, none⟩ = false ∧ w'.frozen? ⟨w.heap.size, 1, none⟩ = false ∧ w'.frozen? ⟨w.heap.size, 2, none⟩ = false ∧ w'.frozen? ⟨w.heap.size, 3, none⟩ = false) ∧ ¬ w'.heap.size = w.heap.size ∧ ¬ w.heap.size = w'.heap.size := v_new k
set_option maxRecDepth 100000 in
set_option maxHeartbeats 8000000 in
theorem refval_ok (qs : List Dc) (ns : List Nd) (hs : List Int) (ms : List Mg) (ss : List Int) (Ad An Ah Am : Option Addr) (dc nc hc mc : Nat) (w : World) (h : AwAt w qs ns hs ms Ad An Ah Am dc nc hc mc)
    (hC : meC qs ns hs ms = 0) (hA : meA qs ns hs ms = 0) (hk0 : akC qs ns hs = 0) (hk1 : akA qs ns hs = 0) (hkL : akL qs ns hs = ss) (hss : ss.length = ns.length) (hn : ns.length ≤ 4000) (hkl : ∀ i, i < ns.length → (nn ns i).kids.length ≤ 1000)
    (hkb : ∀ i, i < ns.length → ∀ j, j < (nn ns i).kids.length → 0 ≤ nth (nn ns i).kids j ∧ nth (nn ns i).kids j < i) (ev : Nat → List Vl → Vl × Int)
    (HF : ∀ i vs, i < ns.length → valsE ev i = .ok vs → (ev i vs).2 = 0 ∨ (ev i vs).2 = 10)
    (HE : ∀ (i : Nat) (vs : List Vl) (W : World) (Av : Option Addr) (vc : Nat) (nk : Value), i < ns.length → valsE ev i = .ok vs → Below w.heap.size w W → VsAt W Av (kidsV ns i vs) →
      Calls Tryz.prog 18 #[.agg #[.slice Ad qs.length dc, .slice An ns.length nc, .slice Ah hs.length hc], .agg #[.slice Am ms.length mc], .agg #[.int .i64 (nn ns i).op, nk, .int .i64 (nn ns i).n, .int .i64 (nn ns i).d, .string (nn ns i).name], .int .i64 (nth ss i), .slice Av (nn ns i).kids.length vc] W (VoQ w.heap.size (ev i vs).1 (ev i vs).2 W)) :
    Calls Tryz.prog 6 #[.agg #[.slice Ad qs.length dc, .slice An ns.length nc, .slice Ah hs.length hc], .agg #[.slice Am ms.length mc]] w (RvsQ (valsE ev ns.length) w) := by
  have HH := Lib.hid h
  have HN := Lib.hid (va_new w (.slice Ad qs.length dc) (.slice An ns.length nc) (.slice Ah hs.length hc) (.slice Am ms.length mc))
  have X1 := Lib.hid (fun (W : World) (k : Below w.heap.size w W) => refmean_any qs ns hs ms Ad An Ah Am dc nc hc mc W (h.below k))
  rw [hC, hA] at X1
  have X2 := Lib.hid (fun (W : World) (k : Below w.heap.size w W) => refsorts_any qs ns hs Ad An Ah dc nc hc h.d1 h.d2 (Nat.le_trans h.n1 h.n2) h.h1 W (h.fd.below k) (h.fn.below k) (h.fh.below k))
  rw [hk0, hk1, hkL] at X2
  unfold GivesS at X2
  have HEV := Lib.hid HE
  have HFT := Lib.hid HF
  have HKL := Lib.hid hkl
  have HKB := Lib.hid hkb
  have HSS := Lib.hid hss
  clear h hC hA hk0 hk1 hkL HE HF hkl hkb hss
  generalize hQ : RvsQ (valsE ev ns.length) w = Q0 at *
  have HQ0 := Lib.hid (fun e w' (z : RvsQ (valsE ev ns.length) w e w') => (show Q0 e w' by rw [← hQ]; exact z))
  clear hQ
  generalize hnl : ns.length = nl at *
  have HNL := Lib.hid hnl
  clear hnl
  generalize qs.length = ql at *
  generalize hs.length = hl at *
  generalize ms.length = ml at *
  obtain ⟨a0, a1, a2, af0, af1, af2⟩ := HN.out.a.three
  go_enter Tryz.func6, Tryz.ntmps6
  go_wp2_with fail
  refine (X1.out _ HN.out.b).mono ?_
  rintro e w1 ⟨rfl, hb1⟩
  have M1 := Lib.hid (HN.out.below hb1)
  have M2 := Lib.hid (M1.out.below (new_below w1 (.cells #[.int .i64 0, .int .i64 0] 32)))
  clear hb1 a0 a1 a2 af0 af1 af2
  obtain ⟨a0, a1, a2, af0, af1, af2⟩ := M2.out.a.three
  go_wp2_with fail
  refine (X2.out _ M2.out.b).mono ?_
  rintro e w2 ⟨S, sc, rfl, hS, hsl, hsm, hb2⟩
  rw [HSS.out]
  have M3 := Lib.hid (M2.out.below hb2)
  have M4 := Lib.hid (M3.out.below (new_below w2 (.cells #[.int .i64 0, .int .i64 0] 32)))
  have HSI := Lib.hid (hS.is.below (new_below w2 (.cells #[.int .i64 0, .int .i64 0] 32)))
  clear hb2 hS a0 a1 a2 af0 af1 af2
  obtain ⟨a0, a1, a2, af0, af1, af2⟩ := M4.out.a.three
  go_wp2_with fail
  have EV0 : Hid (valsE ev 0 = .ok []) := Lib.hid rfl
  have M4S : w.heap.size ≤ w2.heap.size + 1 := by
    have := M3.out.b.size
    omega
  clear a0 a1 a2 af0 af1 af2 X1 X2 HN M1 M2 M3
  go_loopw [9, 10, 11, 12, 13, 14] (fun sv k _ _ _ _ wr => ∃ (i : Nat) (vs : List Vl) (ps : List (Vl × Value)), i ≤ nl ∧ k = .int .i64 i ∧ Hid (valsE ev i = .ok vs) ∧ Hid (ps.map (·.1) = vs) ∧ w2.heap.size + 1 ≤ wr.heap.size ∧ Hid (RMk (w2.heap.size + 1) w.heap.size sv wr ps) ∧ Hid (VaM w (.slice Ad ql dc) (.slice An nl nc) (.slice Ah hl hc) (.slice Am ml mc) wr) ∧ Hid (Is wr S ss)) (fun _ k _ _ _ _ _ => nl - (intOf k).toNat)
  case atStart => exact ⟨0, [], [], by omega, rfl, EV0, Lib.hid rfl, by simp, Lib.hid (rm_nil _ _ _), M4, HSI⟩
  case round =>
    clear M4 EV0
    obtain ⟨i, vs, ps, hi, rfl, HVE, HPV, lw, HVM, HM, HIS⟩ := hrel
    obtain ⟨a0, a1, a2, af0, af1, af2⟩ := HM.out.a.three
    by_cases hlt : i < nl
    · have t3 : decide ((i : Int) < nl) = true := by simpa using hlt
      obtain ⟨b, o, Ak, kc, rfl, hb, c0, c1, c2, c3, c4, _, hkm, hki⟩ := ns_at (i := i) (HH.out.fn.below HM.out.b) (by rw [HNL.out]; exact hlt)
      have HKI := Lib.hid hki
      have XE0 := Lib.hid (fun (W : World) (A2 : Option Addr) (vc : Nat) (nk : Value) => HEV.out i vs W A2 vc nk hlt HVE.out)
      have HFX := Lib.hid (HFT.out i vs hlt HVE.out)
      have hkl := HKL.out i hlt
      have HKB2 := Lib.hid (HKB.out i hlt)
      generalize hsv : u9 = sv at *
      clear hsv
      obtain ⟨Av, vc, hsv⟩ := own_val HVM.out.1
      have hpl : ps.length = i := by
        have e1 := congrArg List.length HPV.out
        rw [List.length_map, valsE_len HVE.out] at e1
        exact e1
      rw [hpl] at hsv
      subst hsv
      have l0 : (i : Int) < nl := by omega
      generalize hkids : (nn ns i).kids = kids at *
      have HKE := Lib.hid hkids
      clear hkids hki hkm
      generalize hkL : kids.length = kl at *
      have HKLE := Lib.hid hkL
      clear hkL
      generalize (nn ns i).op = op at *
      generalize (nn ns i).n = N at *
      generalize (nn ns i).d = D at *
      generalize (nn ns i).name = nm at *
      go_wp2_with fail
      obtain ⟨wo, hwo⟩ : ∃ wo, wo = wr := ⟨wr, rfl⟩
      subst hwo
      have M4S2 : w.heap.size ≤ wo.heap.size := Nat.le_trans M4S lw
      go_loopw [11, 12] (fun kv k wx => ∃ (j : Nat) (ks : List (Vl × Value)), j ≤ kl ∧ k = .int .i64 j ∧ ks.length = j ∧ Hid (ks.map (·.1) = (kids.take j).map fun z => vn vs z.toNat) ∧ Hid (RMk wo.heap.size w.heap.size kv wx ks) ∧ Hid (Below wo.heap.size wo wx)) (fun _ k _ => kl - (intOf k).toNat)
      case atStart => exact ⟨0, [], by omega, rfl, rfl, Lib.hid rfl, Lib.hid (rm_nil _ _ _), Lib.hid (Below.refl _ _)⟩
      case round =>
        obtain ⟨j, ks, hj, rfl, hksl, HKS, HKM, HBX⟩ := hrel
        have HMX := Lib.hid (HM.out.below HBX.out)
        clear a0 a1 a2 af0 af1 af2
        obtain ⟨a0, a1, a2, af0, af1, af2⟩ := HMX.out.a.three
        have c1' := (HBX.out.cell (p := ⟨b, o + i * 5 + 1, none⟩) hb).trans c1
        by_cases hjl : j < kl
        · have t5 : decide ((j : Int) < kl) = true := by simpa using hjl
          have l7 : (j : Int) < kl := by omega
          obtain ⟨bk, ok, rfl, hbk, d0⟩ := is_at (i := j) (HKI.out.below HBX.out) (by rw [HKLE.out]; exact hjl)
          obtain ⟨z0, z1⟩ := HKB2.out j hjl
          obtain ⟨kz, hkz⟩ : ∃ kz : Nat, nth kids j = kz := ⟨(nth kids j).toNat, by omega⟩
          have HTK := Lib.hid (take_snoc (l := kids) (i := j) (by rw [HKLE.out]; exact hjl))
          rw [hkz] at d0 z0 z1
          have HKZ := Lib.hid hkz
          clear hkz
          have hzi : kz < i := by omega
          obtain ⟨p, hp⟩ : ∃ p, ps[kz]? = some p := ⟨_, List.getElem?_eq_getElem (by rw [hpl]; exact hzi)⟩
          obtain ⟨bv, rfl, hbv, v0, v1, v2, v3⟩ := rm_at (HVM.out.below HBX.out) hp
          obtain ⟨Ac, cc, hp2, hp3, hp4, hp5⟩ := (HVM.out.below HBX.out).2 p (List.mem_of_getElem? hp)
          have HPC := Lib.hid (And.intro hp3 (And.intro hp4 hp5))
          have HPP := Lib.hid hp
          have HP2 := Lib.hid hp2
          rw [hp2] at v2
          have HPN : Hid (vn vs (nth kids j).toNat = p.1) := Lib.hid (by
            rw [HKZ.out, ← HPV.out, Int.toNat_natCast]
            simp [vn, List.getD, hp])
          clear hp hp2 hp3 hp4 hp5
          have hj1000 : ks.length ≤ 1000 := by omega
          have HKSL := Lib.hid hksl
          clear hksl
          generalize hkv : u11 = kv at *
          clear hkv
          have B3 := Lib.hid (new_below wr (.cells #[.int .i64 p.1.num, .int .i64 p.1.den, .slice Ac p.1.cells.length cc, .int .i64 p.1.rest] 47))
          have KM3 := Lib.hid (HKM.out.below B3.out)
          have HBX3 := Lib.hid (below_after HBX.out B3.out)
          have HPC3 := Lib.hid (cls_below HPC.out.2.2 B3.out)
          have lz : (kz : Int) < i := by omega
          go_wp2_with (at_builtin; refine wpl_app2 30 47 Tryz.underlying30 (.agg #[.int .i64 0, .int .i64 0, .slice none 0 0, .int .i64 0]) 4 48 infoValue rfl (by decide) rfl _ _ rfl wo.heap.size kv ks.length (ks.flatMap vlV) rfl KM3.out.1 wr.heap.size #[.int .i64 p.1.num, .int .i64 p.1.den, .slice Ac p.1.cells.length cc, .int .i64 p.1.rest] rfl (HB.new _ _ _) rfl (by simp [Value.oneCell']) (by omega) (by unfold maxLen; omega) HBX3.out.size ?_)
          intro g4 cap4 w4 hown4 hkp4 hbw4 _
          have BX4 := hbw4 _ (Below.refl _ _)
          have VM4 : Hid (RMk wo.heap.size w.heap.size (.slice (some ⟨g4, 0, none⟩) (ks.length + 1) cap4) w4 (ks ++ [p])) := Lib.hid (rm_app KM3.out ⟨Ac, cc, HP2.out, HPC.out.1, HPC.out.2.1, HPC3.out⟩ (BX4.mono M4S2) (by
            have e : vlV p = [.int .i64 p.1.num, .int .i64 p.1.den, .slice Ac p.1.cells.length cc, .int .i64 p.1.rest] := by
              unfold vlV
              rw [HP2.out]
            rw [e]
            exact hown4.out) hkp4)
          have B4 := Lib.hid (hbw4 _ HBX3.out)
          clear hkp4 hbw4 hown4 BX4
          go_wp2_with fail
          go_round
          case rel => exact ⟨j + 1, ks ++ [p], by omega, by go_num, by rw [List.length_append, HKSL.out]; rfl, Lib.hid (by rw [HTK.out, List.map_append, List.map_append, HKS.out]; simp [HPN.out]), VM4, B4⟩
          case measure => simp [intOf]; omega
        · obtain rfl : j = kl := by omega
          have t5 : decide ((j : Int) < j) = false := by simp
          generalize hkv : u11 = kv at *
          clear hkv
          obtain ⟨Aw, wc', hkv⟩ := own_val HKM.out.1
          rw [hksl] at hkv
          subst hkv
          have HKV : Hid (VsAt wr Aw (kidsV ns i vs)) := Lib.hid (by
            have e := rm_vs HKM.out hksl
            rw [HKS.out, List.take_of_length_le (by rw [HKLE.out]; exact Nat.le_refl _)] at e
            unfold kidsV
            rw [HKE.out]
            exact e)
          have HKSL := Lib.hid hksl
          clear hksl
          obtain ⟨bS, oS, rfl, hbS, s0⟩ := is_at (i := i) (HIS.out.below HBX.out) (by rw [HSS.out]; exact hlt)
          have lbS : bS < w2.heap.size + 1 := by
            obtain ⟨b', o', e', hb', _⟩ := is_at (i := i) HSI.out (by rw [HSS.out]; exact hlt)
            injection e' with e'
            injection e' with e1 e2
            subst e1
            simpa using hb'
          have lwr : wo.heap.size ≤ wr.heap.size := HBX.out.size
          have lw9 : w2.heap.size + 1 ≤ wr.heap.size := Nat.le_trans lw lwr
          have lb9 : b < wr.heap.size := Nat.lt_of_lt_of_le hb lwr
          have la9 : w.heap.size < wr.heap.size := HMX.out.a.lt
          have lm9 : w.heap.size + 1 < wr.heap.size := HMX.out.m.lt
          have m0 := HMX.out.m.cell 0
          simp only [List.getElem?_toArray, List.getElem?_cons_zero] at m0
          have d0 := (HBX.out.cell (p := ⟨b, o + i * 5, none⟩) hb).trans c0
          have d2 := (HBX.out.cell (p := ⟨b, o + i * 5 + 2, none⟩) hb).trans c2
          have d3 := (HBX.out.cell (p := ⟨b, o + i * 5 + 3, none⟩) hb).trans c3
          have d4 := (HBX.out.cell (p := ⟨b, o + i * 5 + 4, none⟩) hb).trans c4
          have XE : Hid (∀ W, Below wr.heap.size wr W → Calls Tryz.prog 18 #[.agg #[.slice Ad ql dc, .slice (some ⟨b, o, none⟩) nl nc, .slice Ah hl hc], .agg #[.slice Am ml mc], .agg #[.int .i64 op, .slice Ak j kc, .int .i64 N, .int .i64 D, .string nm], .int .i64 (nth ss i), .slice Aw j wc'] W (VoQ w.heap.size (ev i vs).1 (ev i vs).2 W)) := Lib.hid (fun W k => XE0.out W Aw wc' (.slice Ak j kc) (below_after HMX.out.b k) (HKV.out.below k))
          have HST := Lib.hid (valsE_step HVE.out)
          clear XE0
          generalize ev i vs = r at *
          obtain ⟨q, f⟩ := r
          unfold VoQ at XE
          dsimp only at XE HST HFX
          generalize nth ss i = sort at *
          have li2 : i < nl := hlt
          have lS : (i : Int) < nl := l0
          go_upto_region 14 with fail
          have KG : Hid (∀ W, Below wr.heap.size wr W → TenE w.heap.size (w.heap.size + 1) b (o + i * 5) bS (oS + i) (.slice Ad ql dc) (.slice (some ⟨b, o, none⟩) nl nc) (.slice Ah hl hc) (.slice Am ml mc) (.int .i64 op) (.slice Ak j kc) (.int .i64 N) (.int .i64 D) (.string nm) (.int .i64 sort) W) := Lib.hid (fun W k => ⟨(k.cell (p := ⟨w.heap.size, 0, none⟩) la9).trans a0, (k.cell (p := ⟨w.heap.size, 1, none⟩) la9).trans a1, (k.cell (p := ⟨w.heap.size, 2, none⟩) la9).trans a2, (k.cell (p := ⟨w.heap.size + 1, 0, none⟩) lm9).trans m0, (k.cell (p := ⟨b, o + i * 5, none⟩) lb9).trans d0, (k.cell (p := ⟨b, o + i * 5 + 1, none⟩) lb9).trans c1', (k.cell (p := ⟨b, o + i * 5 + 2, none⟩) lb9).trans d2, (k.cell (p := ⟨b, o + i * 5 + 3, none⟩) lb9).trans d3, (k.cell (p := ⟨b, o + i * 5 + 4, none⟩) lb9).trans d4, (k.cell (p := ⟨bS, oS + i, none⟩) hbS).trans s0⟩)
          have lC9 : w.heap.size ≤ wr.heap.size := Nat.le_of_lt la9
          clear a0 a1 a2 af0 af1 af2 m0 d0 d2 d3 d4 c0 c1 c2 c3 c4 c1' s0
          go_cut [13, 14] (XvQ w.heap.size wr q f)
          case first =>
            go_region_held3 (fun W => TenE w.heap.size (w.heap.size + 1) b (o + i * 5) bS (oS + i) (.slice Ad ql dc) (.slice (some ⟨b, o, none⟩) nl nc) (.slice Ah hl hc) (.slice Am ml mc) (.int .i64 op) (.slice Ak j kc) (.int .i64 N) (.int .i64 D) (.string nm) (.int .i64 sort) W)
              ((first | (refine KG.out _ ?_; go_grown; done) | (with_reducible exact KG.out _ G5.out) | (refine KG.out _ (bw_below (Nat.le_refl _) G5.out (new_below _ _)); done) | (refine KG.out _ (bw_far G5.out (Nat.le_refl _) (far4 _ _ _ _ _ _)); done)))
              (first
                | (go_at_call 18; refine (XE.out _ (by go_grown)).mono ?_; rintro e w5 ⟨p5, A5, c5, rfl, hx1, hx2, hx3, hx4, hb5⟩; have BD5 := Lib.hid (And.intro hx1 hx2); have CL5 := Lib.hid hx3; have EQ5 := Lib.hid hx4; clear hx1 hx2 hx3 hx4; have G5 : Hid (Below wr.heap.size wr w5) := Lib.hid (below_after (show Below wr.heap.size wr _ by go_grown) hb5); (first | (with_reducible have Q5 := vx_new hb5; obtain ⟨⟨P5, p0, p1, p2, p3, p4, p5', p6, p7⟩, n1', n2'⟩ := Q5) | skip); clear hb5))
            all_goals
              go_wp2_with fail
              go_meet
              case rel =>
                first
                | (with_reducible exact xvq1 G5.out BD5.out CL5.out EQ5.out)
                | (with_reducible exact xvq2 G5.out BD5.out CL5.out EQ5.out P5.out (Nat.le_refl _) lC9)
          case rest =>
            obtain ⟨g, p, A, c, rfl, rfl, HX, HBD, HCL, HEQ, HB9⟩ := hcut
            have Mc := Lib.hid (HMX.out.below HB9.out)
            have VMc := Lib.hid ((HVM.out.below HBX.out).below HB9.out)
            have ISc := Lib.hid ((HIS.out.below HBX.out).below HB9.out)
            obtain ⟨x0, x1, x2, x3, -⟩ := HX.out.four
            obtain ⟨e0, e1, ef0, ef1⟩ := Mc.out.f.two
            have lw10 : w2.heap.size + 1 ≤ wc.heap.size := Nat.le_trans lw9 HB9.out.size
            clear XE KG HKV HKM HIS
            by_cases hf : f = 0
            · have HST1 : Hid (valsE ev (i + 1) = .ok (vs ++ [q])) := Lib.hid (by rw [HST.out, if_pos hf])
              have hpq := HEQ.out hf
              subst hf
              subst hpq
              have B7 := Lib.hid (new_below wc (.cells #[.int .i64 p.num, .int .i64 p.den, .slice A p.cells.length c, .int .i64 p.rest] 47))
              have VM7 := Lib.hid (VMc.out.below B7.out)
              have M7 := Lib.hid (Mc.out.below B7.out)
              have CL7 := Lib.hid (cls_below HCL.out B7.out)
              have IS7 := Lib.hid (ISc.out.below B7.out)
              have HOW := Lib.hid VM7.out.1
              rw [hpl] at HOW
              clear e0 e1 ef0 ef1 HST HFX
              go_wp2_with (at_builtin; refine wpl_app2 30 47 Tryz.underlying30 (.agg #[.int .i64 0, .int .i64 0, .slice none 0 0, .int .i64 0]) 4 48 infoValue rfl (by decide) rfl _ _ rfl (w2.heap.size + 1) (.slice Av i vc) i (ps.flatMap vlV) rfl HOW.out wc.heap.size #[.int .i64 p.num, .int .i64 p.den, .slice A p.cells.length c, .int .i64 p.rest] rfl (HB.new _ _ _) rfl (by simp [Value.oneCell']) (by omega) (by unfold maxLen; omega) (Nat.le_trans lw10 B7.out.size) ?_)
              intro g8 cap8 w8 hown8 hkp8 hbw8 _
              have BW8 := hbw8 _ (Below.refl _ _)
              have VM8 : Hid (RMk (w2.heap.size + 1) w.heap.size (.slice (some ⟨g8, 0, none⟩) (i + 1) cap8) w8 (ps ++ [(p, .slice A p.cells.length c)])) := Lib.hid (rm_app VM7.out (p := (p, .slice A p.cells.length c)) ⟨A, c, rfl, HBD.out.1, HBD.out.2, CL7.out⟩ (BW8.mono M4S) (by rw [hpl]; exact hown8.out) hkp8)
              have M8 : Hid (VaM w (.slice Ad ql dc) (.slice (some ⟨b, o, none⟩) nl nc) (.slice Ah hl hc) (.slice Am ml mc) w8) := Lib.hid ⟨hkp8 _ _ _ (own_ne HOW.out M7.out.a (by decide)) M7.out.a, hkp8 _ _ _ (own_ne HOW.out M7.out.m (by decide)) M7.out.m, hkp8 _ _ _ (own_ne HOW.out M7.out.f (by decide)) M7.out.f, M7.out.b.trans (BW8.mono M4S)⟩
              have IS8 : Hid (Is w8 (some ⟨bS, oS, none⟩) ss) := Lib.hid (is_low IS7.out lbS BW8)
              have lw8 : w2.heap.size + 1 ≤ w8.heap.size := Nat.le_trans (Nat.le_trans lw10 B7.out.size) BW8.size
              clear hkp8 hbw8 hown8 BW8
              go_wp2_with fail
              go_round
              case rel => exact ⟨i + 1, vs ++ [p], ps ++ [(p, .slice A p.cells.length c)], by omega, by go_num, HST1, Lib.hid (by rw [List.map_append, HPV.out]; rfl), lw8, VM8, M8, IS8⟩
              case measure => simp [intOf]; omega
            · have hf10 : f = 10 := by
                rcases HFX.out with z | z
                · exact absurd z hf
                · exact z
              subst hf10
              have HST1 : Hid (valsE ev nl = .error (10, (i : Int))) := Lib.hid (valsE_stop (by rw [HST.out, if_neg hf]) nl (by omega))
              clear hf HST HFX HEQ
              have Z2 := Lib.hid (hb_set2 (n := .int .i64 10) (d := .int .i64 (i : Int)) Mc.out.f)
              have BF := Lib.hid (bw_far Mc.out.b (by omega) (far2 wc (w.heap.size + 1 + 1) (.int .i64 10) (.int .i64 (i : Int))))
              have FIN := Lib.hid (HQ0.out (.returned (.tuple #[.slice none 0 0, .agg #[.int .i64 10, .int .i64 (i : Int)]])) _ (by rw [HST1.out]; exact ⟨rfl, BF.out⟩))
              obtain ⟨z0, z1, -⟩ := Z2.out.two
              clear Z2 BF
              go_wp2_with fail
              exact bodyPost_ret (v := .tuple #[.slice none 0 0, .agg #[.int .i64 10, .int .i64 (i : Int)]]) (by simp [results, Tryz.results6, go_sem, z0, z1]) rfl FIN.out
    · obtain rfl : i = nl := by omega
      have t3 : decide ((i : Int) < i) = false := by simp
      generalize hsv : u9 = sv at *
      clear hsv
      obtain ⟨Av, vc, hsv⟩ := own_val HVM.out.1
      have hpl : ps.length = i := by
        have e1 := congrArg List.length HPV.out
        rw [List.length_map, valsE_len HVE.out] at e1
        exact e1
      rw [hpl] at hsv
      subst hsv
      obtain ⟨e0, e1, ef0, ef1⟩ := HM.out.f.two
      have Z2 := Lib.hid (hb_set2 (n := .int .i64 0) (d := .int .i64 0) HM.out.f)
      have FM := Lib.hid (far2 wr (w.heap.size + 1 + 1) (.int .i64 0) (.int .i64 0))
      have BF := Lib.hid (bw_far HM.out.b (by omega) FM.out)
      have HVL : Hid (vs.length = i) := Lib.hid (valsE_len HVE.out)
      have VMZ : Hid (VsAt ((wr.setCell ⟨w.heap.size + 1 + 1, 0, none⟩ (.int .i64 0)).setCell ⟨w.heap.size + 1 + 1, 1, none⟩ (.int .i64 0)) Av vs) := Lib.hid (by
        have R2 : RMk (w2.heap.size + 1) w.heap.size (.slice Av i vc) ((wr.setCell ⟨w.heap.size + 1 + 1, 0, none⟩ (.int .i64 0)).setCell ⟨w.heap.size + 1 + 1, 1, none⟩ (.int .i64 0)) ps := ⟨own_far HVM.out.1 (own_ne HVM.out.1 HM.out.f (by decide)) FM.out, fun p hp => by
          obtain ⟨A, c, h1, h2, h3, h4⟩ := HVM.out.2 p hp
          exact ⟨A, c, h1, h2, h3, cls_far h4 HM.out.f (by decide) FM.out (bw_far (Below.refl _ _) (by omega) FM.out)⟩⟩
        have := rm_vs R2 hpl
        rw [HPV.out] at this
        exact this)
      clear HSI
      obtain ⟨z0, z1, -⟩ := Z2.out.two
      have FIN := Lib.hid (HQ0.out (.returned (.tuple #[.slice Av i vc, .agg #[.int .i64 0, .int .i64 0]])) _ (by rw [HVE.out]; exact ⟨Av, vc, by rw [HVL.out], VMZ.out, BF.out⟩))
      clear Z2 BF VMZ FM
      go_wp2_with fail
      exact bodyPost_ret (v := .tuple #[.slice Av i vc, .agg #[.int .i64 0, .int .i64 0]]) (by simp [results, Tryz.results6, go_sem, z0, z1]) rfl FIN.out
end Go.Proofs.YtaodebpogibimaaGreat
