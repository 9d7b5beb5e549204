/-
  Worlds that are made of raw numbers.
-/
import Derived.Test.YtibpgcdaommjeaaG21
import Derived.Test.YtibpgcdaommjeaaG24
import Derived.Deep.CutBlock
namespace Go.Proofs.Ytibpgcdaommjeaa
open Go.RowKit

theorem kwhole_any (n : Int) (w : World) : Calls Try.prog 11 #[.int .i64 n] w fun e w' => e = .returned (.agg #[.int .i64 n, .int .i64 1, .slice none 0 0, .int .i64 0]) ∧ Below w.heap.size w w' := by
  go_enter Try.func11, Try.ntmps11
  go_wp2_with fail
  exact bodyPost_ret (v := .agg #[.int .i64 n, .int .i64 1, .slice none 0 0, .int .i64 0]) (by simp [results, Try.results11, go_sem]) rfl ⟨rfl, by go_grown⟩
theorem pick_lit (k : Nat) (z : Int) (hz : z = (k : Int)) (h1 : 1 ≤ k) (h2 : k ≤ 1000) (a : Int) (w : World) : Calls Try.prog 12 #[.int .i64 a, .int .i64 z] w fun e w' => ∃ r : Int, e = .returned (.int .i64 r) ∧ 0 ≤ r ∧ r < z ∧ w' = w := by
  subst hz
  exact pick_rng a k h1 h2 w
/-- Blocks of rows, numbers and cells stay. -/
def Kp (W W' : World) : Prop := ∀ g t cs, (t = 57 ∨ t = 3 ∨ t = 59) → HB W g t cs → HB W' g t cs
theorem Kp.trans {a b c : World} (h : Kp a b) (k : Kp b c) : Kp a c := fun g t cs z hb => k g t cs z (h g t cs z hb)
theorem kp_refl (w : World) : Kp w w := fun _ _ _ _ h => h
theorem kp_below {w w' : World} (k : Below w.heap.size w w') : Kp w w' := fun _ _ _ _ h => h.below k
theorem kp_far {w w' : World} {g t : Nat} {cs : Array Value} (R : HB w g t cs) (h1 : t ≠ 57) (h2 : t ≠ 3) (h3 : t ≠ 59) (f : Far g w w') : Kp w w' := fun g' t' cs' z hb => by
  refine hb_far hb (hb_ne hb R ?_) f
  rcases z with rfl | rfl | rfl
  · exact Ne.symm h1
  · exact Ne.symm h2
  · exact Ne.symm h3
theorem kp_app {w w' : World} {B n : Nat} {v : Value} {xs : List Value} (o : w.ownsRow B 53 5 v n xs) (k : ∀ g t cs, some g ≠ v.ownBlock → HB w g t cs → HB w' g t cs) : Kp w w' := fun g t cs z hb => by
  refine k g t cs (own_ne o hb ?_) hb
  rcases z with rfl | rfl | rfl <;> decide
/-- What a meaning's slices lead to stays. -/
def MdK (W : World) (m : Mg) (sr sc : Value) : Prop :=
  ∃ Ar cr Ac cc, sr = .slice Ar m.rows.length cr ∧ m.rows.length ≤ cr ∧ cr ≤ maxLen ∧ sc = .slice Ac m.rest.cells.length cc ∧ m.rest.cells.length ≤ cc ∧ cc ≤ maxLen ∧ ∀ W', Kp W W' → EsAt W' Ar m.rows ∧ CsAt W' Ac m.rest.cells
theorem MdK.mono {W W' : World} {m : Mg} {sr sc : Value} (h : MdK W m sr sc) (k : Kp W W') : MdK W' m sr sc := by
  obtain ⟨Ar, cr, Ac, cc, a1, a2, a3, a4, a5, a6, a7⟩ := h
  exact ⟨Ar, cr, Ac, cc, a1, a2, a3, a4, a5, a6, fun W'' k' => a7 W'' (k.trans k')⟩
theorem mdk_nil (W : World) (v : Vl) (hv : v.cells = []) : MdK W ⟨[], v⟩ (.slice none 0 0) (.slice none 0 0) :=
  ⟨none, 0, none, 0, rfl, Nat.le_refl _, Nat.zero_le _, by rw [hv]; rfl, by rw [hv]; exact Nat.le_refl _, Nat.zero_le _, fun W' _ => ⟨es_nil _ _, by rw [hv]; exact cs_nil _ _⟩⟩
theorem is_one {w : World} {g : Nat} {a : Int} (h : HB w g 3 #[.int .i64 a]) : Is w (some ⟨g, 0, none⟩) [a] := is_row h (fun k hk => by
  simp at hk
  subst hk
  rfl)
theorem is_two {w : World} {g : Nat} {a b : Int} (h : HB w g 3 #[.int .i64 a, .int .i64 b]) : Is w (some ⟨g, 0, none⟩) [a, b] := is_row h (fun k hk => by
  simp at hk
  have : k = 0 ∨ k = 1 := by omega
  rcases this with rfl | rfl <;> rfl)
theorem wh_in {w : World} {b : Nat} {y : Int} {cs : Array Value} {o : Nat} (h : HB w b 57 cs) (h0 : cs[o + 1]? = some (.int .i64 y)) (h1 : cs[o + 2]? = some (.int .i64 1)) (h2 : cs[o + 3]? = some (.slice none 0 0)) (h3 : cs[o + 4]? = some (.int .i64 0)) : (whV y).In w b o 1 :=
  ⟨(h.cell _).trans h0, (h.cell _).trans h1, (h.cell _).trans h3, none, 0, (h.cell _).trans h2, Nat.le_refl _, Nat.zero_le _, cs_nil _ _⟩
theorem es_one {w : World} {b b1 n1 : Nat} {a1 : List Int} {y1 : Int} (h : HB w b 57 #[.slice (some ⟨b1, 0, none⟩) n1 n1, .int .i64 y1, .int .i64 1, .slice none 0 0, .int .i64 0]) (l1 : a1.length = n1) (hn1 : n1 ≤ 8) (i1 : Is w (some ⟨b1, 0, none⟩) a1) : EsAt w (some ⟨b, 0, none⟩) [⟨a1, whV y1⟩] := fun _ =>
  ⟨b, 0, rfl, h.lt, fun i q hq => by
    have hi : i = 0 := by
      rcases Nat.eq_zero_or_pos i with z | z
      · exact z
      · rw [List.getElem?_eq_none (by simp; omega)] at hq; cases hq
    subst hi
    simp at hq
    subst hq
    subst l1
    exact ⟨⟨some ⟨b1, 0, none⟩, a1.length, h.cell 0, Nat.le_refl _, by unfold maxLen; omega, i1⟩, wh_in h rfl rfl rfl rfl⟩⟩
theorem es_two {w : World} {b b1 b2 n1 n2 : Nat} {a1 a2 : List Int} {y1 y2 : Int} (h : HB w b 57 #[.slice (some ⟨b1, 0, none⟩) n1 n1, .int .i64 y1, .int .i64 1, .slice none 0 0, .int .i64 0, .slice (some ⟨b2, 0, none⟩) n2 n2, .int .i64 y2, .int .i64 1, .slice none 0 0, .int .i64 0]) (l1 : a1.length = n1) (l2 : a2.length = n2) (hn1 : n1 ≤ 8) (hn2 : n2 ≤ 8) (i1 : Is w (some ⟨b1, 0, none⟩) a1) (i2 : Is w (some ⟨b2, 0, none⟩) a2) : EsAt w (some ⟨b, 0, none⟩) [⟨a1, whV y1⟩, ⟨a2, whV y2⟩] := fun _ =>
  ⟨b, 0, rfl, h.lt, fun i q hq => by
    have hi : i = 0 ∨ i = 1 := by
      rcases Nat.lt_or_ge i 2 with z | z
      · omega
      · rw [List.getElem?_eq_none (by simp; omega)] at hq; cases hq
    subst l1 l2
    rcases hi with rfl | rfl
    · simp at hq
      subst hq
      exact ⟨⟨some ⟨b1, 0, none⟩, a1.length, h.cell 0, Nat.le_refl _, by unfold maxLen; omega, i1⟩, wh_in h rfl rfl rfl rfl⟩
    · simp at hq
      subst hq
      exact ⟨⟨some ⟨b2, 0, none⟩, a2.length, h.cell 5, Nat.le_refl _, by unfold maxLen; omega, i2⟩, wh_in (o := 5) h rfl rfl rfl rfl⟩⟩
theorem cs_one {w : World} {b : Nat} {x y : Int} (h : HB w b 59 #[.int .i64 x, .int .i64 y]) : CsAt w (some ⟨b, 0, none⟩) [(x, y)] := fun _ =>
  ⟨b, 0, rfl, h.lt, fun i q hq => by
    have hi : i = 0 := by
      rcases Nat.eq_zero_or_pos i with z | z
      · exact z
      · rw [List.getElem?_eq_none (by simp; omega)] at hq; cases hq
    subst hi
    simp at hq
    subst hq
    exact ⟨h.cell 0, h.cell 1⟩⟩
theorem mgc_nil {so : Int} {v : Vl} (h : gdV so v = true) : mgC 0 so ⟨[], v⟩ = 0 := by
  unfold mgC
  rw [if_neg (by simp), if_neg (by simp), if_neg (by show ¬ twB [] = true; decide), if_neg (by simp [h])]
theorem mgc_rows {dl : Nat} {so : Int} {m : Mg} (h1 : m.rows.length ≤ 1000) (h2 : ∀ e ∈ m.rows, e.args.length = dl) (h3 : ∀ e ∈ m.rows, ∀ z ∈ e.args, nTh z = false) (h4 : twB m.rows = false) (h5 : gdV so m.rest = true) (h6 : ∀ e ∈ m.rows, gdV so e.too = true) : mgC dl so m = 0 := by
  unfold mgC
  have e2 : (m.rows.any fun e => !decide (e.args.length = dl)) = false := by
    rw [List.any_eq_false]
    intro e he
    simp [h2 e he]
  have e3 : (m.rows.any fun e => e.args.any nTh) = false := by
    rw [List.any_eq_false]
    intro e he
    rw [Bool.not_eq_true, List.any_eq_false]
    intro z hz
    simp [h3 e he z hz]
  have e6 : (m.rows.any fun e => !gdV so e.too) = false := by
    rw [List.any_eq_false]
    intro e he
    simp [h6 e he]
  rw [if_neg (by rw [e2]; simp; omega), if_neg (by rw [e3]; simp), if_neg (by rw [h4]; simp), if_neg (by rw [e6, h5]; simp)]
theorem int_gd {n : Int} (h1 : -1000 ≤ n) (h2 : n ≤ 1000) : gdV 2 (whV n) = true := num_gd (fvalid_whole (by omega) (by omega)) 2 (.inr ⟨rfl, rfl⟩)
theorem real_gd {n : Int} (h1 : -1000 ≤ n) (h2 : n ≤ 1000) : gdV 3 (whV n) = true := num_gd (fvalid_whole (by omega) (by omega)) 3 (.inl rfl)
theorem half_gd {x : Int} (h1 : 0 ≤ x) (h2 : x < 4) : gdV 3 ⟨2 * x - 3, 2, [], 0⟩ = true := by
  have : x = 0 ∨ x = 1 ∨ x = 2 ∨ x = 3 := by omega
  rcases this with rfl | rfl | rfl | rfl <;> decide
theorem bit_gd {x : Int} (h1 : 0 ≤ x) (h2 : x < 2) : gdV 1 (whV x) = true := by
  have : x = 0 ∨ x = 1 := by omega
  rcases this with rfl | rfl <;> decide
theorem th_gd {x : Int} (h1 : 0 ≤ x) (h2 : x < 3) : gdV 4 (whV x) = true := thing_gd (nth_no.2 ⟨h1, by omega⟩)
theorem wd_gd {x : Int} (h1 : 0 ≤ x) (h2 : x < 8) : gdV 13 (whV x) = true := word_gd (by omega) h1 h2
theorem arr_gd {r : Int} {cs : List (Int × Int)} (h1 : 0 ≤ r) (h2 : r < 3) (hc : cs = [] ∨ ∃ x y : Int, cs = [(x, y)] ∧ 0 ≤ x ∧ x < 3 ∧ 0 ≤ y ∧ y < 3 ∧ y ≠ r) : gdV 5 ⟨0, 0, cs, r⟩ = true := by
  refine gdv5.2 ⟨rfl, rfl, nth_no.2 ⟨h1, by dsimp only; omega⟩, ?_⟩
  rcases hc with rfl | ⟨x, y, rfl, a1, a2, a3, a4, a5⟩
  · exact ⟨fun c hc => absurd hc (by simp), List.Pairwise.nil⟩
  · refine ⟨fun c hc => ?_, List.pairwise_singleton _ _⟩
    rw [List.mem_singleton] at hc
    subst hc
    exact ⟨by dsimp only; omega, nth_no.2 ⟨a1, by dsimp only; omega⟩, nth_no.2 ⟨a3, by dsimp only; omega⟩, a5⟩
/-- The meaning in hand, in memory. -/
def MgH (wr : World) (i : Nat) (wx : World) : Prop := ∃ (m : Mg) (sr sc : Value), HB wx wr.heap.size 53 #[sr, .int .i64 m.rest.num, .int .i64 m.rest.den, sc, .int .i64 m.rest.rest] ∧ MdK wx m sr sc ∧ mgC (dn dqs i).args.length (dn dqs i).sort m = 0 ∧ Below wr.heap.size wr wx
/-- A meaning's five cells; the first and the fourth are its slices. -/
def mgV (p : Mg × Value × Value) : List Value := [p.2.1, .int .i64 p.1.rest.num, .int .i64 p.1.rest.den, p.2.2, .int .i64 p.1.rest.rest]
theorem flat5 {ps : List (Mg × Value × Value)} : ∀ {i j : Nat} {p : Mg × Value × Value}, ps[i]? = some p → j < 5 → (ps.flatMap mgV)[i * 5 + j]? = (mgV p)[j]? := by
  induction ps with
  | nil => intro i j p h; cases h
  | cons q ps ih =>
    intro i j p h hj
    rw [List.flatMap_cons]
    have hl : (mgV q).length = 5 := rfl
    cases i with
    | zero =>
      simp at h
      subst h
      rw [Nat.zero_mul, Nat.zero_add, List.getElem?_append_left (by rw [hl]; exact hj)]
    | succ i =>
      simp at h
      rw [List.getElem?_append_right (by rw [hl]; omega), hl, show (i + 1) * 5 + j - 5 = i * 5 + j by omega]
      exact ih h hj
/-- The world in the making. -/
structure WoI (w0 : World) (sv : Value) (ps : List (Mg × Value × Value)) (W : World) : Prop where
  b : Below w0.heap.size w0 W
  r : HB W w0.heap.size 36 #[.slice none 0 0]
  v : HB W (w0.heap.size + 1) 36 #[sv]
  o : W.ownsRow w0.heap.size 53 5 sv ps.length (ps.flatMap mgV)
  m : ∀ p ∈ ps, MdK W p.1 p.2.1 p.2.2
  g : ∀ i p, ps[i]? = some p → mgC (dn dqs i).args.length (dn dqs i).sort p.1 = 0
theorem WoI.below {w0 W W' : World} {sv : Value} {ps : List (Mg × Value × Value)} (h : WoI w0 sv ps W) (k : Below W.heap.size W W') : WoI w0 sv ps W' :=
  ⟨below_after h.b k, h.r.below k, h.v.below k, own_below h.o k, fun p hp => (h.m p hp).mono (kp_below k), h.g⟩
theorem infoMeaning : (Try.prog.info? 53).map (fun i => (i.zero, i.size, i.bytes)) = some (some (.agg #[.slice none 0 0, .int .i64 0, .int .i64 0, .slice none 0 0, .int .i64 0]), 5, 72) := by kernel_rfl
/-- One meaning more. -/
theorem wo_app {w0 W W' : World} {sv sv' : Value} {ps : List (Mg × Value × Value)} {p : Mg × Value × Value} (h : WoI w0 sv ps W) (hp : MdK W p.1 p.2.1 p.2.2) (hg : mgC (dn dqs ps.length).args.length (dn dqs ps.length).sort p.1 = 0)
    (ho : W'.ownsRow w0.heap.size 53 5 sv' (ps.length + 1) (ps.flatMap mgV ++ mgV p)) (hk : ∀ g t cs, some g ≠ sv.ownBlock → HB W g t cs → HB W' g t cs) (hb : ∀ X, Below w0.heap.size X W → Below w0.heap.size X W') :
    WoI w0 sv' (ps ++ [p]) (W'.setCell ⟨w0.heap.size + 1, 0, none⟩ sv') := by
  have v1 := hk _ _ _ (own_ne h.o h.v (by decide)) h.v
  have F := far_set W' (w0.heap.size + 1) 0 sv'
  have K1 := (kp_app h.o hk).trans (kp_far v1 (by decide) (by decide) (by decide) F)
  refine ⟨bw_far (hb _ h.b) (by omega) F, hb_far (hk _ _ _ (own_ne h.o h.r (by decide)) h.r) (by omega) F, hb_set1 v1, ?_, fun q hq => ?_, fun i q hq => ?_⟩
  · rw [List.length_append, List.flatMap_append]
    exact own_far (by simpa using ho) (own_ne (by simpa using ho) v1 (by decide)) F
  · rcases List.mem_append.1 hq with z | z
    · exact (h.m q z).mono K1
    · rw [List.mem_singleton] at z
      subst z
      exact hp.mono K1
  · rcases Nat.lt_or_ge i ps.length with z | z
    · rw [List.getElem?_append_left z] at hq
      exact h.g i q hq
    · rw [List.getElem?_append_right z] at hq
      rcases Nat.eq_zero_or_pos (i - ps.length) with y | y
      · rw [y] at hq
        simp at hq
        subst hq
        obtain rfl : i = ps.length := by omega
        exact hg
      · rw [List.getElem?_eq_none (by simp; omega)] at hq
        cases hq
/-- The row reads as meanings. -/
theorem wo_ms' {w0 W : World} {A : Option Addr} {n c : Nat} {ps : List (Mg × Value × Value)} (ho : W.ownsRow w0.heap.size 53 5 (.slice A n c) ps.length (ps.flatMap mgV)) (hm0 : ∀ p ∈ ps, MdK W p.1 p.2.1 p.2.2) (hn : ps.length = n) : MsAt W A (ps.map (·.1)) := by
  rcases ho.2 with ⟨h0, h1⟩ | ⟨g, cap, cur, h0, hb, hh, hc, hm, hsz, htk⟩
  · intro z
    rw [List.length_map] at z
    omega
  · injection h0 with h0 _ _
    intro z
    refine ⟨g, 0, h0, HB.lt hh, fun i q hq => ?_⟩
    rw [List.getElem?_map] at hq
    obtain ⟨p, hpi, rfl⟩ := Option.map_eq_some_iff.1 hq
    have hi : i < ps.length := by
      rcases Nat.lt_or_ge i ps.length with y | y
      · exact y
      · rw [List.getElem?_eq_none y] at hpi; cases hpi
    have hcell : ∀ j u, j < 5 → (mgV p)[j]? = some u → W.cell? ⟨g, 0 + i * 5 + j, none⟩ = some u := fun j u hj hu => by
      have e1 := flat5 hpi hj
      rw [hu, ← htk, List.getElem?_take_of_lt (by omega)] at e1
      rw [show 0 + i * 5 + j = i * 5 + j by omega, cell_of_row W g (i * 5 + j) cur 53 (0, 0) hh]
      simpa using e1
    obtain ⟨Ar, cr, Ac, cc, a1, a2, a3, a4, a5, a6, a7⟩ := hm0 p (List.mem_of_getElem? hpi)
    obtain ⟨x1, x2⟩ := a7 W (kp_refl _)
    have c0 := hcell 0 _ (by omega) rfl
    have c3 := hcell 3 _ (by omega) rfl
    rw [a1] at c0
    rw [a4] at c3
    exact ⟨⟨Ar, cr, c0, a2, a3, x1⟩, hcell 1 _ (by omega) rfl, hcell 2 _ (by omega) rfl, hcell 4 _ (by omega) rfl, Ac, cc, c3, a5, a6, x2⟩
theorem gd_wf {s : Int} {v : Vl} (h : gdV s v = true) : v.wf := by
  by_cases z : s = 5
  · subst z
    obtain ⟨a, b, c, d⟩ := gdv5.1 h
    have c' := nth_no.1 c
    refine ⟨wf64_iff.2 (by omega), wf64_iff.2 (by omega), wf64_iff.2 (by omega), fun x hx => ?_⟩
    have := nth_no.1 (d.1 x hx).2.1
    have := nth_no.1 (d.1 x hx).2.2.1
    exact ⟨wf64_iff.2 (by omega), wf64_iff.2 (by omega)⟩
  · obtain ⟨a, b, c⟩ := (gdv_w z).1 h
    have := fvalid_bd (gdn_iff.1 c).1
    refine ⟨wf64_iff.2 (by omega), wf64_iff.2 (by omega), wf64_iff.2 (by omega), fun x hx => ?_⟩
    rw [a] at hx
    cases hx
theorem mg_wf {dl : Nat} {so : Int} {m : Mg} (h : mgC dl so m = 0) : m.wf := by
  obtain ⟨_, _, h3, h4, h5⟩ := mgc_zero h
  refine ⟨fun e he => ⟨fun z hz => ?_, gd_wf (h5 e he)⟩, gd_wf h4⟩
  have := nth_no.1 (h3 e he z hz)
  exact wf64_iff.2 (by omega)
/-- The row reads as meanings, whatever the result holds. -/
theorem wo_msf {w0 W W' : World} {A : Option Addr} {n c : Nat} {ps : List (Mg × Value × Value)} (h : WoI w0 (.slice A n c) ps W) (hn : ps.length = n) (f : Far w0.heap.size W W') : MsAt W' A (ps.map (·.1)) := by
  have K := kp_far h.r (by decide) (by decide) (by decide) f
  refine wo_ms' (w0 := w0) (own_far h.o (own_ne h.o h.r (by decide)) f) (fun p hp => (h.m p hp).mono K) hn
theorem wo_good {ps : List (Mg × Value × Value)} (hl : ps.length = 14) (h : ∀ (i : Nat) (p : Mg × Value × Value), ps[i]? = some p → mgC (dn dqs i).args.length (dn dqs i).sort p.1 = 0) : ∀ i, i < 14 → mcF dqs (ps.map (·.1)) i = 0 := fun i hi => by
  have e : ps[i]? = some ps[i] := List.getElem?_eq_getElem (by omega)
  have := h i _ e
  unfold mcF
  rw [show mn (ps.map (·.1)) i = (ps[i]'(by omega)).1 by simp [mn, List.getD, e]]
  exact this
theorem wo_wf {ps : List (Mg × Value × Value)} (h : ∀ (i : Nat) (p : Mg × Value × Value), ps[i]? = some p → mgC (dn dqs i).args.length (dn dqs i).sort p.1 = 0) : ∀ q ∈ ps.map (·.1), q.wf := fun q hq => by
  obtain ⟨p, hp, rfl⟩ := List.mem_map.1 hq
  obtain ⟨i, hi⟩ := mem_get hp
  exact mg_wf (h i p hi)
theorem own_re' {w : World} {B n m sz : Nat} {e : TypeId} {v : Value} {xs : List Value} (h : w.ownsRow B e sz v n xs) (h1 : n = m) : w.ownsRow B e sz v m xs := by subst h1; exact h
theorem hb_rest {w : World} {g t : Nat} {x0 x1 x2 x3 x4 n d e f : Value} (h : HB w g t #[x0, x1, x2, x3, x4]) : HB ((((w.setCell ⟨g, 1, none⟩ n).setCell ⟨g, 2, none⟩ d).setCell ⟨g, 3, none⟩ e).setCell ⟨g, 4, none⟩ f) g t #[x0, n, d, e, f] := by
  have := (((h.set_ 1 n).set_ 2 d).set_ 3 e).set_ 4 f
  simpa using this
theorem far_rest (w : World) (g : Nat) (v1 v2 v3 v4 : Value) : Far g w ((((w.setCell ⟨g, 1, none⟩ v1).setCell ⟨g, 2, none⟩ v2).setCell ⟨g, 3, none⟩ v3).setCell ⟨g, 4, none⟩ v4) := (((far_set w g 1 v1).trans (far_set _ g 2 v2)).trans (far_set _ g 3 v3)).trans (far_set _ g 4 v4)
theorem hb_row0 {w : World} {g t : Nat} {x0 x1 x2 x3 x4 n : Value} (h : HB w g t #[x0, x1, x2, x3, x4]) : HB (w.setCell ⟨g, 0, none⟩ n) g t #[n, x1, x2, x3, x4] := by
  have := h.set_ 0 n
  simpa using this
theorem hb_row3 {w : World} {g t : Nat} {x0 x1 x2 x3 x4 n : Value} (h : HB w g t #[x0, x1, x2, x3, x4]) : HB (w.setCell ⟨g, 3, none⟩ n) g t #[x0, x1, x2, n, x4] := by
  have := h.set_ 3 n
  simpa using this
theorem wo_new (w : World) : WoI w (.slice none 0 0) [] ((w.alloc (.cells #[.slice none 0 0] 36)).alloc (.cells #[.slice none 0 0] 36)) :=
  ⟨by go_grown, (HB.new _ _ _).alloc _, HB.new1 _ _ _ _, own_nil _ _ _ _, fun p hp => absurd hp (by simp), fun i p hp => by cases hp⟩
/-- A world that is made, and whose its row is. -/
def WorldO (w : World) (e : Ending) (w' : World) : Prop := ∃ (Am : Option Addr) (mc : Nat) (ps : List (Mg × Value × Value)), e = .returned (.agg #[.slice Am 14 mc]) ∧ Hid (ps.length = 14) ∧ 14 ≤ mc ∧ mc ≤ maxLen ∧ Hid (w'.ownsRow w.heap.size 53 5 (.slice Am 14 mc) ps.length (ps.flatMap mgV)) ∧ Hid (∀ p ∈ ps, MdK w' p.1 p.2.1 p.2.2) ∧ Hid (∀ i p, ps[i]? = some p → mgC (dn dqs i).args.length (dn dqs i).sort p.1 = 0) ∧ Below w.heap.size w w'
set_option maxRecDepth 100000 in
set_option maxHeartbeats 8000000 in
theorem worldof_own (zs : List Int) (A : Option Addr) (c : Nat) (hl : zs.length ≤ maxLen) (w : World) (h : Is w A zs) :
    Calls Try.prog 8 #[.slice A zs.length c] w (WorldO w) := by
  have HA := Lib.hid (fun (W : World) (i : Nat) (k : Below w.heap.size w W) => at_any zs A c i hl W (h.below k))
  have P2 := Lib.hid (pick_lit 2 2 rfl (by decide) (by decide))
  have P3 := Lib.hid (pick_lit 3 3 rfl (by decide) (by decide))
  have P4 := Lib.hid (pick_lit 4 4 rfl (by decide) (by decide))
  have P5 := Lib.hid (pick_lit 5 5 rfl (by decide) (by decide))
  have P7 := Lib.hid (pick_lit 7 7 rfl (by decide) (by decide))
  have P8 := Lib.hid (pick_lit 8 8 rfl (by decide) (by decide))
  have HN := Lib.hid (wo_new w)
  generalize zs.length = zl at *
  clear h hl
  generalize hQ : WorldO w = Q0 at *
  have HQ0 := Lib.hid (fun e w' (z : WorldO w e w') => (show Q0 e w' by rw [← hQ]; exact z))
  clear hQ
  go_enter Try.func8, Try.ntmps8
  go_wp2_with fail
  go_loopw [4, 5, 6, 7] (fun k _ _ _ wr => ∃ (i : Nat) (sv : Value) (ps : List (Mg × Value × Value)), i ≤ 14 ∧ k = .int .i64 i ∧ Hid (ps.length = i) ∧ Hid (WoI w sv ps wr)) (fun k _ _ _ _ => 14 - (intOf k).toNat)
  case atStart => exact ⟨0, .slice none 0 0, [], by omega, rfl, Lib.hid rfl, HN⟩
  case round =>
    clear HN
    obtain ⟨i, sv, ps, hi, rfl, HPL, HI⟩ := hrel
    by_cases hlt : i < 14
    · have t3 : decide ((i : Int) < 14) = true := by simp; omega
      go_wp2_with fail
      refine (HA.out _ i HI.out.b).mono ?_
      rintro e w1 ⟨rfl, hw1⟩
      obtain rfl := hw1.symm
      generalize nth zs i = xn at *
      clear HA
      go_upto_block 2 with fail
      go_cut [6] (fun s6 wx => s6 = .pointer (some ⟨wr.heap.size, 0, none⟩) ∧ Hid (MgH wr i wx))
      case first =>
        have HC : (0 ≤ i ∧ i ≤ 1) ∨ (2 ≤ i ∧ i ≤ 3) ∨ (4 ≤ i ∧ i ≤ 4) ∨ (5 ≤ i ∧ i ≤ 7) ∨ (8 ≤ i ∧ i ≤ 8) ∨ (9 ≤ i ∧ i ≤ 9) ∨ (10 ≤ i ∧ i ≤ 10) ∨ (11 ≤ i ∧ i ≤ 11) ∨ (12 ≤ i ∧ i ≤ 13) := by omega
        rcases HC with hc | hc | hc | hc | hc | hc | hc | hc | hc
        · -- 0 .. 1
          have DA : (dn dqs i).args.length = 0 ∧ (dn dqs i).sort = 1 := by
            have : i = 0 ∨ i = 1 := by omega
            rcases this with rfl | rfl <;> exact ⟨rfl, rfl⟩
          have d0 : decide ((i : Int) < 2) = true := by simp; omega
          have N0 := Lib.hid (HB.new wr 53 #[.slice none 0 0, .int .i64 0, .int .i64 0, .slice none 0 0, .int .i64 0])
          have B0 := Lib.hid (new_below wr (.cells #[.slice none 0 0, .int .i64 0, .int .i64 0, .slice none 0 0, .int .i64 0] 53))
          go_wp2_with fail
          refine (P2.out _ _).mono ?_
          rintro e wqx ⟨x, rfl, lx, ux, rfl⟩
          go_wp2_with fail
          refine (kwhole_any _ _).mono ?_
          rintro e wa ⟨rfl, hba⟩
          have Na := Lib.hid (N0.out.below hba)
          have Ba := Lib.hid (below_after B0.out hba)
          clear hba
          obtain ⟨⟨c0, c1, c2, c3, c4⟩, f0, f1, f2, f3, f4⟩ := hb_ff Na.out
          have Ga := Lib.hid (hb_rest (n := .int .i64 (x)) (d := .int .i64 1) (e := .slice none 0 0) (f := .int .i64 0) Na.out)
          have Fa := Lib.hid (far_rest wa wr.heap.size (.int .i64 (x)) (.int .i64 1) (.slice none 0 0) (.int .i64 0))
          have FIN : Hid (MgH wr i _) := Lib.hid ⟨⟨[], whV x⟩, .slice none 0 0, .slice none 0 0, Ga.out, mdk_nil _ _ rfl, by rw [DA.1, DA.2]; exact mgc_nil (bit_gd lx ux), bw_far Ba.out (Nat.le_refl _) Fa.out⟩
          clear Ga Fa
          go_wp2_with fail
          go_meet
          case rel => exact ⟨rfl, FIN⟩
        · -- 2 .. 3
          have DA : (dn dqs i).args.length = 0 ∧ (dn dqs i).sort = 2 := by
            have : i = 2 ∨ i = 3 := by omega
            rcases this with rfl | rfl <;> exact ⟨rfl, rfl⟩
          have d0 : decide ((i : Int) < 2) = false := by simp; omega
          have d1 : decide ((i : Int) < 4) = true := by simp; omega
          have N0 := Lib.hid (HB.new wr 53 #[.slice none 0 0, .int .i64 0, .int .i64 0, .slice none 0 0, .int .i64 0])
          have B0 := Lib.hid (new_below wr (.cells #[.slice none 0 0, .int .i64 0, .int .i64 0, .slice none 0 0, .int .i64 0] 53))
          go_wp2_with fail
          refine (P7.out _ _).mono ?_
          rintro e wqx ⟨x, rfl, lx, ux, rfl⟩
          have sx : IntKind.i64.wrap (x - 3) = x - 3 := IntWalk.i64_in _ (by omega)
          go_wp2_with fail
          refine (kwhole_any _ _).mono ?_
          rintro e wa ⟨rfl, hba⟩
          have Na := Lib.hid (N0.out.below hba)
          have Ba := Lib.hid (below_after B0.out hba)
          clear hba
          obtain ⟨⟨c0, c1, c2, c3, c4⟩, f0, f1, f2, f3, f4⟩ := hb_ff Na.out
          have Ga := Lib.hid (hb_rest (n := .int .i64 (x - 3)) (d := .int .i64 1) (e := .slice none 0 0) (f := .int .i64 0) Na.out)
          have Fa := Lib.hid (far_rest wa wr.heap.size (.int .i64 (x - 3)) (.int .i64 1) (.slice none 0 0) (.int .i64 0))
          have FIN : Hid (MgH wr i _) := Lib.hid ⟨⟨[], whV (x - 3)⟩, .slice none 0 0, .slice none 0 0, Ga.out, mdk_nil _ _ rfl, by rw [DA.1, DA.2]; exact mgc_nil (int_gd (by omega) (by omega)), bw_far Ba.out (Nat.le_refl _) Fa.out⟩
          clear Ga Fa
          go_wp2_with fail
          go_meet
          case rel => exact ⟨rfl, FIN⟩
        · -- 4 .. 4
          have DA : (dn dqs i).args.length = 0 ∧ (dn dqs i).sort = 3 := by
            obtain rfl : i = 4 := by omega
            exact ⟨rfl, rfl⟩
          have d0 : decide ((i : Int) < 2) = false := by simp; omega
          have d1 : decide ((i : Int) < 4) = false := by simp; omega
          have d2 : ((i : Int) == 4) = true := by rw [beq_iff_eq]; omega
          have N0 := Lib.hid (HB.new wr 53 #[.slice none 0 0, .int .i64 0, .int .i64 0, .slice none 0 0, .int .i64 0])
          have B0 := Lib.hid (new_below wr (.cells #[.slice none 0 0, .int .i64 0, .int .i64 0, .slice none 0 0, .int .i64 0] 53))
          go_wp2_with fail
          refine (P4.out _ _).mono ?_
          rintro e wqx ⟨x, rfl, lx, ux, rfl⟩
          have e1 : IntKind.i64.wrap (2 * x) = 2 * x := IntWalk.i64_in _ (by omega)
          have e2 : IntKind.i64.wrap (2 * x - 3) = 2 * x - 3 := IntWalk.i64_in _ (by omega)
          have Gh := Lib.hid (HB.new wr 53 #[.slice none 0 0, .int .i64 (2 * x - 3), .int .i64 2, .slice none 0 0, .int .i64 0])
          have Bh := Lib.hid (new_below wr (.cells #[.slice none 0 0, .int .i64 (2 * x - 3), .int .i64 2, .slice none 0 0, .int .i64 0] 53))
          go_wp2_with fail
          refine (P3.out _ _).mono ?_
          rintro e wqy ⟨y, rfl, ly, uy, rfl⟩
          by_cases hy : y = 0
          · subst hy
            go_wp2_with fail
            refine (P5.out _ _).mono ?_
            rintro e wqz ⟨z, rfl, lz, uz, rfl⟩
            have sz : IntKind.i64.wrap (z - 2) = z - 2 := IntWalk.i64_in _ (by omega)
            go_wp2_with fail
            refine (kwhole_any _ _).mono ?_
            rintro e wa ⟨rfl, hba⟩
            have Na := Lib.hid (Gh.out.below hba)
            have Ba := Lib.hid (below_after Bh.out hba)
            clear hba
            obtain ⟨⟨c0, c1, c2, c3, c4⟩, f0, f1, f2, f3, f4⟩ := hb_ff Na.out
            have Ga := Lib.hid (hb_rest (n := .int .i64 (z - 2)) (d := .int .i64 1) (e := .slice none 0 0) (f := .int .i64 0) Na.out)
            have Fa := Lib.hid (far_rest wa wr.heap.size (.int .i64 (z - 2)) (.int .i64 1) (.slice none 0 0) (.int .i64 0))
            have FIN : Hid (MgH wr i _) := Lib.hid ⟨⟨[], whV (z - 2)⟩, .slice none 0 0, .slice none 0 0, Ga.out, mdk_nil _ _ rfl, by rw [DA.1, DA.2]; exact mgc_nil (real_gd (by omega) (by omega)), bw_far Ba.out (Nat.le_refl _) Fa.out⟩
            clear Ga Fa
            go_wp2_with fail
            go_meet
            case rel => exact ⟨rfl, FIN⟩
          · have ty : (y == 0) = false := by simpa using hy
            have FIN : Hid (MgH wr i _) := Lib.hid ⟨⟨[], ⟨2 * x - 3, 2, [], 0⟩⟩, .slice none 0 0, .slice none 0 0, Gh.out, mdk_nil _ _ rfl, by rw [DA.1, DA.2]; exact mgc_nil (half_gd lx ux), Bh.out⟩
            clear Gh hy
            go_wp2_with fail
            go_meet
            case rel => exact ⟨rfl, FIN⟩
        · -- 5 .. 7
          have DA : (dn dqs i).args.length = 0 ∧ (dn dqs i).sort = 4 := by
            have : i = 5 ∨ i = 6 ∨ i = 7 := by omega
            rcases this with rfl | rfl | rfl <;> exact ⟨rfl, rfl⟩
          have d0 : decide ((i : Int) < 2) = false := by simp; omega
          have d1 : decide ((i : Int) < 4) = false := by simp; omega
          have d2 : ((i : Int) == 4) = false := by rw [beq_eq_false_iff_ne]; omega
          have d3 : decide ((i : Int) < 8) = true := by simp; omega
          have N0 := Lib.hid (HB.new wr 53 #[.slice none 0 0, .int .i64 0, .int .i64 0, .slice none 0 0, .int .i64 0])
          have B0 := Lib.hid (new_below wr (.cells #[.slice none 0 0, .int .i64 0, .int .i64 0, .slice none 0 0, .int .i64 0] 53))
          go_wp2_with fail
          refine (P3.out _ _).mono ?_
          rintro e wqx ⟨x, rfl, lx, ux, rfl⟩
          go_wp2_with fail
          refine (kwhole_any _ _).mono ?_
          rintro e wa ⟨rfl, hba⟩
          have Na := Lib.hid (N0.out.below hba)
          have Ba := Lib.hid (below_after B0.out hba)
          clear hba
          obtain ⟨⟨c0, c1, c2, c3, c4⟩, f0, f1, f2, f3, f4⟩ := hb_ff Na.out
          have Ga := Lib.hid (hb_rest (n := .int .i64 (x)) (d := .int .i64 1) (e := .slice none 0 0) (f := .int .i64 0) Na.out)
          have Fa := Lib.hid (far_rest wa wr.heap.size (.int .i64 (x)) (.int .i64 1) (.slice none 0 0) (.int .i64 0))
          have FIN : Hid (MgH wr i _) := Lib.hid ⟨⟨[], whV x⟩, .slice none 0 0, .slice none 0 0, Ga.out, mdk_nil _ _ rfl, by rw [DA.1, DA.2]; exact mgc_nil (th_gd lx ux), bw_far Ba.out (Nat.le_refl _) Fa.out⟩
          clear Ga Fa
          go_wp2_with fail
          go_meet
          case rel => exact ⟨rfl, FIN⟩
        · -- 8 .. 8
          have DA : (dn dqs i).args.length = 1 ∧ (dn dqs i).sort = 4 := by
            obtain rfl : i = 8 := by omega
            exact ⟨rfl, rfl⟩
          have d0 : decide ((i : Int) < 2) = false := by simp; omega
          have d1 : decide ((i : Int) < 4) = false := by simp; omega
          have d2 : ((i : Int) == 4) = false := by rw [beq_eq_false_iff_ne]; omega
          have d3 : decide ((i : Int) < 8) = false := by simp; omega
          have d4 : ((i : Int) == 8) = true := by rw [beq_iff_eq]; omega
          have N0 := Lib.hid (HB.new wr 53 #[.slice none 0 0, .int .i64 0, .int .i64 0, .slice none 0 0, .int .i64 0])
          have B0 := Lib.hid (new_below wr (.cells #[.slice none 0 0, .int .i64 0, .int .i64 0, .slice none 0 0, .int .i64 0] 53))
          go_wp2_with fail
          refine (P3.out _ _).mono ?_
          rintro e wqx ⟨x, rfl, lx, ux, rfl⟩
          go_wp2_with fail
          refine (kwhole_any _ _).mono ?_
          rintro e wa ⟨rfl, hba⟩
          have Na := Lib.hid (N0.out.below hba)
          have Ba := Lib.hid (below_after B0.out hba)
          clear hba
          obtain ⟨⟨c0, c1, c2, c3, c4⟩, f0, f1, f2, f3, f4⟩ := hb_ff Na.out
          have Ga := Lib.hid (hb_rest (n := .int .i64 (x)) (d := .int .i64 1) (e := .slice none 0 0) (f := .int .i64 0) Na.out)
          have Fa := Lib.hid (far_rest wa wr.heap.size (.int .i64 (x)) (.int .i64 1) (.slice none 0 0) (.int .i64 0))
          have Ga1 := Lib.hid (Ga.out.alloc (.cells #[.int .i64 0] 3))
          have Ba1 := Lib.hid (bw_below (Nat.le_refl _) (bw_far Ba.out (Nat.le_refl _) Fa.out) (new_below _ (.cells #[.int .i64 0] 3)))
          have R1 : Hid (HB _ wa.heap.size 3 #[.int .i64 0]) := Lib.hid (by simpa [sz_set] using HB.new (((((wa.setCell ⟨wr.heap.size, 1, none⟩ (.int .i64 x)).setCell ⟨wr.heap.size, 2, none⟩ (.int .i64 1)).setCell ⟨wr.heap.size, 3, none⟩ (.slice none 0 0)).setCell ⟨wr.heap.size, 4, none⟩ (.int .i64 0))) 3 #[.int .i64 0])
          clear Ga Fa
          go_wp2_with fail
          refine (P3.out _ _).mono ?_
          rintro e wqy ⟨y, rfl, ly, uy, rfl⟩
          go_wp2_with fail
          refine (kwhole_any _ _).mono ?_
          rintro e wb ⟨rfl, hbb⟩
          have Gb := Lib.hid (Ga1.out.below hbb)
          have Bb := Lib.hid (below_after Ba1.out hbb)
          have Rb := Lib.hid (R1.out.below hbb)
          clear hbb c0 c1 c2 c3 c4 f0 f1 f2 f3 f4
          have Gb1 := Lib.hid (Gb.out.alloc (.cells #[.int .i64 1] 3))
          have Bb1 := Lib.hid (below_after Bb.out (new_below wb (.cells #[.int .i64 1] 3)))
          have Rb1 := Lib.hid (Rb.out.alloc (.cells #[.int .i64 1] 3))
          have S1 := Lib.hid (HB.new wb 3 #[.int .i64 1])
          go_wp2_with fail
          refine (P3.out _ _).mono ?_
          rintro e wqz ⟨z, rfl, lz, uz, rfl⟩
          go_wp2_with fail
          refine (kwhole_any _ _).mono ?_
          rintro e wc ⟨rfl, hbc⟩
          have Gc := Lib.hid (Gb1.out.below hbc)
          have Bc := Lib.hid (below_after Bb1.out hbc)
          have Rc := Lib.hid (Rb1.out.below hbc)
          have Sc := Lib.hid (S1.out.below hbc)
          clear hbc
          have Gd := Lib.hid (Gc.out.alloc (.cells #[.slice (some ⟨wa.heap.size, 0, none⟩) 1 1, .int .i64 y, .int .i64 1, .slice none 0 0, .int .i64 0, .slice (some ⟨wb.heap.size, 0, none⟩) 1 1, .int .i64 z, .int .i64 1, .slice none 0 0, .int .i64 0] 57))
          have Fd := Lib.hid (far_set (wc.alloc (.cells #[.slice (some ⟨wa.heap.size, 0, none⟩) 1 1, .int .i64 y, .int .i64 1, .slice none 0 0, .int .i64 0, .slice (some ⟨wb.heap.size, 0, none⟩) 1 1, .int .i64 z, .int .i64 1, .slice none 0 0, .int .i64 0] 57)) wr.heap.size 0 (.slice (some ⟨wc.heap.size, 0, none⟩) 2 2))
          have Kd := kp_far Gd.out (by decide) (by decide) (by decide) Fd.out
          have Rd := Lib.hid (Kd _ _ _ (.inr (.inl rfl)) (Rc.out.alloc (.cells #[.slice (some ⟨wa.heap.size, 0, none⟩) 1 1, .int .i64 y, .int .i64 1, .slice none 0 0, .int .i64 0, .slice (some ⟨wb.heap.size, 0, none⟩) 1 1, .int .i64 z, .int .i64 1, .slice none 0 0, .int .i64 0] 57)))
          have Sd := Lib.hid (Kd _ _ _ (.inr (.inl rfl)) (Sc.out.alloc (.cells #[.slice (some ⟨wa.heap.size, 0, none⟩) 1 1, .int .i64 y, .int .i64 1, .slice none 0 0, .int .i64 0, .slice (some ⟨wb.heap.size, 0, none⟩) 1 1, .int .i64 z, .int .i64 1, .slice none 0 0, .int .i64 0] 57)))
          have Ed := Lib.hid (Kd _ _ _ (.inl rfl) (HB.new wc 57 #[.slice (some ⟨wa.heap.size, 0, none⟩) 1 1, .int .i64 y, .int .i64 1, .slice none 0 0, .int .i64 0, .slice (some ⟨wb.heap.size, 0, none⟩) 1 1, .int .i64 z, .int .i64 1, .slice none 0 0, .int .i64 0]))
          have FIN : Hid (MgH wr i _) := Lib.hid ⟨⟨[⟨[0], whV y⟩, ⟨[1], whV z⟩], whV x⟩, .slice (some ⟨wc.heap.size, 0, none⟩) 2 2, .slice none 0 0, hb_row0 Gd.out, ⟨some ⟨wc.heap.size, 0, none⟩, 2, none, 0, rfl, Nat.le_refl _, by decide, rfl, Nat.le_refl _, Nat.zero_le _, fun W' k => ⟨es_two (k _ _ _ (.inl rfl) Ed.out) rfl rfl (by decide) (by decide) (is_one (k _ _ _ (.inr (.inl rfl)) Rd.out)) (is_one (k _ _ _ (.inr (.inl rfl)) Sd.out)), cs_nil _ _⟩⟩, by rw [DA.1, DA.2]; exact mgc_rows (by simp) (fun e he => by simp at he; rcases he with rfl | rfl <;> rfl) (fun e he v hv => by simp at he; rcases he with rfl | rfl <;> (simp at hv; rcases hv with rfl | rfl <;> decide)) rfl (th_gd lx ux) (fun e he => by simp at he; rcases he with rfl | rfl; exact th_gd ly uy; exact th_gd lz uz), bw_far (below_after Bc.out (new_below wc _)) (Nat.le_refl _) Fd.out⟩
          clear Kd Ed
          obtain ⟨⟨c0, c1, c2, c3, c4⟩, f0, f1, f2, f3, f4⟩ := hb_ff Gd.out
          go_wp2_with fail
          go_meet
          case rel => exact ⟨rfl, FIN⟩
        · -- 9 .. 9
          have DA : (dn dqs i).args.length = 2 ∧ (dn dqs i).sort = 1 := by
            obtain rfl : i = 9 := by omega
            exact ⟨rfl, rfl⟩
          have d0 : decide ((i : Int) < 2) = false := by simp; omega
          have d1 : decide ((i : Int) < 4) = false := by simp; omega
          have d2 : ((i : Int) == 4) = false := by rw [beq_eq_false_iff_ne]; omega
          have d3 : decide ((i : Int) < 8) = false := by simp; omega
          have d4 : ((i : Int) == 8) = false := by rw [beq_eq_false_iff_ne]; omega
          have d5 : ((i : Int) == 9) = true := by rw [beq_iff_eq]; omega
          have N0 := Lib.hid (HB.new wr 53 #[.slice none 0 0, .int .i64 0, .int .i64 0, .slice none 0 0, .int .i64 0])
          have B0 := Lib.hid (new_below wr (.cells #[.slice none 0 0, .int .i64 0, .int .i64 0, .slice none 0 0, .int .i64 0] 53))
          go_wp2_with fail
          refine (P2.out _ _).mono ?_
          rintro e wqx ⟨x, rfl, lx, ux, rfl⟩
          go_wp2_with fail
          refine (kwhole_any _ _).mono ?_
          rintro e wa ⟨rfl, hba⟩
          have Na := Lib.hid (N0.out.below hba)
          have Ba := Lib.hid (below_after B0.out hba)
          clear hba
          obtain ⟨⟨c0, c1, c2, c3, c4⟩, f0, f1, f2, f3, f4⟩ := hb_ff Na.out
          have Ga := Lib.hid (hb_rest (n := .int .i64 (x)) (d := .int .i64 1) (e := .slice none 0 0) (f := .int .i64 0) Na.out)
          have Fa := Lib.hid (far_rest wa wr.heap.size (.int .i64 (x)) (.int .i64 1) (.slice none 0 0) (.int .i64 0))
          have Ga1 := Lib.hid (Ga.out.alloc (.cells #[.int .i64 0, .int .i64 1] 3))
          have Ba1 := Lib.hid (bw_below (Nat.le_refl _) (bw_far Ba.out (Nat.le_refl _) Fa.out) (new_below _ (.cells #[.int .i64 0, .int .i64 1] 3)))
          have R1 : Hid (HB _ wa.heap.size 3 #[.int .i64 0, .int .i64 1]) := Lib.hid (by simpa [sz_set] using HB.new (((((wa.setCell ⟨wr.heap.size, 1, none⟩ (.int .i64 x)).setCell ⟨wr.heap.size, 2, none⟩ (.int .i64 1)).setCell ⟨wr.heap.size, 3, none⟩ (.slice none 0 0)).setCell ⟨wr.heap.size, 4, none⟩ (.int .i64 0))) 3 #[.int .i64 0, .int .i64 1])
          clear Ga Fa
          go_wp2_with fail
          refine (P2.out _ _).mono ?_
          rintro e wqy ⟨y, rfl, ly, uy, rfl⟩
          go_wp2_with fail
          refine (kwhole_any _ _).mono ?_
          rintro e wb ⟨rfl, hbb⟩
          have Gb := Lib.hid (Ga1.out.below hbb)
          have Bb := Lib.hid (below_after Ba1.out hbb)
          have Rb := Lib.hid (R1.out.below hbb)
          clear hbb c0 c1 c2 c3 c4 f0 f1 f2 f3 f4
          have Gb1 := Lib.hid (Gb.out.alloc (.cells #[.int .i64 1, .int .i64 1] 3))
          have Bb1 := Lib.hid (below_after Bb.out (new_below wb (.cells #[.int .i64 1, .int .i64 1] 3)))
          have Rb1 := Lib.hid (Rb.out.alloc (.cells #[.int .i64 1, .int .i64 1] 3))
          have S1 := Lib.hid (HB.new wb 3 #[.int .i64 1, .int .i64 1])
          go_wp2_with fail
          refine (P2.out _ _).mono ?_
          rintro e wqz ⟨z, rfl, lz, uz, rfl⟩
          go_wp2_with fail
          refine (kwhole_any _ _).mono ?_
          rintro e wc ⟨rfl, hbc⟩
          have Gc := Lib.hid (Gb1.out.below hbc)
          have Bc := Lib.hid (below_after Bb1.out hbc)
          have Rc := Lib.hid (Rb1.out.below hbc)
          have Sc := Lib.hid (S1.out.below hbc)
          clear hbc
          have Gd := Lib.hid (Gc.out.alloc (.cells #[.slice (some ⟨wa.heap.size, 0, none⟩) 2 2, .int .i64 y, .int .i64 1, .slice none 0 0, .int .i64 0, .slice (some ⟨wb.heap.size, 0, none⟩) 2 2, .int .i64 z, .int .i64 1, .slice none 0 0, .int .i64 0] 57))
          have Fd := Lib.hid (far_set (wc.alloc (.cells #[.slice (some ⟨wa.heap.size, 0, none⟩) 2 2, .int .i64 y, .int .i64 1, .slice none 0 0, .int .i64 0, .slice (some ⟨wb.heap.size, 0, none⟩) 2 2, .int .i64 z, .int .i64 1, .slice none 0 0, .int .i64 0] 57)) wr.heap.size 0 (.slice (some ⟨wc.heap.size, 0, none⟩) 2 2))
          have Kd := kp_far Gd.out (by decide) (by decide) (by decide) Fd.out
          have Rd := Lib.hid (Kd _ _ _ (.inr (.inl rfl)) (Rc.out.alloc (.cells #[.slice (some ⟨wa.heap.size, 0, none⟩) 2 2, .int .i64 y, .int .i64 1, .slice none 0 0, .int .i64 0, .slice (some ⟨wb.heap.size, 0, none⟩) 2 2, .int .i64 z, .int .i64 1, .slice none 0 0, .int .i64 0] 57)))
          have Sd := Lib.hid (Kd _ _ _ (.inr (.inl rfl)) (Sc.out.alloc (.cells #[.slice (some ⟨wa.heap.size, 0, none⟩) 2 2, .int .i64 y, .int .i64 1, .slice none 0 0, .int .i64 0, .slice (some ⟨wb.heap.size, 0, none⟩) 2 2, .int .i64 z, .int .i64 1, .slice none 0 0, .int .i64 0] 57)))
          have Ed := Lib.hid (Kd _ _ _ (.inl rfl) (HB.new wc 57 #[.slice (some ⟨wa.heap.size, 0, none⟩) 2 2, .int .i64 y, .int .i64 1, .slice none 0 0, .int .i64 0, .slice (some ⟨wb.heap.size, 0, none⟩) 2 2, .int .i64 z, .int .i64 1, .slice none 0 0, .int .i64 0]))
          have FIN : Hid (MgH wr i _) := Lib.hid ⟨⟨[⟨[0, 1], whV y⟩, ⟨[1, 1], whV z⟩], whV x⟩, .slice (some ⟨wc.heap.size, 0, none⟩) 2 2, .slice none 0 0, hb_row0 Gd.out, ⟨some ⟨wc.heap.size, 0, none⟩, 2, none, 0, rfl, Nat.le_refl _, by decide, rfl, Nat.le_refl _, Nat.zero_le _, fun W' k => ⟨es_two (k _ _ _ (.inl rfl) Ed.out) rfl rfl (by decide) (by decide) (is_two (k _ _ _ (.inr (.inl rfl)) Rd.out)) (is_two (k _ _ _ (.inr (.inl rfl)) Sd.out)), cs_nil _ _⟩⟩, by rw [DA.1, DA.2]; exact mgc_rows (by simp) (fun e he => by simp at he; rcases he with rfl | rfl <;> rfl) (fun e he v hv => by simp at he; rcases he with rfl | rfl <;> (first | (simp at hv; rcases hv with rfl | rfl <;> decide) | (simp at hv; subst hv; decide))) rfl (bit_gd lx ux) (fun e he => by simp at he; rcases he with rfl | rfl; exact bit_gd ly uy; exact bit_gd lz uz), bw_far (below_after Bc.out (new_below wc _)) (Nat.le_refl _) Fd.out⟩
          clear Kd Ed
          obtain ⟨⟨c0, c1, c2, c3, c4⟩, f0, f1, f2, f3, f4⟩ := hb_ff Gd.out
          go_wp2_with fail
          go_meet
          case rel => exact ⟨rfl, FIN⟩
        · -- 10 .. 10
          have DA : (dn dqs i).args.length = 1 ∧ (dn dqs i).sort = 2 := by
            obtain rfl : i = 10 := by omega
            exact ⟨rfl, rfl⟩
          have d0 : decide ((i : Int) < 2) = false := by simp; omega
          have d1 : decide ((i : Int) < 4) = false := by simp; omega
          have d2 : ((i : Int) == 4) = false := by rw [beq_eq_false_iff_ne]; omega
          have d3 : decide ((i : Int) < 8) = false := by simp; omega
          have d4 : ((i : Int) == 8) = false := by rw [beq_eq_false_iff_ne]; omega
          have d5 : ((i : Int) == 9) = false := by rw [beq_eq_false_iff_ne]; omega
          have d6 : ((i : Int) == 10) = true := by rw [beq_iff_eq]; omega
          have N0 := Lib.hid (HB.new wr 53 #[.slice none 0 0, .int .i64 0, .int .i64 0, .slice none 0 0, .int .i64 0])
          have B0 := Lib.hid (new_below wr (.cells #[.slice none 0 0, .int .i64 0, .int .i64 0, .slice none 0 0, .int .i64 0] 53))
          go_wp2_with fail
          refine (P5.out _ _).mono ?_
          rintro e wqx ⟨x, rfl, lx, ux, rfl⟩
          have sx : IntKind.i64.wrap (x - 2) = x - 2 := IntWalk.i64_in _ (by omega)
          go_wp2_with fail
          refine (kwhole_any _ _).mono ?_
          rintro e wa ⟨rfl, hba⟩
          have Na := Lib.hid (N0.out.below hba)
          have Ba := Lib.hid (below_after B0.out hba)
          clear hba
          obtain ⟨⟨c0, c1, c2, c3, c4⟩, f0, f1, f2, f3, f4⟩ := hb_ff Na.out
          have Ga := Lib.hid (hb_rest (n := .int .i64 (x - 2)) (d := .int .i64 1) (e := .slice none 0 0) (f := .int .i64 0) Na.out)
          have Fa := Lib.hid (far_rest wa wr.heap.size (.int .i64 (x - 2)) (.int .i64 1) (.slice none 0 0) (.int .i64 0))
          have Ga1 := Lib.hid (Ga.out.alloc (.cells #[.int .i64 2] 3))
          have Ba1 := Lib.hid (bw_below (Nat.le_refl _) (bw_far Ba.out (Nat.le_refl _) Fa.out) (new_below _ (.cells #[.int .i64 2] 3)))
          have R1 : Hid (HB _ wa.heap.size 3 #[.int .i64 2]) := Lib.hid (by simpa [sz_set] using HB.new (((((wa.setCell ⟨wr.heap.size, 1, none⟩ (.int .i64 (x - 2))).setCell ⟨wr.heap.size, 2, none⟩ (.int .i64 1)).setCell ⟨wr.heap.size, 3, none⟩ (.slice none 0 0)).setCell ⟨wr.heap.size, 4, none⟩ (.int .i64 0))) 3 #[.int .i64 2])
          clear Ga Fa
          go_wp2_with fail
          refine (P5.out _ _).mono ?_
          rintro e wqy ⟨y, rfl, ly, uy, rfl⟩
          have sy : IntKind.i64.wrap (y - 2) = y - 2 := IntWalk.i64_in _ (by omega)
          go_wp2_with fail
          refine (kwhole_any _ _).mono ?_
          rintro e wb ⟨rfl, hbb⟩
          have Gb := Lib.hid (Ga1.out.below hbb)
          have Bb := Lib.hid (below_after Ba1.out hbb)
          have Rb := Lib.hid (R1.out.below hbb)
          clear hbb c0 c1 c2 c3 c4 f0 f1 f2 f3 f4
          have Gd := Lib.hid (Gb.out.alloc (.cells #[.slice (some ⟨wa.heap.size, 0, none⟩) 1 1, .int .i64 (y - 2), .int .i64 1, .slice none 0 0, .int .i64 0] 57))
          have Fd := Lib.hid (far_set (wb.alloc (.cells #[.slice (some ⟨wa.heap.size, 0, none⟩) 1 1, .int .i64 (y - 2), .int .i64 1, .slice none 0 0, .int .i64 0] 57)) wr.heap.size 0 (.slice (some ⟨wb.heap.size, 0, none⟩) 1 1))
          have Kd := kp_far Gd.out (by decide) (by decide) (by decide) Fd.out
          have Rd := Lib.hid (Kd _ _ _ (.inr (.inl rfl)) (Rb.out.alloc (.cells #[.slice (some ⟨wa.heap.size, 0, none⟩) 1 1, .int .i64 (y - 2), .int .i64 1, .slice none 0 0, .int .i64 0] 57)))
          have Ed := Lib.hid (Kd _ _ _ (.inl rfl) (HB.new wb 57 #[.slice (some ⟨wa.heap.size, 0, none⟩) 1 1, .int .i64 (y - 2), .int .i64 1, .slice none 0 0, .int .i64 0]))
          have FIN : Hid (MgH wr i _) := Lib.hid ⟨⟨[⟨[2], whV (y - 2)⟩], whV (x - 2)⟩, .slice (some ⟨wb.heap.size, 0, none⟩) 1 1, .slice none 0 0, hb_row0 Gd.out, ⟨some ⟨wb.heap.size, 0, none⟩, 1, none, 0, rfl, Nat.le_refl _, by decide, rfl, Nat.le_refl _, Nat.zero_le _, fun W' k => ⟨es_one (k _ _ _ (.inl rfl) Ed.out) rfl (by decide) (is_one (k _ _ _ (.inr (.inl rfl)) Rd.out)), cs_nil _ _⟩⟩, by rw [DA.1, DA.2]; exact mgc_rows (by simp) (fun e he => by simp at he; subst he; rfl) (fun e he v hv => by simp at he; subst he; simp at hv; subst hv; decide) rfl (int_gd (by omega) (by omega)) (fun e he => by simp at he; subst he; exact int_gd (by omega) (by omega)), bw_far (below_after Bb.out (new_below wb _)) (Nat.le_refl _) Fd.out⟩
          clear Kd Ed
          obtain ⟨⟨c0, c1, c2, c3, c4⟩, f0, f1, f2, f3, f4⟩ := hb_ff Gd.out
          go_wp2_with fail
          go_meet
          case rel => exact ⟨rfl, FIN⟩
        · -- 11 .. 11
          have DA : (dn dqs i).args.length = 0 ∧ (dn dqs i).sort = 5 := by
            obtain rfl : i = 11 := by omega
            exact ⟨rfl, rfl⟩
          have d0 : decide ((i : Int) < 2) = false := by simp; omega
          have d1 : decide ((i : Int) < 4) = false := by simp; omega
          have d2 : ((i : Int) == 4) = false := by rw [beq_eq_false_iff_ne]; omega
          have d3 : decide ((i : Int) < 8) = false := by simp; omega
          have d4 : ((i : Int) == 8) = false := by rw [beq_eq_false_iff_ne]; omega
          have d5 : ((i : Int) == 9) = false := by rw [beq_eq_false_iff_ne]; omega
          have d6 : ((i : Int) == 10) = false := by rw [beq_eq_false_iff_ne]; omega
          have d7 : ((i : Int) == 11) = true := by rw [beq_iff_eq]; omega
          have N0 := Lib.hid (HB.new wr 53 #[.slice none 0 0, .int .i64 0, .int .i64 0, .slice none 0 0, .int .i64 0])
          have B0 := Lib.hid (new_below wr (.cells #[.slice none 0 0, .int .i64 0, .int .i64 0, .slice none 0 0, .int .i64 0] 53))
          go_wp2_with fail
          refine (P3.out _ _).mono ?_
          rintro e wqx ⟨x, rfl, lx, ux, rfl⟩
          have Gh := Lib.hid (HB.new wr 53 #[.slice none 0 0, .int .i64 0, .int .i64 0, .slice none 0 0, .int .i64 x])
          have Bh := Lib.hid (new_below wr (.cells #[.slice none 0 0, .int .i64 0, .int .i64 0, .slice none 0 0, .int .i64 x] 53))
          go_wp2_with fail
          refine (P3.out _ _).mono ?_
          rintro e wqy ⟨y, rfl, ly, uy, rfl⟩
          by_cases hy : y = x
          · have t1 : (y == x) = true := by simpa using hy
            have t2 : (y != x) = false := by simp [hy]
            have FIN : Hid (MgH wr i _) := Lib.hid ⟨⟨[], ⟨0, 0, [], x⟩⟩, .slice none 0 0, .slice none 0 0, Gh.out, mdk_nil _ _ rfl, by rw [DA.1, DA.2]; exact mgc_nil (arr_gd lx ux (.inl rfl)), Bh.out⟩
            clear Gh hy
            go_wp2_with fail
            go_meet
            case rel => exact ⟨rfl, FIN⟩
          · have t1 : (y == x) = false := by simpa using hy
            have t2 : (y != x) = true := by simpa using hy
            have HY := Lib.hid hy
            clear hy
            go_wp2_with fail
            refine (P3.out _ _).mono ?_
            rintro e wqz ⟨z, rfl, lz, uz, rfl⟩
            have Gd := Lib.hid ((HB.new wr 53 #[.slice none 0 0, .int .i64 0, .int .i64 0, .slice (some ⟨wr.heap.size + 1, 0, none⟩) 1 1, .int .i64 x]).alloc (.cells #[.int .i64 z, .int .i64 y] 59))
            have Ed := Lib.hid (HB.new1 wr (.cells #[.slice none 0 0, .int .i64 0, .int .i64 0, .slice (some ⟨wr.heap.size + 1, 0, none⟩) 1 1, .int .i64 x] 53) 59 #[.int .i64 z, .int .i64 y])
            have FIN : Hid (MgH wr i _) := Lib.hid ⟨⟨[], ⟨0, 0, [(z, y)], x⟩⟩, .slice none 0 0, .slice (some ⟨wr.heap.size + 1, 0, none⟩) 1 1, Gd.out, ⟨none, 0, some ⟨wr.heap.size + 1, 0, none⟩, 1, rfl, Nat.le_refl _, Nat.zero_le _, rfl, Nat.le_refl _, by decide, fun W' k => ⟨es_nil _ _, cs_one (k _ _ _ (.inr (.inr rfl)) Ed.out)⟩⟩, by rw [DA.1, DA.2]; exact mgc_nil (arr_gd lx ux (.inr ⟨z, y, rfl, lz, uz, ly, uy, HY.out⟩)), by go_grown⟩
            clear Gd Ed
            go_wp2_with fail
            go_meet
            case rel => exact ⟨rfl, FIN⟩
        · -- 12 .. 13
          have DA : (dn dqs i).args.length = 0 ∧ (dn dqs i).sort = 13 := by
            have : i = 12 ∨ i = 13 := by omega
            rcases this with rfl | rfl <;> exact ⟨rfl, rfl⟩
          have d0 : decide ((i : Int) < 2) = false := by simp; omega
          have d1 : decide ((i : Int) < 4) = false := by simp; omega
          have d2 : ((i : Int) == 4) = false := by rw [beq_eq_false_iff_ne]; omega
          have d3 : decide ((i : Int) < 8) = false := by simp; omega
          have d4 : ((i : Int) == 8) = false := by rw [beq_eq_false_iff_ne]; omega
          have d5 : ((i : Int) == 9) = false := by rw [beq_eq_false_iff_ne]; omega
          have d6 : ((i : Int) == 10) = false := by rw [beq_eq_false_iff_ne]; omega
          have d7 : ((i : Int) == 11) = false := by rw [beq_eq_false_iff_ne]; omega
          have N0 := Lib.hid (HB.new wr 53 #[.slice none 0 0, .int .i64 0, .int .i64 0, .slice none 0 0, .int .i64 0])
          have B0 := Lib.hid (new_below wr (.cells #[.slice none 0 0, .int .i64 0, .int .i64 0, .slice none 0 0, .int .i64 0] 53))
          go_wp2_with fail
          refine (P8.out _ _).mono ?_
          rintro e wqx ⟨x, rfl, lx, ux, rfl⟩
          go_wp2_with fail
          refine (kwhole_any _ _).mono ?_
          rintro e wa ⟨rfl, hba⟩
          have Na := Lib.hid (N0.out.below hba)
          have Ba := Lib.hid (below_after B0.out hba)
          clear hba
          obtain ⟨⟨c0, c1, c2, c3, c4⟩, f0, f1, f2, f3, f4⟩ := hb_ff Na.out
          have Ga := Lib.hid (hb_rest (n := .int .i64 (x)) (d := .int .i64 1) (e := .slice none 0 0) (f := .int .i64 0) Na.out)
          have Fa := Lib.hid (far_rest wa wr.heap.size (.int .i64 (x)) (.int .i64 1) (.slice none 0 0) (.int .i64 0))
          have FIN : Hid (MgH wr i _) := Lib.hid ⟨⟨[], whV x⟩, .slice none 0 0, .slice none 0 0, Ga.out, mdk_nil _ _ rfl, by rw [DA.1, DA.2]; exact mgc_nil (wd_gd lx ux), bw_far Ba.out (Nat.le_refl _) Fa.out⟩
          clear Ga Fa
          go_wp2_with fail
          go_meet
          case rel => exact ⟨rfl, FIN⟩
      case rest =>
        obtain ⟨rfl, HM⟩ := hcut
        obtain ⟨m, sr, sc, hm1, hm2, hm3, hm4⟩ := HM.out
        have M1 := Lib.hid hm1
        have M2 := Lib.hid hm2
        have M3 := Lib.hid hm3
        have I1 := Lib.hid (HI.out.below hm4)
        clear hm1 hm2 hm3 hm4 HM
        obtain ⟨v0, vf0⟩ := I1.out.v.one
        obtain ⟨y0, y1, y2, y3, y4⟩ := M1.out.five
        obtain ⟨Av, vc, hsv⟩ := own_val I1.out.o
        rw [HPL.out] at hsv
        subst hsv
        have B3 := Lib.hid (new_below wc (.cells #[sr, .int .i64 m.rest.num, .int .i64 m.rest.den, sc, .int .i64 m.rest.rest] 53))
        have I3 := Lib.hid (I1.out.below B3.out)
        have K3 := Lib.hid (M2.out.mono (kp_below B3.out))
        have O3 := Lib.hid I3.out.o
        rw [HPL.out] at O3
        obtain ⟨Ar, cr, Ac, cc, es, _, _, ec, _⟩ := M2.out
        have hlen : ps.length ≤ 14 := by rw [HPL.out]; exact hi
        have ES := Lib.hid es
        have EC := Lib.hid ec
        subst es ec
        go_wp2_with (at_builtin; refine wpl_app2 34 53 Try.underlying34 (.agg #[.slice none 0 0, .int .i64 0, .int .i64 0, .slice none 0 0, .int .i64 0]) 5 72 infoMeaning rfl (by decide) rfl _ _ rfl w.heap.size (.slice Av i vc) i (ps.flatMap mgV) rfl O3.out wc.heap.size #[.slice Ar m.rows.length cr, .int .i64 m.rest.num, .int .i64 m.rest.den, .slice Ac m.rest.cells.length cc, .int .i64 m.rest.rest] rfl (HB.new _ _ _) rfl (by simp [Value.oneCell']) (by omega) (by unfold maxLen; omega) I3.out.b.size ?_)
        intro g8 cap8 w8 hown8 hkp8 hbw8 _
        have I9 : Hid (WoI w (.slice (some ⟨g8, 0, none⟩) (i + 1) cap8) (ps ++ [(m, .slice Ar m.rows.length cr, .slice Ac m.rest.cells.length cc)]) (w8.setCell ⟨w.heap.size + 1, 0, none⟩ (.slice (some ⟨g8, 0, none⟩) (i + 1) cap8))) := Lib.hid (wo_app (p := (m, .slice Ar m.rows.length cr, .slice Ac m.rest.cells.length cc)) I3.out K3.out (by rw [HPL.out]; exact M3.out) (by rw [HPL.out]; exact hown8.out) hkp8 hbw8)
        have V8 : HB w8 (w.heap.size + 1) 36 #[.slice Av i vc] := hkp8 _ _ _ (own_ne O3.out I3.out.v (by decide)) I3.out.v
        obtain ⟨z0, zf0⟩ := V8.one
        have HL9 : Hid ((ps ++ [(m, (Value.slice Ar m.rows.length cr), (Value.slice Ac m.rest.cells.length cc))]).length = i + 1) := Lib.hid (by rw [List.length_append, HPL.out]; rfl)
        clear hkp8 hbw8 hown8 V8 v0 vf0 y0 y1 y2 y3 y4
        go_wp2_with fail
        go_round
        case rel => exact ⟨i + 1, _, _, by omega, by go_num, HL9, I9⟩
        case measure => simp [intOf]; omega
    · obtain rfl : i = 14 := by omega
      have t3 : decide (((14 : Nat) : Int) < 14) = false := by decide
      obtain ⟨Av, vc, hsv⟩ := own_val HI.out.o
      rw [HPL.out] at hsv
      subst hsv
      obtain ⟨v0, vf0⟩ := HI.out.v.one
      obtain ⟨r0, rf0⟩ := HI.out.r.one
      have F9 := Lib.hid (far_set wr w.heap.size 0 (.slice Av 14 vc))
      have R9 := Lib.hid (hb_set1 (n := .slice Av 14 vc) HI.out.r)
      have B9 := Lib.hid (bw_far HI.out.b (Nat.le_refl _) F9.out)
      have K9 := kp_far HI.out.r (by decide) (by decide) (by decide) F9.out
      have OW9 := Lib.hid (own_far HI.out.o (own_ne HI.out.o HI.out.r (by decide)) F9.out)
      have MD9 : Hid (∀ p ∈ ps, MdK (wr.setCell ⟨w.heap.size, 0, none⟩ (.slice Av 14 vc)) p.1 p.2.1 p.2.2) := Lib.hid (fun p hp => (HI.out.m p hp).mono K9)
      have HG : Hid (∀ i p, ps[i]? = some p → mgC (dn dqs i).args.length (dn dqs i).sort p.1 = 0) := Lib.hid HI.out.g
      obtain ⟨hv1, hv2⟩ := own_cap2 (own_re' HI.out.o HPL.out)
      have FIN := Lib.hid (HQ0.out (.returned (.agg #[.slice Av 14 vc])) _ ⟨Av, vc, ps, rfl, HPL, hv1, hv2, OW9, MD9, HG, B9.out⟩)
      clear K9 OW9 MD9
      obtain ⟨x0, _⟩ := R9.out.one
      clear F9 B9 R9 hv1 hv2
      go_wp2_with fail
      exact bodyPost_ret (v := .agg #[.slice Av 14 vc]) (by simp [results, Try.results8, go_sem, x0]) rfl FIN.out
/-- A world that is made. -/
def WorldQ (w : World) (e : Ending) (w' : World) : Prop := ∃ (Am : Option Addr) (mc : Nat) (ms : List Mg), e = .returned (.agg #[.slice Am 14 mc]) ∧ ms.length = 14 ∧ 14 ≤ mc ∧ mc ≤ maxLen ∧ Hid (MsAt w' Am ms) ∧ Hid (∀ i, i < 14 → mcF dqs ms i = 0) ∧ Hid (∀ q ∈ ms, q.wf) ∧ Below w.heap.size w w'
theorem worldof_any (zs : List Int) (A : Option Addr) (c : Nat) (hl : zs.length ≤ maxLen) (w : World) (h : Is w A zs) :
    Calls Try.prog 8 #[.slice A zs.length c] w (WorldQ w) :=
  (worldof_own zs A c hl w h).mono fun e w' ⟨Am, mc, ps, h1, h2, h3, h4, h5, h6, h7, h8⟩ =>
    ⟨Am, mc, ps.map (·.1), h1, by rw [List.length_map, h2.out], h3, h4, Lib.hid (wo_ms' h5.out h6.out h2.out), Lib.hid (wo_good h2.out h7.out), Lib.hid (wo_wf h7.out), h8⟩
end Go.Proofs.Ytibpgcdaommjeaa
