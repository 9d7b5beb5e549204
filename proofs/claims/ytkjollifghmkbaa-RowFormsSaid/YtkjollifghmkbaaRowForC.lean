/-
  The reference's plainest form of a row.
-/
import Derived.Test.YtkjollifghmkbaaRowForA
import Derived.Test.YtkjollifghmkbaaRowForB
namespace Go.Proofs.Ytkjollifghmkbaa
open Go.RowKit

theorem tdiv_pos_of {x g : Int} (hg : 1 ≤ g) (hd : g ∣ x) : (0 < x → 0 < x.tdiv g) ∧ (x < 0 → x.tdiv g < 0) := by
  obtain ⟨q, rfl⟩ := hd
  rw [Int.mul_tdiv_cancel_left _ (by omega)]
  constructor
  · intro h
    rcases Int.lt_or_le 0 q with k | k
    · exact k
    · have := Int.mul_nonneg (show 0 ≤ g by omega) (show 0 ≤ -q by omega)
      rw [Int.mul_neg] at this
      omega
  · intro h
    rcases Int.lt_or_le q 0 with k | k
    · exact k
    · have := Int.mul_nonneg (show 0 ≤ g by omega) k
      omega
theorem sgn_up (g : Int) (hg : 1 ≤ g) (ys : List Int) (hd : ∀ x ∈ ys, g ∣ x) : sgnL ys = if upN (ys.map (·.tdiv g)) = true then -1 else 1 := by
  induction ys with
  | nil => rfl
  | cons x r ih =>
    obtain ⟨p1, p2⟩ := tdiv_pos_of hg (hd x (by simp))
    have ih := ih (fun y hy => hd y (by simp [hy]))
    rw [List.map_cons]
    unfold sgnL upN
    by_cases h1 : 0 < x
    · have := p1 h1
      rw [if_pos h1, if_pos this]; rfl
    · by_cases h2 : x < 0
      · have := p2 h2
        have n1 : ¬ 0 < x.tdiv g := by omega
        rw [if_neg h1, if_pos h2, if_neg n1, if_pos this]; rfl
      · obtain rfl : x = 0 := by omega
        have n1 : ¬ (0 : Int) < 0 := by omega
        have n2 : ¬ (0 : Int) < 0 := by omega
        rw [if_neg h1, if_neg h2, Int.zero_tdiv, if_neg n1, if_neg n2]
        exact ih
/-- Divided with a sign, or divided and then turned: the same. -/
theorem by_up (kind tt : Int) (xs : List Int) (g s : Int) (hg : 1 ≤ g) (hd : ∀ j, j < rK xs → g ∣ nth xs j) (ht : kind = 3 → g ∣ tt) (hs : s = if kind = 3 then sgnL (xs.take (rK xs)) else 1) :
    byL s (xs.take (rK xs)) g = upL kind (quotL xs g) ∧ (s * tt) / g = upT kind (quotL xs g) (tt / g) := by
  have hd' : ∀ x ∈ xs.take (rK xs), g ∣ x := by
    intro x hx
    obtain ⟨j, hj, rfl⟩ := List.getElem_of_mem hx
    have hl : (xs.take (rK xs)).length = rK xs := by rw [List.length_take]; have := rK_le xs; omega
    have := hd j (by omega)
    rw [← nth_take (xs := xs) (show j < rK xs by omega)] at this
    have e : nth (xs.take (rK xs)) j = (xs.take (rK xs))[j] := by unfold nth; rw [List.getD_eq_getElem?_getD, List.getElem?_eq_getElem hj]; rfl
    rw [← e]; exact this
  unfold upL upT byL
  by_cases hk : kind = 3
  · rw [if_pos hk] at hs
    have e := sgn_up g hg _ hd'
    rw [← hs] at e
    change s = if upN (quotL xs g) = true then -1 else 1 at e
    by_cases hu : upN (quotL xs g) = true
    · rw [if_pos hu] at e
      subst e
      rw [if_pos ⟨hk, hu⟩, if_pos ⟨hk, hu⟩]
      constructor
      · unfold negL quotL
        rw [List.map_map]
        apply List.map_congr_left
        intro x _
        show (-1 * x).tdiv g = -(x.tdiv g)
        rw [Int.neg_one_mul, Int.neg_tdiv]
      · rw [Int.neg_one_mul, Int.neg_ediv_of_dvd (ht hk)]
    · rw [if_neg hu] at e
      subst e
      rw [if_neg (fun z => hu z.2), if_neg (fun z => hu z.2)]
      constructor
      · unfold quotL
        apply List.map_congr_left
        intro x _
        rw [Int.one_mul]
      · rw [Int.one_mul]
  · rw [if_neg hk] at hs
    subst hs
    rw [if_neg (fun z => hk z.1), if_neg (fun z => hk z.1)]
    constructor
    · unfold quotL
      apply List.map_congr_left
      intro x _
      rw [Int.one_mul]
    · rw [Int.one_mul]

theorem bare_b (A : Option Addr) (xs : List Int) (L c : Nat) (hL : L = xs.length) (hc : L ≤ c) (hb : L ≤ 1073741824) (w : World) (h : Is w A xs) :
    Calls Try.prog 50 #[.slice A L c] w fun e w' => e = .returned (.slice A (rK xs) c) ∧ Below w.heap.size w w' := by
  subst hL
  refine (barelist_any A xs _ c rfl hc hb w h).mono ?_
  rintro e w' ⟨rfl, n, rfl⟩
  exact ⟨rfl, below_drewN (Below.refl _ _) n⟩
theorem row_blocks {w w1 : World} {v1 v2 v3 : Value} (hb : Below ((w.alloc (.cells #[v1, v2, v3] 24)).alloc (.cells #[.slice none 0 0, .int .i64 0, .int .i64 0] 24)).heap.size ((w.alloc (.cells #[v1, v2, v3] 24)).alloc (.cells #[.slice none 0 0, .int .i64 0, .int .i64 0] 24)) w1) :
    HB w1 w.heap.size 24 #[v1, v2, v3] ∧ HB w1 (w.heap.size + 1) 24 #[.slice none 0 0, .int .i64 0, .int .i64 0] ∧ w.heap.size + 2 ≤ w1.heap.size ∧ Below w.heap.size w w1 := by
  have a1 := ((HB.new w 24 #[v1, v2, v3]).alloc (.cells #[.slice none 0 0, .int .i64 0, .int .i64 0] 24)).below hb
  have a2 := (HB.new1 w (.cells #[v1, v2, v3] 24) 24 #[.slice none 0 0, .int .i64 0, .int .i64 0]).below hb
  have hs := hb.size
  simp at hs
  exact ⟨a1, a2, by omega, below_after (by go_grown) hb⟩
theorem is_nil (w : World) (A : Option Addr) : Is w A [] := fun z => absurd z (by simp)
/-- An append of a list of whole numbers to nothing. -/
theorem step_ints {w : World} {ops : Array Oper} {o : Oper} {a : Act} {K : Act → World → Prop} {Q : Exit → Act → World → Prop} {E : Prop} (hgd : o.guard = none) (s x : Operand)
    (ho : o.op = .call { callee := .builtin .append, args := #[s, x], argTypes := #[22, 22] })
    (base : Nat) (hs : a.eval s = .slice none 0 0) (A : Option Addr) (zs : List Int) (r c : Nat) (hx : a.eval x = .slice A r c) (hr : r = zs.length) (h0 : 0 < r) (hr2 : r ≤ 12) (hA : Is w A zs) (hbase : base ≤ w.heap.size)
    (h : ∀ g cap w', Hid (w'.ownsRow base 3 1 (.slice (some ⟨g, 0, none⟩) r cap) r (intsV (nth zs) r)) → (∀ g t cs, HB w g t cs → HB w' g t cs) → (∀ W, Below base W w → Below base W w') → K (a.put o.dst (.slice (some ⟨g, 0, none⟩) r cap)) w') :
    if Region.wanted o (yielded ops a.tmps) = true then Oper.wp Try.prog o a w K Q else E := by
  obtain ⟨i0, hi0, hz0, hz1, hz2⟩ := info_parts int_info
  obtain ⟨b, of, rfl, hlt, hf⟩ := hA (by omega)
  have hown := own_nil w base 3
  have hnews : ∀ j u, (intsV (nth zs) r)[j]? = some u → w.cell? ((⟨b, of, none⟩ : Addr).add j) = some u := by
    intro j u hu
    have hj : j < r := by
      rcases Nat.lt_or_ge j r with k | k
      · exact k
      · rw [List.getElem?_eq_none (by simp [intsV]; omega)] at hu; cases hu
    have e1 : (intsV (nth zs) r)[j]? = some (.int .i64 (nth zs j)) := by simp [intsV, hj]
    rw [e1] at hu
    have hadd : (⟨b, of, none⟩ : Addr).add j = ⟨b, of + j, none⟩ := by unfold Addr.add; split <;> simp_all
    rw [hadd, hf j (by omega), hu]
  refine step_append_lies w hgd s x 22 ho base 3 i0 (.int .i64 0) 1 8 Try.underlying22 hi0 hz0 hz1 hz2 rfl (by omega) (.slice none 0 0) 0 [] hs hown ⟨b, of, none⟩ r c (intsV (nth zs) r) hx (by simp [intsV]) hnews (by intro u hu; simp only [intsV, List.mem_map] at hu; obtain ⟨j, _, rfl⟩ := hu; rfl) h0 (by unfold maxLen; omega) (by omega) hbase _ rfl ?_
  intro g cap w' hown' hg _ _
  rw [Nat.zero_add, List.nil_append] at hown'
  rw [Nat.zero_add]
  refine h g cap w' (Lib.hid hown') (fun g t cs hb => hb.grown hg (by simp [Value.ownBlock])) (fun W hW => ?_)
  refine hW.grown hg hbase (fun j hj => ?_)
  simp [Value.ownBlock] at hj
theorem nth_snoc {zs : List Int} {t : Int} {r : Nat} (hr : r = zs.length) : (∀ j, j < r → nth (zs ++ [t]) j = nth zs j) ∧ nth (zs ++ [t]) r = t := by
  subst hr
  constructor
  · intro j hj
    simp [nth, List.getD, List.getElem?_append_left hj]
  · simp [nth, List.getD]
theorem own_snoc {w : World} {base c : Nat} {A : Option Addr} {zs : List Int} {t : Int} {r : Nat} (hr : r = zs.length) (h : w.ownsRow base 3 1 (.slice A (r + 1) c) (r + 1) (intsV (nth zs) r ++ [.int .i64 t])) : Is w A (zs ++ [t]) := by
  obtain ⟨n1, n2⟩ := nth_snoc (t := t) hr
  have e : intsV (nth zs) r ++ [.int .i64 t] = intsV (nth (zs ++ [t])) (r + 1) := by
    rw [intsV_succ, n2]
    congr 1
    unfold intsV
    apply List.map_congr_left
    intro j hj
    rw [n1 j (by simpa using hj)]
  rw [e] at h
  exact own_is h (by simp [hr]) (fun _ _ => rfl)
set_option maxRecDepth 100000 in
set_option maxHeartbeats 30000000 in
theorem rtidy_any (A : Option Addr) (xs : List Int) (L c : Nat) (kind tt : Int) (hL : L = xs.length) (hc : L ≤ c) (w : World) (h : Is w A xs) (h0 : chkC kind tt xs 12 = 0) :
    Calls Try.prog 24 #[.agg #[.slice A L c, .int .i64 kind, .int .i64 tt]] w (GivesL (tidyL kind tt xs) kind (tidyT kind tt xs) w) := by
  obtain ⟨hy, _, _, hk, hle, hbad, hin⟩ := chk_zero h0
  have hall := bad_all hbad
  have l12 : L ≤ 12 := by omega
  by_cases hz : rK xs = 0
  · have e1 : tidyL kind tt xs = [] := by unfold tidyL; rw [if_pos hz]
    have e2 : tidyT kind tt xs = bareT kind tt := by unfold tidyT; rw [if_pos hz]
    rw [e1, e2]
    have HX := Lib.hid h
    have HL := Lib.hid hL
    have HK := Lib.hid hk
    have HZ := Lib.hid hz
    clear hy hk hle hbad hin hall h hL hz e1 e2 h0
    go_enter Try.func24, Try.ntmps24
    go_wp2_with fail
    refine (bare_b A xs L c HL.out hc (by omega) _ (HX.out.below (by go_grown))).mono ?_
    rw [HZ.out]
    rintro e w1 ⟨rfl, hb1⟩
    obtain ⟨a1, a2, lz, g1⟩ := row_blocks hb1
    obtain ⟨u0, u1, u2, u3, u4, u5⟩ := HB.row' a1
    obtain ⟨x0, x1, x2, x3, x4, x5⟩ := HB.row' a2
    have l0 : w.heap.size < w1.heap.size := by omega
    have l1 : w.heap.size + 1 < w1.heap.size := by omega
    have A2 := Lib.hid a2
    have G1 := Lib.hid g1
    clear a1 a2 g1 hb1
    go_wp2_with fail
    refine (none_any kind tt HK.out _).mono ?_
    rintro e w2 ⟨rfl, hb2⟩
    have a2 := A2.out.below hb2
    obtain ⟨y0, y1, y2, y3, y4, y5⟩ := HB.row' a2
    have l2 := a2.lt
    have G2 : Hid (Below w.heap.size w w2) := bw_below (by omega) G1.out hb2
    clear x0 x1 x2 x3 x4 x5 u0 u1 u2 u3 u4 u5 hb2 a2
    go_wp2
    refine bodyPost_ret (v := .agg #[.slice none 0 0, .int .i64 kind, .int .i64 (bareT kind tt)]) (by simp [results, Try.results24, go_sem, y0, y1, y2]) rfl ⟨none, 0, rfl, Nat.le_refl _, isb_nil _ _ _, ?_⟩
    exact bw_far (g := w.heap.size + 1) G2.out (by omega) (far3 w2 _ _ _ _)
  · have hp : 0 < rK xs := by omega
    have hd := tidyG_dvd tt xs
    have hdt := tidyG_dvdt tt xs
    have hg := tidyG_pos tt xs hp
    have hrle := rK_le xs
    obtain ⟨s, hs⟩ : ∃ s, s = if kind = 3 then sgnL (xs.take (rK xs)) else 1 := ⟨_, rfl⟩
    obtain ⟨m1, m2⟩ := by_up kind tt xs (tidyG tt xs) s (by omega) hd (fun _ => hdt) hs
    rw [← Int.tdiv_eq_ediv_of_dvd hdt] at m2
    rw [tidyL_pos kind tt hz, tidyT_pos kind tt hz, ← m1, ← m2]
    have hzl : rK xs = (xs.take (rK xs)).length := by rw [List.length_take]; omega
    obtain ⟨n1, n2⟩ := nth_snoc (t := tt) hzl
    have hgc : (tidyG tt xs : Nat) = gcdK (xs.take (rK xs) ++ [tt]) (rK xs + 1) := by
      rw [gcdK, n2, gcdK_congr _ xs _ (fun j hj => by rw [n1 j hj, nth_take hj])]
      rfl
    have hib : ∀ i, i < rK xs → inB (nth (xs.take (rK xs)) i) = true := fun i hi => by rw [nth_take hi]; exact hall i (by omega)
    have hib2 : ∀ i, i < rK xs + 1 → inB (nth (xs.take (rK xs) ++ [tt]) i) = true := fun i hi => by
      rcases Nat.lt_or_ge i (rK xs) with k | k
      · rw [n1 i k]; exact hib i k
      · obtain rfl : i = rK xs := by omega
        rw [n2]; exact hin
    have hgle : tidyG tt xs ≤ 1000000 := by rw [hgc]; exact gcdK_le _ _ hib2
    have hxt : Is w A (xs.take (rK xs)) := is_take h _
    obtain ⟨i1, i2⟩ := inB_iff.1 hin
    have hs3 : (kind != 3) = true ∧ s = 1 ∨ (kind != 3) = false ∧ s = sgnL (xs.take (rK xs)) := by
      by_cases k : kind = 3
      · rw [if_pos k] at hs
        exact .inr ⟨by simp [k], hs⟩
      · rw [if_neg k] at hs
        exact .inl ⟨by simpa using k, hs⟩
    have hl2 : rK xs + 1 = (xs.take (rK xs) ++ [tt]).length := by rw [List.length_append, ← hzl]; rfl
    have HBa : Hid (∀ w, Is w A xs → Calls Try.prog 50 #[.slice A L c] w fun e w' => e = .returned (.slice A (rK xs) c) ∧ Below w.heap.size w w') := fun w hx => bare_b A xs L c hL hc (by omega) w hx
    generalize rK xs = r at *
    generalize xs.take r = zs at *
    generalize tidyG tt xs = g at *
    have g1 : (1 : Int) ≤ g := by omega
    have g2 : (g : Int) ≤ 1000000 := by omega
    have hby := fun (w : World) (hw : Is w A zs) => rowby_any A zs r c kind tt g s hzl (by omega) (by omega) g1 g2 (by omega) i2 hib hs3 w hw
    have HBY := Lib.hid hby
    have hcm := fun (w : World) (A : Option Addr) (c : Nat) (hw : Is w A (zs ++ [tt])) => common_any A (zs ++ [tt]) (r + 1) c hl2 (by omega) hib2 w hw
    rw [← hgc] at hcm
    have hcm2 := fun (w : World) (A : Option Addr) (c : Nat) (hw : Is w A (zs ++ [tt])) => (hcm w A c hw).mono (fun e w' h => (⟨h.1, by obtain ⟨_, n, e⟩ := h; rw [e]; exact below_drewN (Below.refl _ _) n⟩ : e = _ ∧ Below w.heap.size w w'))
    have HCM := Lib.hid hcm2
    have HZL := Lib.hid hzl
    have HX := Lib.hid h
    have HXT := Lib.hid hxt
    have r0 : ((r : Int) == 0) = false := by simp; omega
    have r12 : r ≤ 12 := by omega
    have rc : r ≤ c := by omega
    clear hcm2 hy hk hle hbad hall h h0 m1 m2 hd hdt hs hs3 hib hib2 n1 n2 hgc hzl hl2 hby hcm hxt hz hin hL
    go_enter Try.func24, Try.ntmps24
    go_wp2_with fail
    refine (HBa.out _ (HX.out.below (by go_grown))).mono ?_
    rintro e w1 ⟨rfl, hb1⟩
    obtain ⟨a1, a2, lz, g1⟩ := row_blocks hb1
    obtain ⟨u0, u1, u2, u3, u4, u5⟩ := HB.row' a1
    obtain ⟨x0, x1, x2, x3, x4, x5⟩ := HB.row' a2
    have l0 : w.heap.size < w1.heap.size := by omega
    have l1 : w.heap.size + 1 < w1.heap.size := by omega
    have A1 := Lib.hid a1
    have A2 := Lib.hid a2
    have G1 := Lib.hid g1
    have HX1 : Hid (Is w1 A zs) := HXT.out.below g1
    clear a1 a2 g1 hb1
    go_wp2_with fail
    go_region_law (first
      | (refine step_ints rfl _ _ rfl w.heap.size rfl A zs r c rfl HZL.out (by omega) r12 ?_ ?_ ?_; (exact HX1.out.below (by go_grown)); (have := G1.out.size; simp; omega); intro g4 cap4 w4 hown4 hkp4 hb4; have F4 := Lib.hid (hkp4 _ _ _ (A1.out.below (by go_grown))); have N4 := Lib.hid (hkp4 _ _ _ (A2.out.below (by go_grown))); have G4 := Lib.hid (hb4 _ (below_after G1.out (by go_grown))); (first | (have FB := Lib.hid (hkp4 _ _ _ (HB.drew (HB.new w1 3 #[.int .i64 tt])))) | (have FB := Lib.hid (hkp4 _ _ _ (HB.new w1.drew 3 #[.int .i64 tt]))) | skip); obtain ⟨y0, y1, y2, y3, y4, y5⟩ := HB.row' F4.out; have l4 := F4.out.lt)
      | (refine step_int rfl _ _ rfl w.heap.size (.slice (some ⟨g4, 0, none⟩) r cap4) r (intsV (nth zs) r) rfl ?_ _ (.int .i64 tt) rfl ?_ rfl (by omega) ?_ ?_; (first | (exact hown4.out) | (exact hown4.out.alloc _)); (first | (exact FB.out) | (exact HB.new _ _ _)); (have := G4.out.size; simp; omega); intro g5 cap5 w5 hown5 hkp5 hb5; have F5 := Lib.hid (hkp5.hb (by decide) (F4.out.below (by go_grown))); have N5 := Lib.hid (hkp5.hb (by decide) (N4.out.below (by go_grown))); have G5 := Lib.hid (hb5 _ (below_after G4.out (by go_grown)))))
    all_goals
      have I5 : Hid (Is w5 (some ⟨g5, 0, none⟩) (zs ++ [tt])) := own_snoc HZL.out hown5.out
      have X5 : Hid (Is w5 A zs) := HXT.out.below G5.out
      have l5 := N5.out.lt
      clear hown5 hkp5 hb5 hown4 hkp4 hb4 y0 y1 y2 y3 y4 y5 u0 u1 u2 u3 u4 u5 x0 x1 x2 x3 x4 x5
      try clear FB
      clear F4 N4 G4 A1 A2 G1 HX1 l4
      go_wp2_with fail
      go_region_held3 (fun w' => HB w' w.heap.size 24 #[.slice A L c, .int .i64 kind, .int .i64 tt] ∧ w'.cell? ⟨w.heap.size, 0, none⟩ = some (.slice A L c) ∧ w'.cell? ⟨w.heap.size, 1, none⟩ = some (.int .i64 kind) ∧ w'.cell? ⟨w.heap.size, 2, none⟩ = some (.int .i64 tt))
        ((refine HB.row ?_; first | (with_reducible exact F7.out) | (with_reducible exact F6.out) | (with_reducible exact F5.out.drew) | (with_reducible exact HB.far (HB.far (HB.far F7.out (by simp) _) (by simp) _) (by simp) _)))
        (first
          | (go_at_call 52; refine (HCM.out _ (some ⟨g5, 0, none⟩) cap5 I5.out.drew).mono ?_; rintro e w6 ⟨rfl, hb6⟩; have F6 := Lib.hid (F5.out.drew.below hb6); have N6 := Lib.hid (N5.out.drew.below hb6); have G6 := Lib.hid (bw_below (Nat.le_refl _) G5.out.drew hb6); have X6 := Lib.hid (X5.out.drew.below hb6); clear hb6)
          | (go_at_call 53; refine (HBY.out _ X6.out).mono ?_; rintro e w7 ⟨A7, c7, rfl, hl7, hi7, hb7⟩; have HL7 := Lib.hid hl7; have HI7 := Lib.hid hi7; have LW7 := Lib.hid N6.out.lt; have F7 := Lib.hid (F6.out.below hb7); have N7 := N6.out.below hb7; have G7 := Lib.hid (bw_below (Nat.le_refl _) G6.out hb7); obtain ⟨y0, y1, y2, y3, y4, y5⟩ := HB.row' N7; have l7 := N7.lt; clear hb7 hl7 hi7 N7))
      all_goals
        go_wp2
        refine bodyPost_ret (v := .agg #[.slice A7 (byL s zs g).length c7, .int .i64 kind, .int .i64 (s * tt / g)]) (by simp [results, Try.results24, go_sem, y0, y1, y2]) rfl ⟨A7, c7, rfl, HL7.out, ?_, ?_⟩
        · have lz := LW7.out
          exact Isb.mono (HI7.out.far_ (g := w.heap.size + 1) (by omega) (far3 w7 _ _ _ _)) (by omega)
        · exact bw_far (g := w.heap.size + 1) G7.out (by omega) (far3 w7 _ _ _ _)
end Go.Proofs.Ytkjollifghmkbaa
