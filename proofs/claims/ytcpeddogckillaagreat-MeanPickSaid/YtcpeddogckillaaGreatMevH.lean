/-
  Values of nodes: the last Bools of an ask, more nodes behind an ask, and their values.
-/
import Derived.Test.YtcpeddogckillaaGreatMevG
namespace Go.Proofs.YtcpeddogckillaaGreat
open Go.RowKit

theorem flatk_get {α : Type} {f : α → List Value} {k : Nat} (hf : ∀ p, (f p).length = k) {ps : List α} : ∀ {i j : Nat} {p : α}, ps[i]? = some p → j < k → (ps.flatMap f)[i * k + j]? = (f p)[j]? := by
  induction ps with
  | nil => intro i j p h; cases h
  | cons q ps ih =>
    intro i j p h hj
    rw [List.flatMap_cons]
    cases i with
    | zero =>
      simp at h
      subst h
      rw [Nat.zero_mul, Nat.zero_add, List.getElem?_append_left (by rw [hf]; exact hj)]
    | succ i =>
      simp at h
      have e : (i + 1) * k + j = k + (i * k + j) := by rw [Nat.succ_mul]; omega
      rw [e, List.getElem?_append_right (by rw [hf]; omega), hf, show k + (i * k + j) - k = i * k + j by omega]
      exact ih h hj
theorem flatk_at {α : Type} {f : α → List Value} {k : Nat} (hf : ∀ p, (f p).length = k) {ps : List α} : ∀ {j : Nat} {u : Value}, (ps.flatMap f)[j]? = some u → ∃ (i : Nat) (p : α) (r : Nat), ps[i]? = some p ∧ r < k ∧ j = i * k + r ∧ (f p)[r]? = some u := by
  induction ps with
  | nil => intro j u h; cases h
  | cons q ps ih =>
    intro j u h
    rw [List.flatMap_cons] at h
    rcases Nat.lt_or_ge j k with z | z
    · rw [List.getElem?_append_left (by rw [hf]; exact z)] at h
      exact ⟨0, q, j, rfl, z, by omega, h⟩
    · rw [List.getElem?_append_right (by rw [hf]; exact z), hf] at h
      obtain ⟨i, p, r, h1, h2, h3, h4⟩ := ih h
      exact ⟨i + 1, p, r, h1, h2, by rw [Nat.succ_mul]; omega, h4⟩
theorem flatk_len {α : Type} {f : α → List Value} {k : Nat} (hf : ∀ p, (f p).length = k) (ps : List α) : (ps.flatMap f).length = ps.length * k := by
  induction ps with
  | nil => simp
  | cons q ps ih => rw [List.flatMap_cons, List.length_append, hf, ih, List.length_cons, Nat.succ_mul]; omega
theorem ndV_len (p : Nd × Value) : (ndV p).length = 5 := rfl
/-- What a node's slice leads to. -/
def KdA (w : World) (p : Nd × Value) : Prop := p.1.name.size ≤ maxLen ∧ ∃ A c, p.2 = .slice A p.1.kids.length c ∧ p.1.kids.length ≤ c ∧ c ≤ maxLen ∧ Is w A p.1.kids
theorem KdA.below {w w' : World} {p : Nd × Value} (h : KdA w p) (k : Below w.heap.size w w') : KdA w' p := by
  obtain ⟨h1, A, c, h2, h3, h4, h5⟩ := h
  exact ⟨h1, A, c, h2, h3, h4, h5.below k⟩
theorem ns_vals {w : World} {A : Option Addr} {ns : List Nd} (h : NsAt w A ns) : ∃ ps : List (Nd × Value), ps.map (·.1) = ns ∧ (∀ p ∈ ps, KdA w p) ∧ (0 < ns.length → ∃ ad, A = some ad ∧ ∀ W, Below w.heap.size w W → ∀ j u, (ps.flatMap ndV)[j]? = some u → W.cell? (ad.add j) = some u) := by
  rcases Nat.eq_zero_or_pos ns.length with h0 | h0
  · exact ⟨[], by rw [List.eq_nil_of_length_eq_zero h0]; rfl, fun p hp => absurd hp (by simp), fun z => by omega⟩
  · obtain ⟨b, o, rfl, lb, hq⟩ := h h0
    have each : ∀ i, i < ns.length → ∃ v : Value, KdA w (nn ns i, v) ∧ w.cell? ⟨b, o + i * 5 + 1, none⟩ = some v := fun i hi => by
      obtain ⟨c0, c2, c3, c4, hs, A, c, c1, k1, k2, k3⟩ := hq i _ (nn_of hi)
      exact ⟨_, ⟨hs, A, c, rfl, k1, k2, k3⟩, c1⟩
    obtain ⟨G, hG⟩ := Go.Deep.choose_lt each
    refine ⟨(List.range ns.length).map fun i => (nn ns i, G i), ?_, fun p hp => ?_, fun _ => ⟨⟨b, o, none⟩, rfl, fun W kW j u hu => ?_⟩⟩
    · apply List.ext_getElem?
      intro i
      rw [List.map_map, List.getElem?_map]
      rcases Nat.lt_or_ge i ns.length with z | z
      · rw [List.getElem?_range z, nn_of z]
        rfl
      · rw [List.getElem?_eq_none (by simpa using z), List.getElem?_eq_none z]
        rfl
    · obtain ⟨i, hi, rfl⟩ := List.mem_map.1 hp
      exact (hG i (List.mem_range.1 hi)).1
    · obtain ⟨i, p, r, h1, h2, rfl, h4⟩ := flatk_at ndV_len hu
      rw [List.getElem?_map] at h1
      obtain ⟨i', hi', rfl⟩ := Option.map_eq_some_iff.1 h1
      have hi : i < ns.length := by
        rcases Nat.lt_or_ge i ns.length with z | z
        · exact z
        · rw [List.getElem?_eq_none (by simpa using z)] at hi'; cases hi'
      rw [List.getElem?_range hi] at hi'
      injection hi' with hi'
      subst hi'
      obtain ⟨c0, c2, c3, c4, _⟩ := hq i _ (nn_of hi)
      have c1 := (hG i hi).2
      rw [Go.WideShapes.add_plain, show o + (i * 5 + r) = o + i * 5 + r by omega]
      refine (kW.cell (p := ⟨b, o + i * 5 + r, none⟩) lb).trans ?_
      match r, h2, h4 with
      | 0, _, h4 => injection h4 with h4; subst h4; exact c0
      | 1, _, h4 => injection h4 with h4; subst h4; exact c1
      | 2, _, h4 => injection h4 with h4; subst h4; exact c2
      | 3, _, h4 => injection h4 with h4; subst h4; exact c3
      | 4, _, h4 => injection h4 with h4; subst h4; exact c4
theorem ndV_one (ps : List (Nd × Value)) (w : World) (h : ∀ p ∈ ps, KdA w p) : ∀ u ∈ ps.flatMap ndV, u.oneCell' = true := by
  intro u hu
  obtain ⟨p, hp, hup⟩ := List.mem_flatMap.1 hu
  obtain ⟨_, A, c, h2, _⟩ := h p hp
  unfold ndV at hup
  rw [h2] at hup
  simp at hup
  rcases hup with rfl | rfl | rfl | rfl | rfl <;> rfl
/-- A row of nodes of the call's own reads as nodes. -/
theorem own_ns {w : World} {B n c : Nat} {A : Option Addr} {ps : List (Nd × Value)} (ho : w.ownsRow B 39 5 (.slice A n c) n (ps.flatMap ndV)) (hk : ∀ p ∈ ps, KdA w p) (hn : ps.length = n) : NsAt w A (ps.map (·.1)) ∧ n ≤ c ∧ c ≤ maxLen := by
  refine ⟨?_, own_cap2 ho⟩
  rcases ho.2 with ⟨h0, h1⟩ | ⟨g, cap, cur, h0, hb, hh, hc, hm, hsz, htk⟩
  · intro z
    rw [List.length_map] at z
    omega
  · injection h0 with h0 _ _
    intro z
    refine ⟨g, 0, h0, HB.lt hh, fun i q hq => ?_⟩
    rw [List.getElem?_map] at hq
    obtain ⟨p, hpi, rfl⟩ := Option.map_eq_some_iff.1 hq
    have hi : i < ps.length := by
      rcases Nat.lt_or_ge i ps.length with y | y
      · exact y
      · rw [List.getElem?_eq_none y] at hpi; cases hpi
    have hcell : ∀ j u, j < 5 → (ndV p)[j]? = some u → w.cell? ⟨g, 0 + i * 5 + j, none⟩ = some u := fun j u hj hu => by
      have e1 := flatk_get ndV_len hpi hj
      rw [hu, ← htk, List.getElem?_take_of_lt (by omega)] at e1
      rw [show 0 + i * 5 + j = i * 5 + j by omega, cell_of_row w g (i * 5 + j) cur 39 (0, 0) hh]
      simpa using e1
    obtain ⟨a1, A', c', a2, a3, a4, a5⟩ := hk p (List.mem_of_getElem? hpi)
    have c1 := hcell 1 _ (by omega) rfl
    rw [a2] at c1
    exact ⟨hcell 0 _ (by omega) rfl, hcell 2 _ (by omega) rfl, hcell 3 _ (by omega) rfl, hcell 4 _ (by omega) rfl, a1, A', c', c1, a3, a4, a5⟩
theorem app_zero' {P : Program} (w : World) (base : Nat) (t ty e : TypeId) (i : TypeInfo) (sz : Nat) (ht : P.underlying t = some (.slice e)) (hi : P.info? e = some i)
    (v : Value) (n : Nat) (xs : List Value) (h : w.ownsRow base e sz v n xs) (A : Option Addr) (c : Nat) : (Builtin.append_ #[t, t] ty #[v, .slice A 0 c]).run P w = .ok v w := app_zero w base t ty e i sz ht hi v n xs h A c
section
variable {P : Program} {w : World} {ops : Array Oper} {rest : List Oper} {o : Oper} {a : Act} {Q : Exit → Act → World → Prop}
/-- Elements, none or some, are put behind a row of the call's own. -/
theorem wpl_gen (t e : TypeId) (hut : P.underlying t = some (.slice e)) (z : Value) (sz by_ : Nat) (hinfo : (P.info? e).map (fun i => (i.zero, i.size, i.bytes)) = some (some z, sz, by_)) (hzs : z.cells.size = sz) (hsz : 0 < sz)
    (hgd : o.guard = none) (s x : Operand) (ho : o.op = .call { callee := .builtin .append, args := #[s, x], argTypes := #[t, t] })
    (base : Nat) (v : Value) (n : Nat) (xs : List Value) (hs : a.eval s = v) (hown : w.ownsRow base e sz v n xs) (A : Option Addr) (c m : Nat) (news : List Value) (hx : a.eval x = .slice A m c) (hl : news.length = m * sz)
    (hat : 0 < m → ∃ ad, A = some ad ∧ ∀ j u, news[j]? = some u → w.cell? (ad.add j) = some u) (h1 : ∀ u ∈ news, u.oneCell' = true) (hb : (n + m) * by_ ≤ 140737488355328) (hb2 : n + m ≤ maxLen) (hbase : base ≤ w.heap.size)
    (h : ∀ v' w', Hid (w'.ownsRow base e sz v' (n + m) (xs ++ news)) → (∀ g t cs, some g ≠ v.ownBlock → HB w g t cs → HB w' g t cs) → (∀ W, Below base W w → Below base W w') → wpList P ops Q rest (a.put o.dst v') w') :
    wpList P ops Q (o :: rest) a w := by
  obtain ⟨i0, hi0, hz0, hz1, hz2⟩ := info_parts hinfo
  rcases Nat.eq_zero_or_pos m with h0 | h0
  · subst h0
    have e0 : news = [] := List.eq_nil_of_length_eq_zero (by rw [hl]; simp)
    subst e0
    refine wpList_plain hgd fun K hK => ?_
    have hrun := app_zero (P := P) w base t o.type e i0 sz hut hi0 v n xs hown A c
    unfold Oper.wp
    simp [execOp, ho, resolve, invoke, builtin, hs, hx, hrun, Result.andThen]
    exact hK _ _ (h v w (Lib.hid (by simpa using hown)) (fun _ _ _ _ k => k) (fun _ k => k))
  · obtain ⟨ad, rfl, hq⟩ := hat h0
    refine wpList_append_lies w hgd s x t ho base e i0 z sz by_ hut hi0 hz0 hz1 hz2 hzs hsz v n xs hs hown ad m c news hx hl hq h1 h0 hb2 hb hbase _ rfl ?_
    intro g cap w' hown' hg hf _
    exact h _ w' (Lib.hid hown') (fun g' t cs hne hb => hb.grown hg hne) (fun W hW => bw_grown hbase hW hown hg)
end
set_option maxRecDepth 100000 in
set_option maxHeartbeats 4000000 in
theorem with_any (ns ls : List Nd) (Ad An Ah Al : Option Addr) (nc hl hc lc nl m : Nat) (hnl : ns.length = nl) (hm : ls.length = m) (h200 : nl ≤ 200) (h10 : m ≤ 10) (w : World) (hn : NsAt w An ns) (hls : NsAt w Al ls) :
    Calls Tryz.prog 18 #[.agg #[.slice Ad 14 14, .slice An nl nc, .slice Ah hl hc], .slice Al m lc] w fun e w' => ∃ (A : Option Addr) (c : Nat), e = .returned (.agg #[.slice Ad 14 14, .slice A (nl + m) c, .slice none 0 0]) ∧ nl + m ≤ c ∧ c ≤ maxLen ∧ Hid (NsAt w' A (ns ++ ls)) ∧ Below w.heap.size w w' := by
  have B0 : Hid (Below w.heap.size w (((w.alloc (.cells #[.slice Ad 14 14, .slice An nl nc, .slice Ah hl hc] 26)).alloc (.cells #[.slice none 0 0, .slice none 0 0, .slice none 0 0] 26)).alloc (.cells #[.slice Ad 14 14, .slice none 0 0, .slice none 0 0] 26))) := Lib.hid (by go_grown)
  have H4 := Lib.hid ((HB.new1 w (.cells #[.slice Ad 14 14, .slice An nl nc, .slice Ah hl hc] 26) 26 #[.slice none 0 0, .slice none 0 0, .slice none 0 0]).alloc (.cells #[.slice Ad 14 14, .slice none 0 0, .slice none 0 0] 26))
  have H5 := Lib.hid (HB.new2 w (.cells #[.slice Ad 14 14, .slice An nl nc, .slice Ah hl hc] 26) (.cells #[.slice none 0 0, .slice none 0 0, .slice none 0 0] 26) 26 #[.slice Ad 14 14, .slice none 0 0, .slice none 0 0])
  obtain ⟨ps, hp1, hp2, hp3⟩ := ns_vals hn
  obtain ⟨ks, hk1, hk2, hk3⟩ := ns_vals hls
  have hpl : ps.length = nl := by rw [← hnl, ← hp1, List.length_map]
  have hkl : ks.length = m := by rw [← hm, ← hk1, List.length_map]
  rw [hnl] at hp3
  rw [hm] at hk3
  have HP3 : Hid (∀ W, Below w.heap.size w W → 0 < nl → ∃ ad, An = some ad ∧ ∀ j u, (ps.flatMap ndV)[j]? = some u → W.cell? (ad.add j) = some u) := Lib.hid (fun W k z => by
    obtain ⟨ad, e, q⟩ := hp3 z
    exact ⟨ad, e, q W k⟩)
  have HK3 : Hid (∀ W, Below w.heap.size w W → 0 < m → ∃ ad, Al = some ad ∧ ∀ j u, (ks.flatMap ndV)[j]? = some u → W.cell? (ad.add j) = some u) := Lib.hid (fun W k z => by
    obtain ⟨ad, e, q⟩ := hk3 z
    exact ⟨ad, e, q W k⟩)
  have HP2 := Lib.hid hp2
  have HK2 := Lib.hid hk2
  have HPL := Lib.hid hpl
  have HKL := Lib.hid hkl
  have HNS : Hid (ps.map (·.1) ++ ks.map (·.1) = ns ++ ls) := Lib.hid (by rw [hp1, hk1])
  clear hn hls hp1 hp2 hp3 hk1 hk2 hk3 hpl hkl hnl hm
  go_enter Tryz.func18, Tryz.ntmps18
  go_wp2_with (at_builtin; refine wpl_gen 24 39 Tryz.underlying24 (.agg #[.int .i64 0, .slice none 0 0, .int .i64 0, .int .i64 0, .string ⟨#[]⟩]) 5 64 info56' rfl (by decide) rfl _ _ rfl w.heap.size (.slice none 0 0) 0 [] rfl (own_nil _ _ _ _) An nc nl (ps.flatMap ndV) rfl (by rw [flatk_len ndV_len, HPL.out]) (HP3.out _ B0.out) (ndV_one ps _ HP2.out) (by omega) (by unfold maxLen; omega) B0.out.size ?_)
  intro k2 w2 hown2 hkp2 hbw2
  have B2 := Lib.hid (hbw2 _ B0.out)
  have H42 := Lib.hid (hkp2 _ _ _ (by simp [Value.ownBlock]) H4.out)
  have H52 := Lib.hid (hkp2 _ _ _ (by simp [Value.ownBlock]) H5.out)
  have O2 : Hid (w2.ownsRow w.heap.size 39 5 k2 nl (ps.flatMap ndV)) := Lib.hid (by simpa using hown2.out)
  clear hown2 hkp2 hbw2 H4 H5 B0
  go_wp2_with (at_builtin; refine wpl_gen 24 39 Tryz.underlying24 (.agg #[.int .i64 0, .slice none 0 0, .int .i64 0, .int .i64 0, .string ⟨#[]⟩]) 5 64 info56' rfl (by decide) rfl _ _ rfl w.heap.size k2 nl (ps.flatMap ndV) rfl O2.out Al lc m (ks.flatMap ndV) rfl (by rw [flatk_len ndV_len, HKL.out]) (HK3.out _ B2.out) (ndV_one ks _ HK2.out) (by omega) (by unfold maxLen; omega) B2.out.size ?_)
  intro k3 w3 hown3 hkp3 hbw3
  have B3 := Lib.hid (hbw3 _ B2.out)
  have H43 := Lib.hid (hkp3 _ _ _ (own_ne O2.out H42.out (by decide)) H42.out)
  have H53 := Lib.hid (hkp3 _ _ _ (own_ne O2.out H52.out (by decide)) H52.out)
  obtain ⟨A3, c3, hk3⟩ := own_val hown3.out
  subst hk3
  have O3 : Hid (w3.ownsRow w.heap.size 39 5 (.slice A3 (nl + m) c3) (nl + m) ((ps ++ ks).flatMap ndV)) := Lib.hid (by rw [List.flatMap_append]; exact hown3.out)
  clear hown3 hkp3 hbw3 H42 H52 O2 B2
  obtain ⟨y0, y1, y2, yf0, yf1, yf2⟩ := H53.out.three
  obtain ⟨x0, x1, x2, xf0, xf1, xf2⟩ := H43.out.three
  have F5 := Lib.hid (far_set w3 (w.heap.size + 1 + 1) 1 (.slice A3 (nl + m) c3))
  have Z5 : Hid (HB (w3.setCell ⟨w.heap.size + 1 + 1, 1, none⟩ (.slice A3 (nl + m) c3)) (w.heap.size + 1 + 1) 26 #[.slice Ad 14 14, .slice A3 (nl + m) c3, .slice none 0 0]) := Lib.hid (by simpa using H53.out.set_ 1 (.slice A3 (nl + m) c3))
  have Z4 := Lib.hid (hb_far H43.out (by omega) F5.out)
  have O5 := Lib.hid (own_far O3.out (own_ne O3.out H53.out (by decide)) F5.out)
  have B5 := Lib.hid (bw_far B3.out (by omega) F5.out)
  have F6 := Lib.hid (far3 (w3.setCell ⟨w.heap.size + 1 + 1, 1, none⟩ (.slice A3 (nl + m) c3)) (w.heap.size + 1) (.slice Ad 14 14) (.slice A3 (nl + m) c3) (.slice none 0 0))
  have O6 := Lib.hid (own_far O5.out (own_ne O5.out Z4.out (by decide)) F6.out)
  have B6 := Lib.hid (bw_far B5.out (by omega) F6.out)
  have Z6 := Lib.hid (hb_set3 (n := .slice Ad 14 14) (d := .slice A3 (nl + m) c3) (e := .slice none 0 0) Z4.out)
  have HLL : Hid ((ps ++ ks).length = nl + m) := Lib.hid (by rw [List.length_append, HPL.out, HKL.out])
  obtain ⟨q0, q1, q2⟩ := own_ns O6.out (fun p hp => by
    rcases List.mem_append.1 hp with z | z
    · exact (HP2.out p z).below B6.out
    · exact (HK2.out p z).below B6.out) HLL.out
  have Q0 := Lib.hid q0
  rw [List.map_append, HNS.out] at Q0
  obtain ⟨z0, z1, z2, -⟩ := Z6.out.three
  clear F5 F6 Z5 Z4 O5 B5 O3 H53 H43 q0 Z6 O6
  go_wp2_with fail
  exact bodyPost_ret (v := .agg #[.slice Ad 14 14, .slice A3 (nl + m) c3, .slice none 0 0]) (by simp [results, Tryz.results18, go_sem, z0, z1, z2]) rfl ⟨A3, c3, rfl, q1, q2, Q0, B6.out⟩
end Go.Proofs.YtcpeddogckillaaGreat
