/-
  Asks that are made of raw numbers: nodes that grow, case by case: rows of kids.
-/
import Derived.Test.YtcpeddogckillaaGreatAskCl
namespace Go.Proofs.YtcpeddogckillaaGreat
open Go.RowKit

theorem mo_bs {Y : Nat → Prop} {base g : Nat} {nv sv : Value} {ss : List Int} {w : World} (h : Mo Y base g nv sv w ss) : base ≤ w.heap.size := by
  obtain ⟨ps, h1, _⟩ := h
  have := h1.2.1.lt
  have := h1.1
  omega
/-- The block of a row. -/
def Yof (v : Value) : Nat → Prop := fun b => some b = v.ownBlock
theorem mo_weak {Y : Nat → Prop} {base g : Nat} {nv sv : Value} {ss : List Int} {w : World} (h : Mo Y base g nv sv w ss) : Mo No base g nv sv w ss := by
  obtain ⟨ps, ⟨h1, h2, h3, h4, h5⟩, h6⟩ := h
  refine ⟨ps, ⟨h1, h2, h3, h4, fun p hp => ⟨(h5 p hp).1, ?_⟩⟩, h6⟩
  obtain ⟨A, c, e, k1, k2, k3⟩ := (h5 p hp).2
  refine ⟨A, c, e, k1, k2, fun z => ?_⟩
  obtain ⟨b, o, cs, e2, hb, hx, hc⟩ := k3 z
  exact ⟨b, o, cs, e2, hb, fun y => y.elim (fun y => hx (.inl y)) (fun y => y.elim), hc⟩
theorem mo_none {base g : Nat} {nv sv : Value} {ss : List Int} {w : World} (h : Mo No base g nv sv w ss) : Mo (Yof (.slice none 0 0)) base g nv sv w ss := by
  obtain ⟨ps, ⟨h1, h2, h3, h4, h5⟩, h6⟩ := h
  refine ⟨ps, ⟨h1, h2, h3, h4, fun p hp => ⟨(h5 p hp).1, ?_⟩⟩, h6⟩
  obtain ⟨A, c, e, k1, k2, k3⟩ := (h5 p hp).2
  refine ⟨A, c, e, k1, k2, fun z => ?_⟩
  obtain ⟨b, o, cs, e2, hb, hx, hc⟩ := k3 z
  exact ⟨b, o, cs, e2, hb, fun y => y.elim (fun y => hx (.inl y)) (fun y => absurd y (by simp [Yof, Value.ownBlock])), hc⟩
/-- A row of numbers that is not the maker's grows. -/
theorem mo_app {base B g n m c g4 : Nat} {nv sv v : Value} {xs : List Value} {ss : List Int} {W W' : World} (h : Mo (Yof v) base g nv sv W ss) (hown : W.ownsRow B 3 1 v n xs) (hx : ∀ b, some b = v.ownBlock → ¬ Mb g nv sv b)
    (hkp : ∀ b t cs, some b ≠ v.ownBlock → HB W b t cs → HB W' b t cs) (hloc : v.ownBlock = some g4 ∨ g4 = W.heap.size) :
    Mo (Yof (.slice (some ⟨g4, 0, none⟩) m c)) base g nv sv W' ss ∧ ∀ b, some b = (Value.slice (some ⟨g4, 0, none⟩) m c).ownBlock → ¬ Mb g nv sv b := by
  have hlt := fun b (z : Mb g nv sv b) => mb_lt h z
  obtain ⟨ps, ⟨h1, h2, h3, h4, h5⟩, h6⟩ := h
  refine ⟨⟨ps, ⟨h1, hkp _ _ _ (own_ne hown h2 (by decide)) h2, own_keep h3 fun b cs hb hk => hkp b 39 cs (own_ne2 h3 hown (by decide) b hb) hk, own_keep h4 fun b cs hb hk => hkp b 3 cs (fun z => hx b z (.inr (.inr hb))) hk, fun p hp => ⟨(h5 p hp).1, ?_⟩⟩, h6⟩, ?_⟩
  · obtain ⟨A, c', e, k1, k2, k3⟩ := (h5 p hp).2
    refine ⟨A, c', e, k1, k2, fun z => ?_⟩
    obtain ⟨b, o, cs, e2, hb, hy, hc⟩ := k3 z
    refine ⟨b, o, cs, e2, hkp b 3 cs (fun y => hy (.inr y)) hb, fun y => ?_, hc⟩
    rcases y with y | y
    · exact hy (.inl y)
    · have e3 : b = g4 := by simpa [Yof, Value.ownBlock] using y
      rcases hloc with q | q
      · exact hy (.inr (by unfold Yof; rw [q, e3]))
      · have := hb.lt
        omega
  · intro b hb z
    have e3 : b = g4 := by simpa [Value.ownBlock] using hb
    rcases hloc with q | q
    · exact hx b (by rw [q, e3]) z
    · have := hlt b z
      omega
theorem mv_app {base B n sz : Nat} {e : TypeId} {X X' : Nat → Prop} {w W W' : World} {v : Value} {xs : List Value} (h : Mv base X w X' W) (hw : base ≤ B) (hB : w.heap.size ≤ B) (hown : W.ownsRow B e sz v n xs)
    (hkp : ∀ b t cs, some b ≠ v.ownBlock → HB W b t cs → HB W' b t cs) (hbw : ∀ Z, Below B Z W → Below B Z W') : Mv base X w X' W' :=
  ⟨h.1.trans ((hbw W (Below.refl _ _)).mono hw), Nat.le_trans h.2.1 (hbw W (Below.refl _ _)).size, fun b t cs hx hb => ⟨hkp b t cs (own_lt hown (Nat.lt_of_lt_of_le hb.lt hB)) (h.2.2 b t cs hx hb).1, (h.2.2 b t cs hx hb).2⟩⟩
theorem kat_own {B : Nat} {X : Nat → Prop} {w : World} {v : Value} {ks : List Int} (h : w.ownsRow B 3 1 v ks.length (intV ks)) (hl : ks.length ≤ 8) (hx : ∀ b, some b = v.ownBlock → ¬ X b) : Kat w X v ks := by
  rcases h.2 with ⟨rfl, h0⟩ | ⟨b, cap, cur, rfl, hb, hh, hc, hm, hsz, htk⟩
  · have : ks = [] := List.eq_nil_of_length_eq_zero h0
    subst this
    exact kat_nil _ _
  · refine ⟨_, cap, rfl, by omega, by omega, fun _ => ⟨b, 0, cur, rfl, hh, hx b (by simp [Value.ownBlock]), fun k hk => ?_⟩⟩
    have e1 : (intV ks)[k]? = some (.int .i64 (nth ks k)) := by simp [intV, nth, List.getD, hk]
    rw [← htk, Nat.mul_one, List.getElem?_take_of_lt (by omega)] at e1
    rw [Nat.zero_add]
    simpa using e1
/-- Kids of which something is true of their sorts. -/
def KidP (S : List Int) (p : Int → Bool) (ks : List Int) : Prop := ∀ k ∈ ks, 0 ≤ k ∧ k < S.length ∧ p (nth S k.toNat) = true
theorem KidP.more {S : List Int} {p : Int → Bool} {ks : List Int} (h : KidP S p ks) (m : List Int) : KidP (S ++ m) p ks := fun k hk => by
  obtain ⟨a, b, c⟩ := h k hk
  exact ⟨a, by simp; omega, by rw [nth_app_lt (by omega)]; exact c⟩
theorem KidP.snoc {S : List Int} {p : Int → Bool} {ks : List Int} (h : KidP S p ks) {j : Nat} (hj : j < S.length) (hp : p (nth S j) = true) : KidP S p (ks ++ [(j : Int)]) := fun k hk => by
  rcases List.mem_append.1 hk with z | z
  · exact h k z
  · simp at z
    subst z
    exact ⟨by omega, by omega, by simpa using hp⟩
theorem KidP.all {S : List Int} {p : Int → Bool} {ks : List Int} (h : KidP S p ks) : (kSo S ks).all p = true := by
  rw [List.all_eq_true]
  intro x hx
  obtain ⟨k, hk, rfl⟩ := List.mem_map.1 hx
  exact (h k hk).2.2
theorem KidP.kso {S : List Int} {p : Int → Bool} {ks : List Int} (h : KidP S p ks) (m : List Int) : kSo (S ++ m) ks = kSo S ks := by
  unfold kSo
  refine List.map_congr_left (fun k hk => ?_)
  obtain ⟨a, b, _⟩ := h k hk
  rw [nth_app_lt (by omega)]
theorem info3'' : (Tryz.prog.info? 3).map (fun i => (i.zero, i.size, i.bytes)) = some (some (.int .i64 0), 1, 8) := by kernel_rfl
theorem mo_sortsO {Y : Nat → Prop} {base g : Nat} {nv sv : Value} {ss : List Int} {w : World} (h : Mo Y base g nv sv w ss) {j : Nat} (hj : j < ss.length) :
    ∃ bs c, sv = .slice (some ⟨bs, 0, none⟩) ss.length c ∧ ss.length ≤ c ∧ w.cell? ⟨g, 1, none⟩ = some (.slice (some ⟨bs, 0, none⟩) ss.length c) ∧ g < w.heap.size ∧ w.cell? ⟨bs, j, none⟩ = some (.int .i64 (nth ss j)) ∧ bs < w.heap.size := by
  obtain ⟨ps, ⟨_, hg, _, ho, _⟩, _⟩ := h
  rcases ho.2 with ⟨_, h0⟩ | ⟨b, cap, cur, rfl, hb, hh, hc, _, hsz, htk⟩
  · omega
  · refine ⟨b, cap, rfl, by omega, hg.cell 1, hg.lt, ?_, HB.lt hh⟩
    have e1 : (intV ss)[j]? = some (.int .i64 (nth ss j)) := by simp [intV, nth, List.getD, hj]
    rw [← htk, Nat.mul_one, List.getElem?_take_of_lt (by omega)] at e1
    rw [cell_of_row w b j cur 3 (0, 0) hh]
    simpa using e1
set_option maxRecDepth 100000 in
set_option maxHeartbeats 4000000 in
theorem grow1 (base g : Nat) (nv sv : Value) (ss : List Int) (a b c : Int) (w : World) (ha : a % 22 = 1) (hl : ss.length ≤ 890) (hM : Mo No base g nv sv w ss) :
    Calls Tryz.prog 23 #[.pointer (some ⟨g, 0, none⟩), .int .i64 a, .int .i64 b, .int .i64 c, .int .i64 0] w (GrowQ base g nv sv w ss) := by
  have HP22 : Hid (Calls Tryz.prog 25 #[.int .i64 a, .int .i64 22] w fun e w' => e = .returned (.int .i64 1) ∧ w' = w) := Lib.hid (by
    have := picked_any a 22 (by decide) (by decide) w
    rw [show ((22 : Nat) : Int) = 22 from rfl, ha] at this
    exact this)
  have HPK : Hid (∀ x (n : Nat) W, 1 ≤ n → n ≤ 1000 → Calls Tryz.prog 25 #[.int .i64 x, .int .i64 n] W fun e w' => ∃ r : Int, e = .returned (.int .i64 r) ∧ 0 ≤ r ∧ r < n ∧ w' = W) := Lib.hid (fun x n W h1 h2 => pick_rng x n h1 h2 W)
  have HP4 : Hid (∀ x W, Calls Tryz.prog 25 #[.int .i64 x, .int .i64 4] W fun e w' => ∃ r : Int, e = .returned (.int .i64 r) ∧ 0 ≤ r ∧ r < 4 ∧ w' = W) := Lib.hid (fun x W => pick_rng x 4 (by decide) (by decide) W)
  have HB0 := Lib.hid (mo_bs hM)
  have HM0 := Lib.hid (mo_none hM)
  have HN0 := Lib.hid hM
  have HLS := Lib.hid hl
  clear hM ha
  go_enter Tryz.func23, Tryz.ntmps23
  go_wp2_with fail
  refine HP22.out.mono ?_
  rintro e w1 ⟨rfl, rfl⟩
  go_wp2_with fail
  refine (HP4.out _ _).mono ?_
  rintro e w2 ⟨d, rfl, d0, d1, rfl⟩
  obtain ⟨dn, rfl⟩ : ∃ n : Nat, d = n := ⟨d.toNat, by omega⟩
  have dn4 : dn < 4 := by omega
  clear d0 d1
  go_wp2_with fail
  go_loopw [14, 15] (fun kv i wr => ∃ (i' : Nat) (ks m : List Int) (nv' sv' : Value), i' ≤ dn ∧ i = .int .i64 i' ∧ Hid (ks.length = i') ∧ Hid (m.length ≤ i') ∧ Hid (Mo (Yof kv) base g nv' sv' wr (ss ++ m)) ∧ Hid (Mv base (Mb g nv sv) w2 (Mb g nv' sv') wr) ∧ Hid (wr.ownsRow w2.heap.size 3 1 kv i' (intV ks)) ∧ Hid (∀ b, some b = kv.ownBlock → ¬ Mb g nv' sv' b) ∧ Hid (KidP (ss ++ m) sBo ks)) (fun _ i _ => dn - (intOf i).toNat)
  case atStart => exact ⟨0, [], [], nv, sv, by omega, rfl, Lib.hid rfl, Lib.hid (Nat.le_refl _), Lib.hid (by rw [List.append_nil]; exact HM0.out), Lib.hid (mv_refl _ _ _), Lib.hid (own_nil _ _ _ _), Lib.hid (fun b hb => absurd hb (by simp [Value.ownBlock])), Lib.hid (fun k hk => absurd hk (by simp))⟩
  case round =>
    obtain ⟨i, ks, m, nv1, sv1, hi, rfl, HL, HML, HM1, HV1, HO1, HX1, HK1⟩ := hrel
    generalize u14 = kv at *
    by_cases hlt : i < dn
    · have t3 : decide ((i : Int) < dn) = true := by simpa using hlt
      have ti : (((i : Int) + 1) == 0) = false := by simp; omega
      have ti2 : (((i : Int) + 1) == -1) = false := by simp; omega
      have X1 := Lib.hid (fun back => last_any (Yof kv) base g nv1 sv1 (ss ++ m) 1 back i wr (by simp) (by have := HML.out; have := HLS.out; simp; omega) HM1.out)
      go_wp2_with fail
      refine (X1.out _).mono ?_
      rintro e w3 ⟨j1, m1, rfl, hm1, hj1, hs1, hl1⟩
      obtain ⟨nv2, sv2, hM2, hV2⟩ := hm1.out
      obtain ⟨ho2, hx2⟩ := own_mv HO1.out HX1.out hV2
      have HV2 := Lib.hid (HV1.out.trans hV2)
      have HM3 := Lib.hid (hM2.mv (new_below w3 (.cells #[.int .i64 j1] 3)))
      have HV3 := Lib.hid (HV2.out.trans (mv_below (X := Mb g nv2 sv2) (mo_bs hM2) (new_below w3 (.cells #[.int .i64 j1] 3))))
      have HO3 := Lib.hid (own_alloc ho2 (.cells #[.int .i64 j1] 3))
      have HX2 := Lib.hid hx2
      have HJ := Lib.hid (And.intro hj1 hs1)
      have HL1 := Lib.hid hl1
      have HW := Lib.hid (HV3.out.2.1)
      clear hm1 hV2 hM2 ho2 hx2 hj1 hs1 hl1 X1
      go_wp2_with (at_builtin; refine wpl_app2 22 3 Tryz.underlying22 (.int .i64 0) 1 8 info3'' rfl (by decide) rfl _ _ rfl w2.heap.size kv i (intV ks) rfl HO3.out w3.heap.size #[.int .i64 j1] rfl (HB.new _ _ _) rfl (by simp [Value.oneCell']) (by omega) (by unfold maxLen; omega) (by have := HW.out; omega) ?_)
      intro g4 cap4 w4 hown4 hkp4 hbw4 hloc4
      obtain ⟨ma, mx⟩ := mo_app (m := i + 1) (c := cap4) HM3.out HO3.out HX2.out hkp4 (by simpa using hloc4.out)
      have MA := Lib.hid ma
      have MX := Lib.hid mx
      have MV := Lib.hid (mv_app HV3.out HB0.out (Nat.le_refl _) HO3.out hkp4 hbw4)
      have O4 := hown4
      clear hown4 hkp4 hbw4 hloc4 ma mx
      go_wp2_with fail
      go_round
      case rel =>
        have K2 := (HK1.out.more m1).snoc HJ.out.1 (show sBo (nth (ss ++ m ++ m1) j1) = true by rw [HJ.out.2]; rfl)
        exact ⟨i + 1, ks ++ [(j1 : Int)], m ++ m1, nv2, sv2, by omega, by go_num, Lib.hid (by rw [List.length_append, HL.out]; rfl), Lib.hid (by have := HML.out; have := HL1.out; rw [List.length_append]; omega), Lib.hid (by rw [← List.append_assoc]; exact MA.out), MV, Lib.hid (by rw [intV_snoc]; exact O4.out), MX, Lib.hid (by rw [← List.append_assoc]; exact K2)⟩
      case measure => simp [intOf]; omega
    · obtain rfl : dn = i := by omega
      have t3 : decide ((dn : Int) < dn) = false := by simp
      obtain ⟨Ak, ck, hkv⟩ := own_val HO1.out
      subst hkv
      have XP : Hid (Calls Tryz.prog 53 #[.pointer (some ⟨g, 0, none⟩), .agg #[.int .i64 4, .slice Ak dn ck, .int .i64 0, .int .i64 0, .string ⟨#[]⟩], .int .i64 1] wr fun e w' => e = .returned (.int .i64 (ss ++ m).length) ∧ Hid (More No base g nv1 sv1 wr (ss ++ m) [1] w')) := Lib.hid (put_mo (kv := .slice Ak dn ck) ⟨4, ks, 0, 0, ⟨#[]⟩⟩ 1 (by have := HML.out; have := HLS.out; simp; omega) (mo_weak HM1.out) (Below.refl _ _) (kat_own (by show World.ownsRow wr w2.heap.size 3 1 _ ks.length (intV ks); have := HO1.out; rw [HL.out]; exact this) (by show ks.length ≤ 8; have := HL.out; omega) (fun b hb z => z.elim (HX1.out b hb) (fun z => z.elim))) (Nat.zero_le _) (nd_plain 4 ks 1 (by decide) (by have := HL.out; omega) (by simp [kcN]) (fun k hk => ⟨(HK1.out k hk).1, (HK1.out k hk).2.1⟩) (by show srt 4 0 0 (kSo (ss ++ m) ks) = 1; unfold srt; rw [if_pos (by decide), HK1.out.all]; rfl) (by decide)))
      go_wp2_with fail
      refine XP.out.mono ?_
      rintro e wz ⟨rfl, hmz⟩
      have HZ : Hid (More No base g nv sv w2 ss (m ++ [1]) wz) := Lib.hid (by
        obtain ⟨nvz, svz, h1, h2⟩ := hmz.out
        exact ⟨nvz, svz, by simpa [List.append_assoc] using h1, HV1.out.trans h2⟩)
      clear hmz XP
      go_wp2_with fail
      first | go_end0 | refine bodyPost_ret (results_none rfl _ _ _) rfl ?_
      exact ⟨rfl, _, HZ, by have := HML.out; simp; omega⟩
set_option maxRecDepth 100000 in
set_option maxHeartbeats 4000000 in
theorem grow2 (base g : Nat) (nv sv : Value) (ss : List Int) (a b c : Int) (w : World) (ha : a % 22 = 2) (hl : ss.length ≤ 890) (hM : Mo No base g nv sv w ss) :
    Calls Tryz.prog 23 #[.pointer (some ⟨g, 0, none⟩), .int .i64 a, .int .i64 b, .int .i64 c, .int .i64 0] w (GrowQ base g nv sv w ss) := by
  have HP22 : Hid (Calls Tryz.prog 25 #[.int .i64 a, .int .i64 22] w fun e w' => e = .returned (.int .i64 2) ∧ w' = w) := Lib.hid (by
    have := picked_any a 22 (by decide) (by decide) w
    rw [show ((22 : Nat) : Int) = 22 from rfl, ha] at this
    exact this)
  have HPK : Hid (∀ x (n : Nat) W, 1 ≤ n → n ≤ 1000 → Calls Tryz.prog 25 #[.int .i64 x, .int .i64 n] W fun e w' => ∃ r : Int, e = .returned (.int .i64 r) ∧ 0 ≤ r ∧ r < n ∧ w' = W) := Lib.hid (fun x n W h1 h2 => pick_rng x n h1 h2 W)
  have HP4 : Hid (∀ x W, Calls Tryz.prog 25 #[.int .i64 x, .int .i64 4] W fun e w' => ∃ r : Int, e = .returned (.int .i64 r) ∧ 0 ≤ r ∧ r < 4 ∧ w' = W) := Lib.hid (fun x W => pick_rng x 4 (by decide) (by decide) W)
  have HB0 := Lib.hid (mo_bs hM)
  have HM0 := Lib.hid (mo_none hM)
  have HN0 := Lib.hid hM
  have HLS := Lib.hid hl
  clear hM ha
  go_enter Tryz.func23, Tryz.ntmps23
  go_wp2_with fail
  refine HP22.out.mono ?_
  rintro e w1 ⟨rfl, rfl⟩
  go_wp2_with fail
  refine (HP4.out _ _).mono ?_
  rintro e w2 ⟨d, rfl, d0, d1, rfl⟩
  obtain ⟨dn, rfl⟩ : ∃ n : Nat, d = n := ⟨d.toNat, by omega⟩
  have dn4 : dn < 4 := by omega
  clear d0 d1
  go_wp2_with fail
  go_loopw [14, 15] (fun kv i wr => ∃ (i' : Nat) (ks m : List Int) (nv' sv' : Value), i' ≤ dn ∧ i = .int .i64 i' ∧ Hid (ks.length = i') ∧ Hid (m.length ≤ i') ∧ Hid (Mo (Yof kv) base g nv' sv' wr (ss ++ m)) ∧ Hid (Mv base (Mb g nv sv) w2 (Mb g nv' sv') wr) ∧ Hid (wr.ownsRow w2.heap.size 3 1 kv i' (intV ks)) ∧ Hid (∀ b, some b = kv.ownBlock → ¬ Mb g nv' sv' b) ∧ Hid (KidP (ss ++ m) sBo ks)) (fun _ i _ => dn - (intOf i).toNat)
  case atStart => exact ⟨0, [], [], nv, sv, by omega, rfl, Lib.hid rfl, Lib.hid (Nat.le_refl _), Lib.hid (by rw [List.append_nil]; exact HM0.out), Lib.hid (mv_refl _ _ _), Lib.hid (own_nil _ _ _ _), Lib.hid (fun b hb => absurd hb (by simp [Value.ownBlock])), Lib.hid (fun k hk => absurd hk (by simp))⟩
  case round =>
    obtain ⟨i, ks, m, nv1, sv1, hi, rfl, HL, HML, HM1, HV1, HO1, HX1, HK1⟩ := hrel
    generalize u14 = kv at *
    by_cases hlt : i < dn
    · have t3 : decide ((i : Int) < dn) = true := by simpa using hlt
      have ti : (((i : Int) + 1) == 0) = false := by simp; omega
      have ti2 : (((i : Int) + 1) == -1) = false := by simp; omega
      have X1 := Lib.hid (fun back => last_any (Yof kv) base g nv1 sv1 (ss ++ m) 1 back i wr (by simp) (by have := HML.out; have := HLS.out; simp; omega) HM1.out)
      go_wp2_with fail
      refine (X1.out _).mono ?_
      rintro e w3 ⟨j1, m1, rfl, hm1, hj1, hs1, hl1⟩
      obtain ⟨nv2, sv2, hM2, hV2⟩ := hm1.out
      obtain ⟨ho2, hx2⟩ := own_mv HO1.out HX1.out hV2
      have HV2 := Lib.hid (HV1.out.trans hV2)
      have HM3 := Lib.hid (hM2.mv (new_below w3 (.cells #[.int .i64 j1] 3)))
      have HV3 := Lib.hid (HV2.out.trans (mv_below (X := Mb g nv2 sv2) (mo_bs hM2) (new_below w3 (.cells #[.int .i64 j1] 3))))
      have HO3 := Lib.hid (own_alloc ho2 (.cells #[.int .i64 j1] 3))
      have HX2 := Lib.hid hx2
      have HJ := Lib.hid (And.intro hj1 hs1)
      have HL1 := Lib.hid hl1
      have HW := Lib.hid (HV3.out.2.1)
      clear hm1 hV2 hM2 ho2 hx2 hj1 hs1 hl1 X1
      go_wp2_with (at_builtin; refine wpl_app2 22 3 Tryz.underlying22 (.int .i64 0) 1 8 info3'' rfl (by decide) rfl _ _ rfl w2.heap.size kv i (intV ks) rfl HO3.out w3.heap.size #[.int .i64 j1] rfl (HB.new _ _ _) rfl (by simp [Value.oneCell']) (by omega) (by unfold maxLen; omega) (by have := HW.out; omega) ?_)
      intro g4 cap4 w4 hown4 hkp4 hbw4 hloc4
      obtain ⟨ma, mx⟩ := mo_app (m := i + 1) (c := cap4) HM3.out HO3.out HX2.out hkp4 (by simpa using hloc4.out)
      have MA := Lib.hid ma
      have MX := Lib.hid mx
      have MV := Lib.hid (mv_app HV3.out HB0.out (Nat.le_refl _) HO3.out hkp4 hbw4)
      have O4 := hown4
      clear hown4 hkp4 hbw4 hloc4 ma mx
      go_wp2_with fail
      go_round
      case rel =>
        have K2 := (HK1.out.more m1).snoc HJ.out.1 (show sBo (nth (ss ++ m ++ m1) j1) = true by rw [HJ.out.2]; rfl)
        exact ⟨i + 1, ks ++ [(j1 : Int)], m ++ m1, nv2, sv2, by omega, by go_num, Lib.hid (by rw [List.length_append, HL.out]; rfl), Lib.hid (by have := HML.out; have := HL1.out; rw [List.length_append]; omega), Lib.hid (by rw [← List.append_assoc]; exact MA.out), MV, Lib.hid (by rw [intV_snoc]; exact O4.out), MX, Lib.hid (by rw [← List.append_assoc]; exact K2)⟩
      case measure => simp [intOf]; omega
    · obtain rfl : dn = i := by omega
      have t3 : decide ((dn : Int) < dn) = false := by simp
      obtain ⟨Ak, ck, hkv⟩ := own_val HO1.out
      subst hkv
      have XP : Hid (Calls Tryz.prog 53 #[.pointer (some ⟨g, 0, none⟩), .agg #[.int .i64 5, .slice Ak dn ck, .int .i64 0, .int .i64 0, .string ⟨#[]⟩], .int .i64 1] wr fun e w' => e = .returned (.int .i64 (ss ++ m).length) ∧ Hid (More No base g nv1 sv1 wr (ss ++ m) [1] w')) := Lib.hid (put_mo (kv := .slice Ak dn ck) ⟨5, ks, 0, 0, ⟨#[]⟩⟩ 1 (by have := HML.out; have := HLS.out; simp; omega) (mo_weak HM1.out) (Below.refl _ _) (kat_own (by show World.ownsRow wr w2.heap.size 3 1 _ ks.length (intV ks); have := HO1.out; rw [HL.out]; exact this) (by show ks.length ≤ 8; have := HL.out; omega) (fun b hb z => z.elim (HX1.out b hb) (fun z => z.elim))) (Nat.zero_le _) (nd_plain 5 ks 1 (by decide) (by have := HL.out; omega) (by simp [kcN]) (fun k hk => ⟨(HK1.out k hk).1, (HK1.out k hk).2.1⟩) (by show srt 5 0 0 (kSo (ss ++ m) ks) = 1; unfold srt; rw [if_pos (by decide), HK1.out.all]; rfl) (by decide)))
      go_wp2_with fail
      refine XP.out.mono ?_
      rintro e wz ⟨rfl, hmz⟩
      have HZ : Hid (More No base g nv sv w2 ss (m ++ [1]) wz) := Lib.hid (by
        obtain ⟨nvz, svz, h1, h2⟩ := hmz.out
        exact ⟨nvz, svz, by simpa [List.append_assoc] using h1, HV1.out.trans h2⟩)
      clear hmz XP
      go_wp2_with fail
      first | go_end0 | refine bodyPost_ret (results_none rfl _ _ _) rfl ?_
      exact ⟨rfl, _, HZ, by have := HML.out; simp; omega⟩
set_option maxRecDepth 100000 in
set_option maxHeartbeats 4000000 in
theorem grow10 (base g : Nat) (nv sv : Value) (ss : List Int) (a b c : Int) (w : World) (ha : a % 22 = 10) (hl : ss.length ≤ 890) (hM : Mo No base g nv sv w ss) :
    Calls Tryz.prog 23 #[.pointer (some ⟨g, 0, none⟩), .int .i64 a, .int .i64 b, .int .i64 c, .int .i64 0] w (GrowQ base g nv sv w ss) := by
  have HP22 : Hid (Calls Tryz.prog 25 #[.int .i64 a, .int .i64 22] w fun e w' => e = .returned (.int .i64 10) ∧ w' = w) := Lib.hid (by
    have := picked_any a 22 (by decide) (by decide) w
    rw [show ((22 : Nat) : Int) = 22 from rfl, ha] at this
    exact this)
  have HPK : Hid (∀ x (n : Nat) W, 1 ≤ n → n ≤ 1000 → Calls Tryz.prog 25 #[.int .i64 x, .int .i64 n] W fun e w' => ∃ r : Int, e = .returned (.int .i64 r) ∧ 0 ≤ r ∧ r < n ∧ w' = W) := Lib.hid (fun x n W h1 h2 => pick_rng x n h1 h2 W)
  have HP4 : Hid (∀ x W, Calls Tryz.prog 25 #[.int .i64 x, .int .i64 4] W fun e w' => ∃ r : Int, e = .returned (.int .i64 r) ∧ 0 ≤ r ∧ r < 4 ∧ w' = W) := Lib.hid (fun x W => pick_rng x 4 (by decide) (by decide) W)
  have HB0 := Lib.hid (mo_bs hM)
  have HM0 := Lib.hid (mo_none hM)
  have HN0 := Lib.hid hM
  have HLS := Lib.hid hl
  clear hM ha
  go_enter Tryz.func23, Tryz.ntmps23
  go_wp2_with fail
  refine HP22.out.mono ?_
  rintro e w1 ⟨rfl, rfl⟩
  go_wp2_with fail
  refine (HP4.out _ _).mono ?_
  rintro e w2 ⟨d, rfl, d0, d1, rfl⟩
  obtain ⟨dn, rfl⟩ : ∃ n : Nat, d = n := ⟨d.toNat, by omega⟩
  have dn4 : dn < 4 := by omega
  clear d0 d1
  go_wp2_with fail
  go_loopw [23, 24, 25] (fun kv st i wr => ∃ (i' : Nat) (ks m : List Int) (nv' sv' : Value) (z : Int), i' ≤ dn ∧ i = .int .i64 i' ∧ st = .int .i64 z ∧ (z = 2 ∨ z = 3) ∧ Hid (ks.length = i') ∧ Hid (m.length ≤ i') ∧ Hid (Mo (Yof kv) base g nv' sv' wr (ss ++ m)) ∧ Hid (Mv base (Mb g nv sv) w2 (Mb g nv' sv') wr) ∧ Hid (wr.ownsRow w2.heap.size 3 1 kv i' (intV ks)) ∧ Hid (∀ b, some b = kv.ownBlock → ¬ Mb g nv' sv' b) ∧ Hid (KidP (ss ++ m) sNu ks) ∧ Hid (z = if (kSo (ss ++ m) ks).all sIn = true then 2 else 3)) (fun _ _ i _ => dn - (intOf i).toNat)
  case atStart => exact ⟨0, [], [], nv, sv, 2, by omega, rfl, rfl, by simp, Lib.hid rfl, Lib.hid (Nat.le_refl _), Lib.hid (by rw [List.append_nil]; exact HM0.out), Lib.hid (mv_refl _ _ _), Lib.hid (own_nil _ _ _ _), Lib.hid (fun b hb => absurd hb (by simp [Value.ownBlock])), Lib.hid (fun k hk => absurd hk (by simp)), Lib.hid rfl⟩
  case round =>
    obtain ⟨i, ks, m, nv1, sv1, z, hi, rfl, rfl, hz, HL, HML, HM1, HV1, HO1, HX1, HK1, HZ1⟩ := hrel
    generalize u23 = kv at *
    by_cases hlt : i < dn
    · have t3 : decide ((i : Int) < dn) = true := by simpa using hlt
      have ti : (((i : Int) + 1) == 0) = false := by simp; omega
      have ti2 : (((i : Int) + 1) == -1) = false := by simp; omega
      have X1 := Lib.hid (fun back => mknumber_any (Yof kv) base g nv1 sv1 (ss ++ m) back 1 wr (by have := HML.out; have := HLS.out; simp; omega) HM1.out)
      go_wp2_with fail
      refine (X1.out _).mono ?_
      rintro e w3 ⟨q1, hq1, j1, m1, rfl, hm1, hj1, hs1, hl1⟩
      obtain ⟨nv2, sv2, hM2, hV2⟩ := hm1.out
      obtain ⟨ho2, hx2⟩ := own_mv HO1.out HX1.out hV2
      have HV2 := Lib.hid (HV1.out.trans hV2)
      have HM3 := Lib.hid (hM2.mv (new_below w3 (.cells #[.int .i64 j1] 3)))
      have HV3 := Lib.hid (HV2.out.trans (mv_below (X := Mb g nv2 sv2) (mo_bs hM2) (new_below w3 (.cells #[.int .i64 j1] 3))))
      have HO3 := Lib.hid (own_alloc ho2 (.cells #[.int .i64 j1] 3))
      have HX2 := Lib.hid hx2
      have HJ := Lib.hid (And.intro hj1 hs1)
      have HL1 := Lib.hid hl1
      have HW := Lib.hid (HV3.out.2.1)
      obtain ⟨bs, cs, rfl, hcs, e0, e1, e2, e3⟩ := mo_sortsO hM2 hj1
      rw [hs1] at e2
      have HQ1 := Lib.hid hq1
      have hml : (ss ++ m ++ m1).length ≤ 900 := by have := HML.out; have := HLS.out; simp; omega
      clear hm1 hV2 hM2 ho2 hx2 hs1 hl1 X1
      generalize hmL : (ss ++ m ++ m1).length = mL at *
      have HMLen := Lib.hid hmL
      have mj1 : decide ((j1 : Int) < mL) = true := by simpa using hj1
      clear hmL
      have q23 : q1 = 2 ∨ q1 = 3 := hq1
      clear hq1
      rcases q23 with rfl | rfl
      · go_wp2_with (at_builtin; refine wpl_app2 22 3 Tryz.underlying22 (.int .i64 0) 1 8 info3'' rfl (by decide) rfl _ _ rfl w2.heap.size kv i (intV ks) rfl HO3.out w3.heap.size #[.int .i64 j1] rfl (HB.new _ _ _) rfl (by simp [Value.oneCell']) (by omega) (by unfold maxLen; omega) (by have := HW.out; omega) ?_)
        intro g4 cap4 w4 hown4 hkp4 hbw4 hloc4
        obtain ⟨ma, mx⟩ := mo_app (m := i + 1) (c := cap4) HM3.out HO3.out HX2.out hkp4 (by simpa using hloc4.out)
        have MA := Lib.hid ma
        have MX := Lib.hid mx
        have MV := Lib.hid (mv_app HV3.out HB0.out (Nat.le_refl _) HO3.out hkp4 hbw4)
        have O4 := hown4
        clear hown4 hkp4 hbw4 hloc4 ma mx e0 e1 e2 e3 mj1
        go_wp2_with fail
        go_round
        case rel =>
          have K2 := (HK1.out.more m1).snoc (by rw [HMLen.out]; exact HJ.out.1) (show sNu (nth (ss ++ m ++ m1) j1) = true by rw [HJ.out.2]; rfl)
          refine ⟨i + 1, ks ++ [(j1 : Int)], m ++ m1, nv2, _, z, by omega, by go_num, rfl, by first | exact hz | simp, Lib.hid (by rw [List.length_append, HL.out]; rfl), Lib.hid (by have := HML.out; have := HL1.out; rw [List.length_append]; omega), Lib.hid (by rw [← List.append_assoc]; exact MA.out), MV, Lib.hid (by rw [intV_snoc]; exact O4.out), MX, Lib.hid (by rw [← List.append_assoc]; exact K2), Lib.hid ?_⟩
          rw [← List.append_assoc]
          have e5 : kSo (ss ++ m ++ m1) (ks ++ [(j1 : Int)]) = kSo (ss ++ m) ks ++ [2] := by
            rw [← HK1.out.kso m1]
            unfold kSo
            rw [List.map_append, List.map_singleton, Int.toNat_natCast, HJ.out.2]
          rw [e5, List.all_append]
          have := HZ1.out
          simp [sIn] at this ⊢
          try exact this
        case measure => simp [intOf]; omega
      · go_wp2_with (at_builtin; refine wpl_app2 22 3 Tryz.underlying22 (.int .i64 0) 1 8 info3'' rfl (by decide) rfl _ _ rfl w2.heap.size kv i (intV ks) rfl HO3.out w3.heap.size #[.int .i64 j1] rfl (HB.new _ _ _) rfl (by simp [Value.oneCell']) (by omega) (by unfold maxLen; omega) (by have := HW.out; omega) ?_)
        intro g4 cap4 w4 hown4 hkp4 hbw4 hloc4
        obtain ⟨ma, mx⟩ := mo_app (m := i + 1) (c := cap4) HM3.out HO3.out HX2.out hkp4 (by simpa using hloc4.out)
        have MA := Lib.hid ma
        have MX := Lib.hid mx
        have MV := Lib.hid (mv_app HV3.out HB0.out (Nat.le_refl _) HO3.out hkp4 hbw4)
        have O4 := hown4
        clear hown4 hkp4 hbw4 hloc4 ma mx e0 e1 e2 e3 mj1
        go_wp2_with fail
        go_round
        case rel =>
          have K2 := (HK1.out.more m1).snoc (by rw [HMLen.out]; exact HJ.out.1) (show sNu (nth (ss ++ m ++ m1) j1) = true by rw [HJ.out.2]; rfl)
          refine ⟨i + 1, ks ++ [(j1 : Int)], m ++ m1, nv2, _, 3, by omega, by go_num, rfl, by first | exact hz | simp, Lib.hid (by rw [List.length_append, HL.out]; rfl), Lib.hid (by have := HML.out; have := HL1.out; rw [List.length_append]; omega), Lib.hid (by rw [← List.append_assoc]; exact MA.out), MV, Lib.hid (by rw [intV_snoc]; exact O4.out), MX, Lib.hid (by rw [← List.append_assoc]; exact K2), Lib.hid ?_⟩
          rw [← List.append_assoc]
          have e5 : kSo (ss ++ m ++ m1) (ks ++ [(j1 : Int)]) = kSo (ss ++ m) ks ++ [3] := by
            rw [← HK1.out.kso m1]
            unfold kSo
            rw [List.map_append, List.map_singleton, Int.toNat_natCast, HJ.out.2]
          rw [e5, List.all_append]
          have := HZ1.out
          simp [sIn] at this ⊢
          try exact this
        case measure => simp [intOf]; omega
    · obtain rfl : dn = i := by omega
      have t3 : decide ((dn : Int) < dn) = false := by simp
      obtain ⟨Ak, ck, hkv⟩ := own_val HO1.out
      subst hkv
      have XP : Hid (Calls Tryz.prog 53 #[.pointer (some ⟨g, 0, none⟩), .agg #[.int .i64 11, .slice Ak dn ck, .int .i64 0, .int .i64 0, .string ⟨#[]⟩], .int .i64 z] wr fun e w' => e = .returned (.int .i64 (ss ++ m).length) ∧ Hid (More No base g nv1 sv1 wr (ss ++ m) [z] w')) := Lib.hid (put_mo (kv := .slice Ak dn ck) ⟨11, ks, 0, 0, ⟨#[]⟩⟩ z (by have := HML.out; have := HLS.out; simp; omega) (mo_weak HM1.out) (Below.refl _ _) (kat_own (by show World.ownsRow wr w2.heap.size 3 1 _ ks.length (intV ks); have := HO1.out; rw [HL.out]; exact this) (by show ks.length ≤ 8; have := HL.out; omega) (fun b hb z => z.elim (HX1.out b hb) (fun z => z.elim))) (Nat.zero_le _) (nd_plain 11 ks z (by decide) (by have := HL.out; omega) (by simp [kcN]) (fun k hk => ⟨(HK1.out k hk).1, (HK1.out k hk).2.1⟩) (by
        show srt 11 0 0 (kSo (ss ++ m) ks) = z
        unfold srt numS
        rw [if_neg (by decide), if_neg (by decide), if_neg (by decide), if_neg (by decide), if_pos (by decide), HK1.out.all, HZ1.out]
        cases (kSo (ss ++ m) ks).all sIn <;> simp [whn]) (by rcases hz with rfl | rfl <;> decide)))
      go_wp2_with fail
      refine XP.out.mono ?_
      rintro e wz ⟨rfl, hmz⟩
      have HZ : Hid (More No base g nv sv w2 ss (m ++ [z]) wz) := Lib.hid (by
        obtain ⟨nvz, svz, h1, h2⟩ := hmz.out
        exact ⟨nvz, svz, by simpa [List.append_assoc] using h1, HV1.out.trans h2⟩)
      clear hmz XP
      go_wp2_with fail
      first | go_end0 | refine bodyPost_ret (results_none rfl _ _ _) rfl ?_
      exact ⟨rfl, _, HZ, by have := HML.out; simp; omega⟩
end Go.Proofs.YtcpeddogckillaaGreat
