/-
  Values of nodes: two more texts' mathematics: De Morgan; a choice.
-/
import Derived.Test.YtcpeddogckillaaGreatMevI
namespace Go.Proofs.YtcpeddogckillaaGreat
open Go.RowKit

theorem nd_bool {op : Int} {ks ss : List Int} (h : (op = 3 ∧ ks.length = 1) ∨ ((op = 4 ∨ op = 5) ∧ ks.length ≤ 8) ∨ (op = 6 ∧ ks.length = 2)) (hk : ∀ k ∈ ks, 0 ≤ k ∧ k < ss.length ∧ nth ss k.toNat = 1) :
    ndC dqs ⟨op, ks, 0, 0, ⟨#[]⟩⟩ ss.length ss = 0 ∧ ndT dqs ⟨op, ks, 0, 0, ⟨#[]⟩⟩ ss = 1 := by
  have hall : (kSo ss ks).all sBo = true := by
    rw [List.all_eq_true]
    intro z hz
    unfold kSo at hz
    obtain ⟨k, hk1, rfl⟩ := List.mem_map.1 hz
    rw [(hk k hk1).2.2]
    rfl
  have h6 : op ≤ 6 := by omega
  have h3 : 3 ≤ op := by omega
  refine nd_ok ⟨by dsimp only; omega, by dsimp only; omega⟩ (fun z => by dsimp only at z; omega) (by dsimp only; omega) ?_ (fun k hk' => ⟨(hk k hk').1, (hk k hk').2.1⟩) ?_ ?_ (by decide)
  · unfold kWant
    rw [if_neg (by dsimp only; omega)]
    dsimp only
    rcases h with ⟨rfl, h⟩ | ⟨rfl | rfl, h⟩ | ⟨rfl, h⟩
    · exact .inr (by rw [h]; rfl)
    · exact .inl rfl
    · exact .inl rfl
    · exact .inr (by rw [h]; rfl)
  · rcases h with ⟨rfl, h⟩ | ⟨rfl | rfl, h⟩ | ⟨rfl, h⟩ <;> simp [flC]
  · unfold ndT srt
    rw [if_pos h6, hall]
    rfl
theorem nd_pick {k0 k1 k2 : Int} {ss : List Int} (h0 : 0 ≤ k0 ∧ k0 < ss.length ∧ nth ss k0.toNat = 1) (h1 : 0 ≤ k1 ∧ k1 < ss.length ∧ nth ss k1.toNat = 1) (h2 : 0 ≤ k2 ∧ k2 < ss.length ∧ nth ss k2.toNat = 1) :
    ndC dqs ⟨7, [k0, k1, k2], 0, 0, ⟨#[]⟩⟩ ss.length ss = 0 ∧ ndT dqs ⟨7, [k0, k1, k2], 0, 0, ⟨#[]⟩⟩ ss = 1 := by
  refine nd_ok ⟨by simp, by simp⟩ (fun z => absurd z (by simp)) (by simp) (.inr rfl) (fun k hk => ?_) (by simp [flC]) ?_ (by decide)
  · simp at hk
    rcases hk with rfl | rfl | rfl
    · exact ⟨h0.1, h0.2.1⟩
    · exact ⟨h1.1, h1.2.1⟩
    · exact ⟨h2.1, h2.2.1⟩
  · show whn (sBo (nth ss k0.toNat) && (nth ss k1.toNat == nth ss k2.toNat) && (nth ss k1.toNat != 5)) (nth ss k1.toNat) = 1
    rw [h0.2.2, h1.2.2, h2.2.2]
    rfl
theorem tn2 (a : Nat) : ((a : Int) + 2).toNat = a + 2 := by omega
theorem tn3 (a : Nat) : ((a : Int) + 3).toNat = a + 3 := by omega
theorem tn4 (a : Nat) : ((a : Int) + 4).toNat = a + 4 := by omega
theorem tn5 (a : Nat) : ((a : Int) + 5).toNat = a + 5 := by omega
theorem nth_snoc {ss : List Int} {z : Int} {k : Int} (h : 0 ≤ k ∧ k < ss.length ∧ nth ss k.toNat = 1) : 0 ≤ k ∧ k < (ss ++ [z]).length ∧ nth (ss ++ [z]) k.toNat = 1 := by
  refine ⟨h.1, by rw [List.length_append]; simp; omega, ?_⟩
  rw [nth_app_lt (by omega)]
  exact h.2.2
theorem nth_new {ss : List Int} {k : Int} (h : k = ss.length) : 0 ≤ k ∧ k < (ss ++ [1]).length ∧ nth (ss ++ [1]) k.toNat = 1 := by
  subst h
  refine ⟨by omega, by rw [List.length_append]; simp; omega, ?_⟩
  rw [Int.toNat_natCast, nth_app_eq rfl]
def morganL (N : Nat) (x y : Int) : List Nd := [⟨4, [x, y], 0, 0, ⟨#[]⟩⟩, ⟨3, [(N : Int)], 0, 0, ⟨#[]⟩⟩, ⟨3, [x], 0, 0, ⟨#[]⟩⟩, ⟨3, [y], 0, 0, ⟨#[]⟩⟩, ⟨5, [((N : Int) + 2), ((N : Int) + 3)], 0, 0, ⟨#[]⟩⟩, ⟨6, [((N : Int) + 1), ((N : Int) + 4)], 0, 0, ⟨#[]⟩⟩]
theorem morgan_ok {ns : List Nd} {ss : List Int} {x y : Int} (h : Ok ns ss) (hx : 0 ≤ x ∧ x < ss.length ∧ nth ss x.toNat = 1) (hy : 0 ≤ y ∧ y < ss.length ∧ nth ss y.toNat = 1) : Ok (ns ++ morganL ns.length x y) (ss ++ [1, 1, 1, 1, 1, 1]) := by
  have hl := ok_len h
  have x0 := hx
  have y0 := hy
  obtain ⟨c0, t0⟩ : ndC dqs ⟨4, [x, y], 0, 0, ⟨#[]⟩⟩ (ss).length (ss) = 0 ∧ ndT dqs ⟨4, [x, y], 0, 0, ⟨#[]⟩⟩ (ss) = 1 := nd_bool (.inr (.inl ⟨.inl rfl, by simp⟩)) (fun k hk => by
    simp at hk
    rcases hk with rfl | rfl
    · exact x0
    · exact y0
)
  have o0 := ok_put h c0 t0
  have x1 := nth_snoc (z := 1) x0
  have y1 := nth_snoc (z := 1) y0
  have n1_0 := nth_new (ss := ss) (k := (ns.length : Int)) (by simp [hl])
  obtain ⟨c1, t1⟩ : ndC dqs ⟨3, [(ns.length : Int)], 0, 0, ⟨#[]⟩⟩ (ss ++ [1]).length (ss ++ [1]) = 0 ∧ ndT dqs ⟨3, [(ns.length : Int)], 0, 0, ⟨#[]⟩⟩ (ss ++ [1]) = 1 := nd_bool (.inl ⟨rfl, rfl⟩) (fun k hk => by
    simp at hk
    subst hk
    exact n1_0)
  have o1 := ok_put o0 c1 t1
  have x2 := nth_snoc (z := 1) x1
  have y2 := nth_snoc (z := 1) y1
  have n2_0 := nth_snoc (z := 1) n1_0
  have n2_1 := nth_new (ss := ss ++ [1]) (k := ((ns.length : Int) + 1)) (by simp [hl])
  obtain ⟨c2, t2⟩ : ndC dqs ⟨3, [x], 0, 0, ⟨#[]⟩⟩ (ss ++ [1] ++ [1]).length (ss ++ [1] ++ [1]) = 0 ∧ ndT dqs ⟨3, [x], 0, 0, ⟨#[]⟩⟩ (ss ++ [1] ++ [1]) = 1 := nd_bool (.inl ⟨rfl, rfl⟩) (fun k hk => by
    simp at hk
    subst hk
    exact x2)
  have o2 := ok_put o1 c2 t2
  have x3 := nth_snoc (z := 1) x2
  have y3 := nth_snoc (z := 1) y2
  have n3_0 := nth_snoc (z := 1) n2_0
  have n3_1 := nth_snoc (z := 1) n2_1
  have n3_2 := nth_new (ss := ss ++ [1] ++ [1]) (k := ((ns.length : Int) + 2)) (by simp [hl])
  obtain ⟨c3, t3⟩ : ndC dqs ⟨3, [y], 0, 0, ⟨#[]⟩⟩ (ss ++ [1] ++ [1] ++ [1]).length (ss ++ [1] ++ [1] ++ [1]) = 0 ∧ ndT dqs ⟨3, [y], 0, 0, ⟨#[]⟩⟩ (ss ++ [1] ++ [1] ++ [1]) = 1 := nd_bool (.inl ⟨rfl, rfl⟩) (fun k hk => by
    simp at hk
    subst hk
    exact y3)
  have o3 := ok_put o2 c3 t3
  have x4 := nth_snoc (z := 1) x3
  have y4 := nth_snoc (z := 1) y3
  have n4_0 := nth_snoc (z := 1) n3_0
  have n4_1 := nth_snoc (z := 1) n3_1
  have n4_2 := nth_snoc (z := 1) n3_2
  have n4_3 := nth_new (ss := ss ++ [1] ++ [1] ++ [1]) (k := ((ns.length : Int) + 3)) (by simp [hl])
  obtain ⟨c4, t4⟩ : ndC dqs ⟨5, [((ns.length : Int) + 2), ((ns.length : Int) + 3)], 0, 0, ⟨#[]⟩⟩ (ss ++ [1] ++ [1] ++ [1] ++ [1]).length (ss ++ [1] ++ [1] ++ [1] ++ [1]) = 0 ∧ ndT dqs ⟨5, [((ns.length : Int) + 2), ((ns.length : Int) + 3)], 0, 0, ⟨#[]⟩⟩ (ss ++ [1] ++ [1] ++ [1] ++ [1]) = 1 := nd_bool (.inr (.inl ⟨.inr rfl, by simp⟩)) (fun k hk => by
    simp at hk
    rcases hk with rfl | rfl
    · exact n4_2
    · exact n4_3
)
  have o4 := ok_put o3 c4 t4
  have x5 := nth_snoc (z := 1) x4
  have y5 := nth_snoc (z := 1) y4
  have n5_0 := nth_snoc (z := 1) n4_0
  have n5_1 := nth_snoc (z := 1) n4_1
  have n5_2 := nth_snoc (z := 1) n4_2
  have n5_3 := nth_snoc (z := 1) n4_3
  have n5_4 := nth_new (ss := ss ++ [1] ++ [1] ++ [1] ++ [1]) (k := ((ns.length : Int) + 4)) (by simp [hl])
  obtain ⟨c5, t5⟩ : ndC dqs ⟨6, [((ns.length : Int) + 1), ((ns.length : Int) + 4)], 0, 0, ⟨#[]⟩⟩ (ss ++ [1] ++ [1] ++ [1] ++ [1] ++ [1]).length (ss ++ [1] ++ [1] ++ [1] ++ [1] ++ [1]) = 0 ∧ ndT dqs ⟨6, [((ns.length : Int) + 1), ((ns.length : Int) + 4)], 0, 0, ⟨#[]⟩⟩ (ss ++ [1] ++ [1] ++ [1] ++ [1] ++ [1]) = 1 := nd_bool (.inr (.inr ⟨rfl, rfl⟩)) (fun k hk => by
    simp at hk
    rcases hk with rfl | rfl
    · exact n5_1
    · exact n5_4
)
  have o5 := ok_put o4 c5 t5
  have x6 := nth_snoc (z := 1) x5
  have y6 := nth_snoc (z := 1) y5
  have n6_0 := nth_snoc (z := 1) n5_0
  have n6_1 := nth_snoc (z := 1) n5_1
  have n6_2 := nth_snoc (z := 1) n5_2
  have n6_3 := nth_snoc (z := 1) n5_3
  have n6_4 := nth_snoc (z := 1) n5_4
  have n6_5 := nth_new (ss := ss ++ [1] ++ [1] ++ [1] ++ [1] ++ [1]) (k := ((ns.length : Int) + 5)) (by simp [hl])
  simpa [morganL, List.append_assoc] using o5
theorem morgan_val {ns : List Nd} {ss : List Int} {ms : List Mg} {x y : Int} {vs : List Vl} (h : Ok ns ss) (hx : 0 ≤ x ∧ x < ss.length ∧ nth ss x.toNat = 1) (hy : 0 ≤ y ∧ y < ss.length ∧ nth ss y.toNat = 1) (h200 : ns.length ≤ 190) (hm : ms.length = 14) (hg : ∀ i, i < 14 → mcF dqs ms i = 0)
    (hv : valsE (evOf dqs (ns ++ morganL ns.length x y) ms) (ns ++ morganL ns.length x y).length = .ok vs) : (vn vs (ns.length + 5)).num = 1 := by
  have ok := morgan_ok h hx hy
  have hl := ok_len h
  have hlen : (ns ++ morganL ns.length x y).length = ns.length + 6 := by rw [List.length_append]; rfl
  have h0 := world_fine (hs := []) (ms := ms) ok (by rw [hlen]; omega) (by simp) (fun i hi => absurd hi (by simp)) hm hg
  have good := vals_good (nd_known h0).2 (Nat.le_refl _) hv
  rw [ok.1, hlen] at good
  have so : ∀ j, j < 6 → nth (ss ++ [1, 1, 1, 1, 1, 1]) (ns.length + j) = 1 := fun j hj => by
    rw [← hl, nth_of_app]
    have : j = 0 ∨ j = 1 ∨ j = 2 ∨ j = 3 ∨ j = 4 ∨ j = 5 := by omega
    rcases this with rfl | rfl | rfl | rfl | rfl | rfl <;> rfl
  have bx := good x.toNat (by omega)
  have by' := good y.toNat (by omega)
  rw [nth_app_lt (by omega), hx.2.2] at bx
  rw [nth_app_lt (by omega), hy.2.2] at by'
  have e0 : vn vs (ns.length + 0) = (evV 4 1 0 0 (mn ms (fdI dqs ⟨#[]⟩)) [vn vs x.toNat, vn vs y.toNat]).1 := by
    have := node_val hv (i := ns.length + 0) (by rw [hlen]; omega) (by
      rw [nn_of_app]
      intro k hk
      simp [morganL, nn] at hk
      omega)
    rw [nn_of_app, ok.1, so 0 (by omega)] at this
    simpa [morganL, nn, tn2, tn3, tn4, tn5] using this
  have e1 : vn vs (ns.length + 1) = (evV 3 1 0 0 (mn ms (fdI dqs ⟨#[]⟩)) [vn vs (ns.length + 0)]).1 := by
    have := node_val hv (i := ns.length + 1) (by rw [hlen]; omega) (by
      rw [nn_of_app]
      intro k hk
      simp [morganL, nn] at hk
      omega)
    rw [nn_of_app, ok.1, so 1 (by omega)] at this
    simpa [morganL, nn, tn2, tn3, tn4, tn5] using this
  have e2 : vn vs (ns.length + 2) = (evV 3 1 0 0 (mn ms (fdI dqs ⟨#[]⟩)) [vn vs x.toNat]).1 := by
    have := node_val hv (i := ns.length + 2) (by rw [hlen]; omega) (by
      rw [nn_of_app]
      intro k hk
      simp [morganL, nn] at hk
      omega)
    rw [nn_of_app, ok.1, so 2 (by omega)] at this
    simpa [morganL, nn, tn2, tn3, tn4, tn5] using this
  have e3 : vn vs (ns.length + 3) = (evV 3 1 0 0 (mn ms (fdI dqs ⟨#[]⟩)) [vn vs y.toNat]).1 := by
    have := node_val hv (i := ns.length + 3) (by rw [hlen]; omega) (by
      rw [nn_of_app]
      intro k hk
      simp [morganL, nn] at hk
      omega)
    rw [nn_of_app, ok.1, so 3 (by omega)] at this
    simpa [morganL, nn, tn2, tn3, tn4, tn5] using this
  have e4 : vn vs (ns.length + 4) = (evV 5 1 0 0 (mn ms (fdI dqs ⟨#[]⟩)) [vn vs (ns.length + 2), vn vs (ns.length + 3)]).1 := by
    have := node_val hv (i := ns.length + 4) (by rw [hlen]; omega) (by
      rw [nn_of_app]
      intro k hk
      simp [morganL, nn] at hk
      omega)
    rw [nn_of_app, ok.1, so 4 (by omega)] at this
    simpa [morganL, nn, tn2, tn3, tn4, tn5] using this
  have e5 : vn vs (ns.length + 5) = (evV 6 1 0 0 (mn ms (fdI dqs ⟨#[]⟩)) [vn vs (ns.length + 1), vn vs (ns.length + 4)]).1 := by
    have := node_val hv (i := ns.length + 5) (by rw [hlen]; omega) (by
      rw [nn_of_app]
      intro k hk
      simp [morganL, nn] at hk
      omega)
    rw [nn_of_app, ok.1, so 5 (by omega)] at this
    simpa [morganL, nn, tn2, tn3, tn4, tn5] using this
  have hxb := bool_val bx
  have hyb := bool_val by'
  rcases hxb with hx' | hx' <;> rcases hyb with hy' | hy'
  all_goals
    rw [hx', hy'] at e0
    rw [e0] at e1
    rw [hx'] at e2
    rw [hy'] at e3
    rw [e2, e3] at e4
    rw [e1, e4] at e5
    rw [e5]
    rfl
def pickvL (N : Nat) (x y : Int) : List Nd := [⟨9, [], 0, 0, ⟨#[112]⟩⟩, ⟨7, [(N : Int), x, y], 0, 0, ⟨#[]⟩⟩, ⟨4, [(N : Int), x], 0, 0, ⟨#[]⟩⟩, ⟨3, [(N : Int)], 0, 0, ⟨#[]⟩⟩, ⟨4, [((N : Int) + 3), y], 0, 0, ⟨#[]⟩⟩, ⟨5, [((N : Int) + 2), ((N : Int) + 4)], 0, 0, ⟨#[]⟩⟩, ⟨6, [((N : Int) + 1), ((N : Int) + 5)], 0, 0, ⟨#[]⟩⟩]
theorem pickv_ok {ns : List Nd} {ss : List Int} {x y : Int} (h : Ok ns ss) (hx : 0 ≤ x ∧ x < ss.length ∧ nth ss x.toNat = 1) (hy : 0 ≤ y ∧ y < ss.length ∧ nth ss y.toNat = 1) : Ok (ns ++ pickvL ns.length x y) (ss ++ [1, 1, 1, 1, 1, 1, 1]) := by
  have hl := ok_len h
  have x0 := hx
  have y0 := hy
  obtain ⟨c0, t0⟩ : ndC dqs ⟨9, [], 0, 0, ⟨#[112]⟩⟩ (ss).length (ss) = 0 ∧ ndT dqs ⟨9, [], 0, 0, ⟨#[112]⟩⟩ (ss) = 1 := nd_name nm_p (by decide)
  have o0 := ok_put h c0 t0
  have x1 := nth_snoc (z := 1) x0
  have y1 := nth_snoc (z := 1) y0
  have n1_0 := nth_new (ss := ss) (k := (ns.length : Int)) (by simp [hl])
  obtain ⟨c1, t1⟩ : ndC dqs ⟨7, [(ns.length : Int), x, y], 0, 0, ⟨#[]⟩⟩ (ss ++ [1]).length (ss ++ [1]) = 0 ∧ ndT dqs ⟨7, [(ns.length : Int), x, y], 0, 0, ⟨#[]⟩⟩ (ss ++ [1]) = 1 := nd_pick n1_0 x1 y1
  have o1 := ok_put o0 c1 t1
  have x2 := nth_snoc (z := 1) x1
  have y2 := nth_snoc (z := 1) y1
  have n2_0 := nth_snoc (z := 1) n1_0
  have n2_1 := nth_new (ss := ss ++ [1]) (k := ((ns.length : Int) + 1)) (by simp [hl])
  obtain ⟨c2, t2⟩ : ndC dqs ⟨4, [(ns.length : Int), x], 0, 0, ⟨#[]⟩⟩ (ss ++ [1] ++ [1]).length (ss ++ [1] ++ [1]) = 0 ∧ ndT dqs ⟨4, [(ns.length : Int), x], 0, 0, ⟨#[]⟩⟩ (ss ++ [1] ++ [1]) = 1 := nd_bool (.inr (.inl ⟨.inl rfl, by simp⟩)) (fun k hk => by
    simp at hk
    rcases hk with rfl | rfl
    · exact n2_0
    · exact x2
)
  have o2 := ok_put o1 c2 t2
  have x3 := nth_snoc (z := 1) x2
  have y3 := nth_snoc (z := 1) y2
  have n3_0 := nth_snoc (z := 1) n2_0
  have n3_1 := nth_snoc (z := 1) n2_1
  have n3_2 := nth_new (ss := ss ++ [1] ++ [1]) (k := ((ns.length : Int) + 2)) (by simp [hl])
  obtain ⟨c3, t3⟩ : ndC dqs ⟨3, [(ns.length : Int)], 0, 0, ⟨#[]⟩⟩ (ss ++ [1] ++ [1] ++ [1]).length (ss ++ [1] ++ [1] ++ [1]) = 0 ∧ ndT dqs ⟨3, [(ns.length : Int)], 0, 0, ⟨#[]⟩⟩ (ss ++ [1] ++ [1] ++ [1]) = 1 := nd_bool (.inl ⟨rfl, rfl⟩) (fun k hk => by
    simp at hk
    subst hk
    exact n3_0)
  have o3 := ok_put o2 c3 t3
  have x4 := nth_snoc (z := 1) x3
  have y4 := nth_snoc (z := 1) y3
  have n4_0 := nth_snoc (z := 1) n3_0
  have n4_1 := nth_snoc (z := 1) n3_1
  have n4_2 := nth_snoc (z := 1) n3_2
  have n4_3 := nth_new (ss := ss ++ [1] ++ [1] ++ [1]) (k := ((ns.length : Int) + 3)) (by simp [hl])
  obtain ⟨c4, t4⟩ : ndC dqs ⟨4, [((ns.length : Int) + 3), y], 0, 0, ⟨#[]⟩⟩ (ss ++ [1] ++ [1] ++ [1] ++ [1]).length (ss ++ [1] ++ [1] ++ [1] ++ [1]) = 0 ∧ ndT dqs ⟨4, [((ns.length : Int) + 3), y], 0, 0, ⟨#[]⟩⟩ (ss ++ [1] ++ [1] ++ [1] ++ [1]) = 1 := nd_bool (.inr (.inl ⟨.inl rfl, by simp⟩)) (fun k hk => by
    simp at hk
    rcases hk with rfl | rfl
    · exact n4_3
    · exact y4
)
  have o4 := ok_put o3 c4 t4
  have x5 := nth_snoc (z := 1) x4
  have y5 := nth_snoc (z := 1) y4
  have n5_0 := nth_snoc (z := 1) n4_0
  have n5_1 := nth_snoc (z := 1) n4_1
  have n5_2 := nth_snoc (z := 1) n4_2
  have n5_3 := nth_snoc (z := 1) n4_3
  have n5_4 := nth_new (ss := ss ++ [1] ++ [1] ++ [1] ++ [1]) (k := ((ns.length : Int) + 4)) (by simp [hl])
  obtain ⟨c5, t5⟩ : ndC dqs ⟨5, [((ns.length : Int) + 2), ((ns.length : Int) + 4)], 0, 0, ⟨#[]⟩⟩ (ss ++ [1] ++ [1] ++ [1] ++ [1] ++ [1]).length (ss ++ [1] ++ [1] ++ [1] ++ [1] ++ [1]) = 0 ∧ ndT dqs ⟨5, [((ns.length : Int) + 2), ((ns.length : Int) + 4)], 0, 0, ⟨#[]⟩⟩ (ss ++ [1] ++ [1] ++ [1] ++ [1] ++ [1]) = 1 := nd_bool (.inr (.inl ⟨.inr rfl, by simp⟩)) (fun k hk => by
    simp at hk
    rcases hk with rfl | rfl
    · exact n5_2
    · exact n5_4
)
  have o5 := ok_put o4 c5 t5
  have x6 := nth_snoc (z := 1) x5
  have y6 := nth_snoc (z := 1) y5
  have n6_0 := nth_snoc (z := 1) n5_0
  have n6_1 := nth_snoc (z := 1) n5_1
  have n6_2 := nth_snoc (z := 1) n5_2
  have n6_3 := nth_snoc (z := 1) n5_3
  have n6_4 := nth_snoc (z := 1) n5_4
  have n6_5 := nth_new (ss := ss ++ [1] ++ [1] ++ [1] ++ [1] ++ [1]) (k := ((ns.length : Int) + 5)) (by simp [hl])
  obtain ⟨c6, t6⟩ : ndC dqs ⟨6, [((ns.length : Int) + 1), ((ns.length : Int) + 5)], 0, 0, ⟨#[]⟩⟩ (ss ++ [1] ++ [1] ++ [1] ++ [1] ++ [1] ++ [1]).length (ss ++ [1] ++ [1] ++ [1] ++ [1] ++ [1] ++ [1]) = 0 ∧ ndT dqs ⟨6, [((ns.length : Int) + 1), ((ns.length : Int) + 5)], 0, 0, ⟨#[]⟩⟩ (ss ++ [1] ++ [1] ++ [1] ++ [1] ++ [1] ++ [1]) = 1 := nd_bool (.inr (.inr ⟨rfl, rfl⟩)) (fun k hk => by
    simp at hk
    rcases hk with rfl | rfl
    · exact n6_1
    · exact n6_5
)
  have o6 := ok_put o5 c6 t6
  have x7 := nth_snoc (z := 1) x6
  have y7 := nth_snoc (z := 1) y6
  have n7_0 := nth_snoc (z := 1) n6_0
  have n7_1 := nth_snoc (z := 1) n6_1
  have n7_2 := nth_snoc (z := 1) n6_2
  have n7_3 := nth_snoc (z := 1) n6_3
  have n7_4 := nth_snoc (z := 1) n6_4
  have n7_5 := nth_snoc (z := 1) n6_5
  have n7_6 := nth_new (ss := ss ++ [1] ++ [1] ++ [1] ++ [1] ++ [1] ++ [1]) (k := ((ns.length : Int) + 6)) (by simp [hl])
  simpa [pickvL, List.append_assoc] using o6
theorem pickv_val {ns : List Nd} {ss : List Int} {ms : List Mg} {x y : Int} {vs : List Vl} (h : Ok ns ss) (hx : 0 ≤ x ∧ x < ss.length ∧ nth ss x.toNat = 1) (hy : 0 ≤ y ∧ y < ss.length ∧ nth ss y.toNat = 1) (h200 : ns.length ≤ 190) (hm : ms.length = 14) (hg : ∀ i, i < 14 → mcF dqs ms i = 0)
    (hv : valsE (evOf dqs (ns ++ pickvL ns.length x y) ms) (ns ++ pickvL ns.length x y).length = .ok vs) : (vn vs (ns.length + 6)).num = 1 := by
  have ok := pickv_ok h hx hy
  have hl := ok_len h
  have hlen : (ns ++ pickvL ns.length x y).length = ns.length + 7 := by rw [List.length_append]; rfl
  have h0 := world_fine (hs := []) (ms := ms) ok (by rw [hlen]; omega) (by simp) (fun i hi => absurd hi (by simp)) hm hg
  have good := vals_good (nd_known h0).2 (Nat.le_refl _) hv
  rw [ok.1, hlen] at good
  have so : ∀ j, j < 7 → nth (ss ++ [1, 1, 1, 1, 1, 1, 1]) (ns.length + j) = 1 := fun j hj => by
    rw [← hl, nth_of_app]
    have : j = 0 ∨ j = 1 ∨ j = 2 ∨ j = 3 ∨ j = 4 ∨ j = 5 ∨ j = 6 := by omega
    rcases this with rfl | rfl | rfl | rfl | rfl | rfl | rfl <;> rfl
  have bx := good x.toNat (by omega)
  have by' := good y.toNat (by omega)
  rw [nth_app_lt (by omega), hx.2.2] at bx
  rw [nth_app_lt (by omega), hy.2.2] at by'
  have bp := good (ns.length + 0) (by omega)
  rw [so 0 (by omega)] at bp
  have e1 : vn vs (ns.length + 1) = (evV 7 1 0 0 (mn ms (fdI dqs ⟨#[]⟩)) [vn vs (ns.length + 0), vn vs x.toNat, vn vs y.toNat]).1 := by
    have := node_val hv (i := ns.length + 1) (by rw [hlen]; omega) (by
      rw [nn_of_app]
      intro k hk
      simp [pickvL, nn] at hk
      omega)
    rw [nn_of_app, ok.1, so 1 (by omega)] at this
    simpa [pickvL, nn, tn2, tn3, tn4, tn5] using this
  have e2 : vn vs (ns.length + 2) = (evV 4 1 0 0 (mn ms (fdI dqs ⟨#[]⟩)) [vn vs (ns.length + 0), vn vs x.toNat]).1 := by
    have := node_val hv (i := ns.length + 2) (by rw [hlen]; omega) (by
      rw [nn_of_app]
      intro k hk
      simp [pickvL, nn] at hk
      omega)
    rw [nn_of_app, ok.1, so 2 (by omega)] at this
    simpa [pickvL, nn, tn2, tn3, tn4, tn5] using this
  have e3 : vn vs (ns.length + 3) = (evV 3 1 0 0 (mn ms (fdI dqs ⟨#[]⟩)) [vn vs (ns.length + 0)]).1 := by
    have := node_val hv (i := ns.length + 3) (by rw [hlen]; omega) (by
      rw [nn_of_app]
      intro k hk
      simp [pickvL, nn] at hk
      omega)
    rw [nn_of_app, ok.1, so 3 (by omega)] at this
    simpa [pickvL, nn, tn2, tn3, tn4, tn5] using this
  have e4 : vn vs (ns.length + 4) = (evV 4 1 0 0 (mn ms (fdI dqs ⟨#[]⟩)) [vn vs (ns.length + 3), vn vs y.toNat]).1 := by
    have := node_val hv (i := ns.length + 4) (by rw [hlen]; omega) (by
      rw [nn_of_app]
      intro k hk
      simp [pickvL, nn] at hk
      omega)
    rw [nn_of_app, ok.1, so 4 (by omega)] at this
    simpa [pickvL, nn, tn2, tn3, tn4, tn5] using this
  have e5 : vn vs (ns.length + 5) = (evV 5 1 0 0 (mn ms (fdI dqs ⟨#[]⟩)) [vn vs (ns.length + 2), vn vs (ns.length + 4)]).1 := by
    have := node_val hv (i := ns.length + 5) (by rw [hlen]; omega) (by
      rw [nn_of_app]
      intro k hk
      simp [pickvL, nn] at hk
      omega)
    rw [nn_of_app, ok.1, so 5 (by omega)] at this
    simpa [pickvL, nn, tn2, tn3, tn4, tn5] using this
  have e6 : vn vs (ns.length + 6) = (evV 6 1 0 0 (mn ms (fdI dqs ⟨#[]⟩)) [vn vs (ns.length + 1), vn vs (ns.length + 5)]).1 := by
    have := node_val hv (i := ns.length + 6) (by rw [hlen]; omega) (by
      rw [nn_of_app]
      intro k hk
      simp [pickvL, nn] at hk
      omega)
    rw [nn_of_app, ok.1, so 6 (by omega)] at this
    simpa [pickvL, nn, tn2, tn3, tn4, tn5] using this
  have hxb := bool_val bx
  have hyb := bool_val by'
  have hpb := bool_val bp
  rcases hpb with hp | hp <;> rcases hxb with hx' | hx' <;> rcases hyb with hy' | hy'
  all_goals
    rw [hp, hx', hy'] at e1
    rw [hp, hx'] at e2
    rw [hp] at e3
    rw [e3, hy'] at e4
    rw [e2, e4] at e5
    rw [e1, e5] at e6
    rw [e6]
    rfl
end Go.Proofs.YtcpeddogckillaaGreat
