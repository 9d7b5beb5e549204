/-
  Asks that are made of raw numbers: leaves.
  Asks that are made of raw numbers: the last node of a sort.
  Asks that are made of raw numbers: a number, a node more.
  Asks that are made of raw numbers: the declared names.
-/
import Derived.Test.YtcpeddogckillaaGreatG23
namespace Go.Proofs.YtcpeddogckillaaGreat
open Go.RowKit

/-- What the maker has in memory is nodes that may be, of these sorts. -/
def Mo (Y : Nat → Prop) (base g : Nat) (nv sv : Value) (w : World) (ss : List Int) : Prop := ∃ ps : List (Nd × Value), Mk Y base g nv sv w ps ss ∧ Ok (ps.map (·.1)) ss
theorem Mk.mv {Y : Nat → Prop} {base g : Nat} {nv sv : Value} {w w' : World} {ps : List (Nd × Value)} {ss : List Int} (h : Mk Y base g nv sv w ps ss) (k : Below w.heap.size w w') : Mk Y base g nv sv w' ps ss :=
  ⟨h.1, h.2.1.below k, own_below h.2.2.1 k, own_below h.2.2.2.1 k, fun p hp => ⟨(h.2.2.2.2 p hp).1, (h.2.2.2.2 p hp).2.mv (base := w.heap.size) (mv_below (Nat.le_refl _) k)⟩⟩
theorem Mo.mv {Y : Nat → Prop} {base g : Nat} {nv sv : Value} {w w' : World} {ss : List Int} (h : Mo Y base g nv sv w ss) (k : Below w.heap.size w w') : Mo Y base g nv sv w' ss := by
  obtain ⟨ps, h1, h2⟩ := h
  exact ⟨ps, h1.mv k, h2⟩
/-- The maker has nodes of these sorts more. -/
def More (Y : Nat → Prop) (base g : Nat) (nv sv : Value) (w : World) (ss more : List Int) (w' : World) : Prop :=
  ∃ nv' sv', Mo Y base g nv' sv' w' (ss ++ more) ∧ Mv base (Mb g nv sv) w (Mb g nv' sv') w'
theorem put_mo {Y : Nat → Prop} {base g : Nat} {nv sv kv : Value} {ss : List Int} (q : Nd) (s : Int) {w W : World} (hl : ss.length ≤ 1000000) (hM : Mo Y base g nv sv w ss) (hW : Below w.heap.size w W) (hk : Kat W (MbY Y g nv sv) kv q.kids) (hnm : q.name.size ≤ maxLen) (hq : ndC dqs q ss.length ss = 0 ∧ ndT dqs q ss = s) :
    Calls Tryz.prog 53 #[.pointer (some ⟨g, 0, none⟩), .agg #[.int .i64 q.op, kv, .int .i64 q.n, .int .i64 q.d, .string q.name], .int .i64 s] W fun e w' => e = .returned (.int .i64 ss.length) ∧ Hid (More Y base g nv sv w ss [s] w') := by
  have hbw : base ≤ w.heap.size := by
    obtain ⟨ps, h1, _⟩ := hM
    have := h1.2.1.lt
    have := h1.1
    omega
  obtain ⟨ps, h1, h2⟩ := hM.mv hW
  have hlen := ok_len h2
  rw [List.length_map] at hlen
  refine (put_any Y base g nv sv kv ps ss q s W (by omega) hl h1 hk hnm).mono ?_
  rintro e w' ⟨rfl, nv', sv', h3, h4⟩
  refine ⟨by rw [hlen], nv', sv', ⟨_, h3, ?_⟩, (mv_below hbw hW).trans h4⟩
  rw [List.map_append]
  exact ok_put h2 hq.1 hq.2
theorem pick_rng (a : Int) (n : Nat) (h1 : 1 ≤ n) (h2 : n ≤ 1000) (w : World) : Calls Tryz.prog 25 #[.int .i64 a, .int .i64 n] w fun e w' => ∃ r : Int, e = .returned (.int .i64 r) ∧ 0 ≤ r ∧ r < n ∧ w' = w :=
  (picked_any a n h1 h2 w).mono fun _ _ h => ⟨a % n, h.1, Int.emod_nonneg _ (by omega), Int.emod_lt_of_pos _ (by omega), h.2⟩
theorem nm_len (a : UInt8) : (⟨#[a]⟩ : ByteArray).size ≤ maxLen := by unfold maxLen; simp [ByteArray.size]
set_option maxHeartbeats 8000000 in
theorem leaf_any (Y : Nat → Prop) (base g : Nat) (nv sv : Value) (ss : List Int) (sort n : Int) (w : World) (hs : sort = 1 ∨ sort = 2 ∨ sort = 3 ∨ sort = 4 ∨ sort = 5 ∨ sort = 13) (hl : ss.length ≤ 1000000) (hM : Mo Y base g nv sv w ss) :
    Calls Tryz.prog 92 #[.pointer (some ⟨g, 0, none⟩), .int .i64 sort, .int .i64 n] w fun e w' => e = .returned (.int .i64 ss.length) ∧ Hid (More Y base g nv sv w ss [sort] w') := by
  have HP4 : Hid (∀ a W, Calls Tryz.prog 25 #[.int .i64 a, .int .i64 4] W fun e w' => ∃ r : Int, e = .returned (.int .i64 r) ∧ 0 ≤ r ∧ r < 4 ∧ w' = W) := Lib.hid (fun a W => pick_rng a 4 (by decide) (by decide) W)
  have HP2 : Hid (∀ a W, Calls Tryz.prog 25 #[.int .i64 a, .int .i64 2] W fun e w' => ∃ r : Int, e = .returned (.int .i64 r) ∧ 0 ≤ r ∧ r < 2 ∧ w' = W) := Lib.hid (fun a W => pick_rng a 2 (by decide) (by decide) W)
  have HP7 : Hid (∀ a W, Calls Tryz.prog 25 #[.int .i64 a, .int .i64 7] W fun e w' => ∃ r : Int, e = .returned (.int .i64 r) ∧ 0 ≤ r ∧ r < 7 ∧ w' = W) := Lib.hid (fun a W => pick_rng a 7 (by decide) (by decide) W)
  have HP8 : Hid (∀ a W, Calls Tryz.prog 25 #[.int .i64 a, .int .i64 8] W fun e w' => ∃ r : Int, e = .returned (.int .i64 r) ∧ 0 ≤ r ∧ r < 8 ∧ w' = W) := Lib.hid (fun a W => pick_rng a 8 (by decide) (by decide) W)
  have HPUT : Hid (∀ (W : World) (op k d : Int) (nm : ByteArray) (s : Int), Below w.heap.size w W → nm.size ≤ maxLen → (ndC dqs ⟨op, [], k, d, nm⟩ ss.length ss = 0 ∧ ndT dqs ⟨op, [], k, d, nm⟩ ss = s) → Calls Tryz.prog 53 #[.pointer (some ⟨g, 0, none⟩), .agg #[.int .i64 op, .slice none 0 0, .int .i64 k, .int .i64 d, .string nm], .int .i64 s] W fun e w' => e = .returned (.int .i64 ss.length) ∧ Hid (More Y base g nv sv w ss [s] w')) :=
    Lib.hid (fun W op k d nm s hW hnm hq => put_mo (kv := .slice none 0 0) ⟨op, [], k, d, nm⟩ s hl hM hW (kat_nil _ _) hnm hq)
  clear hM
  rcases hs with rfl | rfl | rfl | rfl | rfl | rfl
  all_goals
    go_enter Tryz.func92, Tryz.ntmps92
    go_wp2_with fail
    refine (HP4.out _ _).mono ?_
    rintro e w1 ⟨r, rfl, r0, r1, rfl⟩
    have r2 : r = 0 ∨ r = 1 ∨ r = 2 ∨ r = 3 := by omega
    clear r0 r1
    rcases r2 with rfl | rfl | rfl | rfl
    all_goals
      go_wp2_with fail
      try
        first
          | (with_reducible refine (HP2.out _ _).mono ?_)
          | (with_reducible refine (HP4.out _ _).mono ?_)
          | (with_reducible refine (HP7.out _ _).mono ?_)
          | (with_reducible refine (HP8.out _ _).mono ?_)
        rintro e w2 ⟨q, rfl, q0, q1, rfl⟩
        go_wp2_with fail
      refine (HPUT.out _ _ _ _ _ _ ?_ ?_ ?_).mono ?_
      · first | exact new_below _ _ | exact Below.refl _ _
      · first | exact nm_len _ | exact Nat.zero_le _
      · first | exact nd_name nm_p (by decide) | exact nd_name nm_q (by decide) | exact nd_name nm_x (by decide) | exact nd_name nm_y (by decide) | exact nd_name nm_r (by decide) | exact nd_name nm_a (by decide) | exact nd_name nm_b (by decide) | exact nd_name nm_c (by decide) | exact nd_name nm_m (by decide) | exact nd_name nm_v (by decide) | exact nd_name nm_w (by decide) | exact nd_tf q ⟨q0, q1⟩ | exact nd_int q ⟨q0, q1⟩ | exact nd_real q ⟨q0, q1⟩ | exact nd_word q ⟨q0, q1⟩
      · rintro e w3 ⟨rfl, H⟩
        go_wp2_with fail
        go_ret
        exact ⟨rfl, H⟩
end Go.Proofs.YtcpeddogckillaaGreat
namespace Go.Proofs.YtcpeddogckillaaGreat
open Go.RowKit

/-- What a look for the last node of a sort yields. -/
def LastQ (Y : Nat → Prop) (base g : Nat) (nv sv : Value) (w : World) (ss : List Int) (sort : Int) (e : Ending) (w' : World) : Prop :=
  ∃ (j : Nat) (more : List Int), e = .returned (.int .i64 j) ∧ Hid (More Y base g nv sv w ss more w') ∧ j < (ss ++ more).length ∧ nth (ss ++ more) j = sort ∧ more.length ≤ 1
theorem more_nil {Y : Nat → Prop} {base g : Nat} {nv sv : Value} {ss : List Int} {w w' : World} (hM : Mo Y base g nv sv w ss) (h : Below w.heap.size w w') : More Y base g nv sv w ss [] w' := by
  have hbw : base ≤ w.heap.size := by
    obtain ⟨ps, h1, _⟩ := hM
    have := h1.2.1.lt
    have := h1.1
    omega
  exact ⟨nv, sv, by rw [List.append_nil]; exact hM.mv h, mv_below hbw h⟩
theorem more_below {Y : Nat → Prop} {base g : Nat} {nv sv : Value} {ss more : List Int} {w W w' : World} (hM : Mo Y base g nv sv w ss) (h : Below w.heap.size w W) (k : More Y base g nv sv W ss more w') : More Y base g nv sv w ss more w' := by
  have hbw : base ≤ w.heap.size := by
    obtain ⟨ps, h1, _⟩ := hM
    have := h1.2.1.lt
    have := h1.1
    omega
  obtain ⟨nv', sv', h1, h2⟩ := k
  exact ⟨nv', sv', h1, (mv_below hbw h).trans h2⟩
set_option maxHeartbeats 8000000 in
theorem last_any (Y : Nat → Prop) (base g : Nat) (nv sv : Value) (ss : List Int) (sort back deep : Int) (w : World) (hs : sort = 1 ∨ sort = 2 ∨ sort = 3 ∨ sort = 4 ∨ sort = 5 ∨ sort = 13) (hl : ss.length ≤ 900) (hM : Mo Y base g nv sv w ss) :
    Calls Tryz.prog 54 #[.pointer (some ⟨g, 0, none⟩), .int .i64 sort, .int .i64 back, .int .i64 deep] w (LastQ Y base g nv sv w ss sort) := by
  have HM := Lib.hid hM
  have HLEAF : Hid (∀ W n, Below w.heap.size w W → Calls Tryz.prog 92 #[.pointer (some ⟨g, 0, none⟩), .int .i64 sort, .int .i64 n] W fun e w' => e = .returned (.int .i64 ss.length) ∧ Hid (More Y base g nv sv w ss [sort] w')) := Lib.hid (fun W n hW => (leaf_any Y base g nv sv ss sort n W hs (by omega) (hM.mv hW)).mono fun e w' ⟨h1, h2⟩ => ⟨h1, Lib.hid (more_below hM hW h2.out)⟩)
  have HEND : Hid (∀ (j : Nat) w', Below w.heap.size w w' → j < ss.length → nth ss j = sort → LastQ Y base g nv sv w ss sort (.returned (.int .i64 j)) w') := Lib.hid (fun j w' hW h1 h2 => ⟨j, [], rfl, Lib.hid (more_nil hM hW), by simpa using h1, by simpa using h2, by simp⟩)
  have HNEW : Hid (∀ w', More Y base g nv sv w ss [sort] w' → LastQ Y base g nv sv w ss sort (.returned (.int .i64 ss.length)) w') := Lib.hid (fun w' h => ⟨ss.length, [sort], rfl, Lib.hid h, by simp, nth_app_eq rfl, by simp⟩)
  obtain ⟨ps, hk, _⟩ := hM
  obtain ⟨_, hg, _, ho, _⟩ := hk
  obtain ⟨S, sc, rfl⟩ := own_val ho
  have his := own_isb ho rfl
  have HIS := Lib.hid his.1.is
  have HG := Lib.hid hg
  have HPK : Hid (∀ a (n : Nat) W, 1 ≤ n → n ≤ 1000 → Calls Tryz.prog 25 #[.int .i64 a, .int .i64 n] W fun e w' => ∃ r : Int, e = .returned (.int .i64 r) ∧ 0 ≤ r ∧ r < n ∧ w' = W) := Lib.hid (fun a n W h1 h2 => pick_rng a n h1 h2 W)
  clear hs hg ho his
  generalize hm : ss.length = m at *
  have HM0 := Lib.hid hm
  clear hm
  obtain ⟨g0, g1, _, _⟩ := HG.out.two
  have lg := HG.out.lt
  generalize LastQ Y base g nv (.slice S m sc) w ss sort = Q0 at *
  go_enter Tryz.func54, Tryz.ntmps54
  go_wp2_with fail
  go_loopw [9, 10] (fun v z wr => ∃ (zi : Int) (L : List Int) (Aa : Option Addr) (ca ll : Nat), -1 ≤ zi ∧ zi < m ∧ (ll : Int) + zi + 1 ≤ m ∧ z = .int .i64 zi ∧ v = .slice Aa ll ca ∧ Hid (ll = L.length) ∧ Hid (wr.ownsRow w.heap.size 3 1 (.slice Aa ll ca) ll (intV L)) ∧ Hid (∀ x ∈ L, 0 ≤ x ∧ x < m ∧ nth ss x.toNat = sort) ∧ Hid (Below w.heap.size w wr)) (fun _ z _ => (intOf z + 1).toNat)
  case atStart => exact ⟨(m : Int) - 1, [], none, 0, 0, by omega, by omega, by omega, by go_num, rfl, Lib.hid rfl, Lib.hid (own_nil _ _ _ _), Lib.hid (fun x hx => absurd hx (by simp)), Lib.hid (Below.refl _ _)⟩
  case round =>
    obtain ⟨zi, L, Aa, ca, ll, z1, z2, z3, rfl, rfl, HLL, HO, HX, HB1⟩ := hrel
    clear g0 g1
    have HG2 := Lib.hid (HG.out.below HB1.out)
    obtain ⟨g0, g1, _, _⟩ := HG2.out.two
    by_cases hz : zi = -1
    · subst hz
      have hll : ll ≤ 900 := by omega
      clear z1 z2 z3
      have X50 := Lib.hid (HLEAF.out wr back HB1.out)
      have fin : Hid (∀ (e : Ending) (w' : World), e = .returned (.int .i64 m) ∧ Hid (More Y base g nv (.slice S m sc) w ss [sort] w') → e = .returned (.int .i64 m) ∧ Q0 (.returned (.int .i64 m)) w') := Lib.hid (fun e w' h => ⟨h.1, HNEW.out w' h.2.out⟩)
      by_cases hl0 : ll = 0
      · subst hl0
        go_wp2_with fail
        refine X50.out.mono ?_
        intro e w' h
        obtain ⟨rfl, hq⟩ := fin.out e w' h
        have HQ := Lib.hid hq
        clear hq h
        go_wp2_with fail
        first | exact HQ.out | (go_ret; exact HQ.out)
      · have t1 : decide ((0 : Int) < ll) = true := by simp; omega
        have t2 : decide (0 < ll) = true := by simp; omega
        have hl1 : 1 ≤ ll := by omega
        by_cases hd : deep = 0
        · have t3 : (deep == 0) = true := by simpa using hd
          clear hd hl0
          go_wp2_with fail
          refine (HPK.out _ ll wr hl1 (by omega)).mono ?_
          rintro e w2 ⟨r, rfl, r0, r1, rfl⟩
          obtain ⟨k, rfl⟩ : ∃ k : Nat, r = k := ⟨r.toNat, by omega⟩
          have hkl : k < ll := by omega
          obtain ⟨b3, o3, rfl, _, c3⟩ := is_at (i := k) (own_isb HO.out HLL.out.symm).1.is (by rw [← HLL.out]; exact hkl)
          obtain ⟨p0, p1, p2⟩ := HX.out (nth L k) (by rw [nth_of (by rw [← HLL.out]; exact hkl)]; exact List.getElem_mem _)
          obtain ⟨j, hj⟩ : ∃ j : Nat, nth L k = j := ⟨(nth L k).toNat, by omega⟩
          rw [hj] at c3 p1 p2
          rw [Int.toNat_natCast] at p2
          have HQ := Lib.hid (HEND.out j _ HB1.out (by omega) p2)
          clear p0 p1 p2 hj r0 r1
          go_wp2_with fail
          first | exact HQ.out | (go_ret; exact HQ.out)
        · have t3 : (deep == 0) = false := by simpa using hd
          clear hd hl0
          by_cases hb : 0 < back.tmod 3
          · have t4 : decide (0 < back.tmod 3) = true := by simpa using hb
            clear hb
            go_wp2_with fail
            refine (HPK.out _ ll wr hl1 (by omega)).mono ?_
            rintro e w2 ⟨r, rfl, r0, r1, rfl⟩
            obtain ⟨k, rfl⟩ : ∃ k : Nat, r = k := ⟨r.toNat, by omega⟩
            have hkl : k < ll := by omega
            obtain ⟨b3, o3, rfl, _, c3⟩ := is_at (i := k) (own_isb HO.out HLL.out.symm).1.is (by rw [← HLL.out]; exact hkl)
            obtain ⟨p0, p1, p2⟩ := HX.out (nth L k) (by rw [nth_of (by rw [← HLL.out]; exact hkl)]; exact List.getElem_mem _)
            obtain ⟨j, hj⟩ : ∃ j : Nat, nth L k = j := ⟨(nth L k).toNat, by omega⟩
            rw [hj] at c3 p1 p2
            rw [Int.toNat_natCast] at p2
            have HQ := Lib.hid (HEND.out j _ HB1.out (by omega) p2)
            clear p0 p1 p2 hj r0 r1
            go_wp2_with fail
            first | exact HQ.out | (go_ret; exact HQ.out)
          · have t4 : decide (0 < back.tmod 3) = false := by simpa using hb
            clear hb
            go_wp2_with fail
            refine X50.out.mono ?_
            intro e w' h
            obtain ⟨rfl, hq⟩ := fin.out e w' h
            have HQ := Lib.hid hq
            clear hq h
            go_wp2_with fail
            first | exact HQ.out | (go_ret; exact HQ.out)
    · obtain ⟨k, rfl⟩ : ∃ k : Nat, zi = k := ⟨zi.toNat, by omega⟩
      have hkm : k < m := by omega
      have hll : ll ≤ 900 := by omega
      clear z1 hz
      obtain ⟨b1, o1, rfl, _, c0⟩ := is_at (i := k) (HIS.out.below HB1.out) (by rw [HM0.out]; exact hkm)
      have hwr := HB1.out.size
      by_cases hx : nth ss k = sort
      · rw [hx] at c0
        have HXK := Lib.hid hx
        clear hx
        go_wp2_with (at_builtin; refine wpl_app 22 3 Tryz.underlying22 (.int .i64 0) 1 8 info3' rfl (by decide) rfl _ _ rfl w.heap.size (.slice Aa ll ca) ll (intV L) rfl (own_alloc HO.out _) wr.heap.size #[.int .i64 k] rfl (HB.new _ _ _) rfl (by simp [Value.oneCell']) (by omega) (by unfold maxLen; omega) (by simp; omega) ?_)
        intro g3 cap3 w3 hown3 hkp3 hb3
        have HB3 := Lib.hid (hb3 w (Below.alloc HB1.out hwr _))
        clear hkp3 hb3
        go_wp2_with fail
        go_round
        case rel => exact ⟨(k : Int) - 1, L ++ [(k : Int)], _, _, _, by omega, by omega, by omega, by go_num, rfl, Lib.hid (by simp [HLL.out]), Lib.hid (by simpa [intV] using hown3.out), Lib.hid (fun x hx => by
          rcases List.mem_append.1 hx with z | z
          · exact HX.out x z
          · simp at z
            subst z
            exact ⟨by omega, by omega, by simpa using HXK.out⟩), HB3⟩
        case measure => simp [intOf]
      · have t1 : (nth ss k == sort) = false := by simpa using hx
        generalize nth ss k = xk at *
        clear hx
        go_wp2_with fail
        go_round
        case rel => exact ⟨(k : Int) - 1, L, Aa, ca, ll, by omega, by omega, by omega, by go_num, rfl, HLL, HO, HX, HB1⟩
        case measure => simp [intOf]
end Go.Proofs.YtcpeddogckillaaGreat
namespace Go.Proofs.YtcpeddogckillaaGreat
open Go.RowKit

/-- What a look for a number yields. -/
def NumQ (Y : Nat → Prop) (base g : Nat) (nv sv : Value) (w : World) (ss : List Int) (e : Ending) (w' : World) : Prop := ∃ sort, (sort = 2 ∨ sort = 3) ∧ LastQ Y base g nv sv w ss sort e w'
set_option maxHeartbeats 2000000 in
theorem mknumber_any (Y : Nat → Prop) (base g : Nat) (nv sv : Value) (ss : List Int) (n deep : Int) (w : World) (hl : ss.length ≤ 900) (hM : Mo Y base g nv sv w ss) :
    Calls Tryz.prog 55 #[.pointer (some ⟨g, 0, none⟩), .int .i64 n, .int .i64 deep] w (NumQ Y base g nv sv w ss) := by
  have HP5 : Hid (∀ a W, Calls Tryz.prog 25 #[.int .i64 a, .int .i64 5] W fun e w' => ∃ r : Int, e = .returned (.int .i64 r) ∧ 0 ≤ r ∧ r < 5 ∧ w' = W) := Lib.hid (fun a W => pick_rng a 5 (by decide) (by decide) W)
  have X2 : Hid (∀ back, Calls Tryz.prog 54 #[.pointer (some ⟨g, 0, none⟩), .int .i64 2, .int .i64 back, .int .i64 deep] w (fun e w' => ∃ j : Nat, e = .returned (.int .i64 j) ∧ Hid (NumQ Y base g nv sv w ss (.returned (.int .i64 j)) w'))) := Lib.hid (fun back => (last_any Y base g nv sv ss 2 back deep w (by simp) hl hM).mono fun e w' h => by
    obtain ⟨j, more, rfl, h2⟩ := h
    exact ⟨j, rfl, Lib.hid ⟨2, .inl rfl, j, more, rfl, h2⟩⟩)
  have X3 : Hid (∀ back, Calls Tryz.prog 54 #[.pointer (some ⟨g, 0, none⟩), .int .i64 3, .int .i64 back, .int .i64 deep] w (fun e w' => ∃ j : Nat, e = .returned (.int .i64 j) ∧ Hid (NumQ Y base g nv sv w ss (.returned (.int .i64 j)) w'))) := Lib.hid (fun back => (last_any Y base g nv sv ss 3 back deep w (by simp) hl hM).mono fun e w' h => by
    obtain ⟨j, more, rfl, h2⟩ := h
    exact ⟨j, rfl, Lib.hid ⟨3, .inr rfl, j, more, rfl, h2⟩⟩)
  clear hM hl
  generalize NumQ Y base g nv sv w ss = Q0 at *
  go_enter Tryz.func55, Tryz.ntmps55
  go_wp2_with fail
  refine (HP5.out _ _).mono ?_
  rintro e w1 ⟨r, rfl, r0, r1, rfl⟩
  by_cases hr : r = 0
  · subst hr
    go_wp2_with fail
    refine (X3.out _).mono ?_
    rintro e w2 ⟨j, rfl, HQ⟩
    go_wp2_with fail
    first | exact HQ.out | (go_ret; exact HQ.out)
  · have t1 : (r == 0) = false := by simpa using hr
    clear hr
    go_wp2_with fail
    refine (X2.out _).mono ?_
    rintro e w2 ⟨j, rfl, HQ⟩
    go_wp2_with fail
    first | exact HQ.out | (go_ret; exact HQ.out)
theorem mb_lt {Y : Nat → Prop} {base g : Nat} {nv sv : Value} {ss : List Int} {w : World} (h : Mo Y base g nv sv w ss) {b : Nat} (hb : Mb g nv sv b) : b < w.heap.size := by
  obtain ⟨ps, ⟨_, h1, h2, h3, _⟩, _⟩ := h
  rcases hb with rfl | z | z
  · exact h1.lt
  · rcases h2.2 with ⟨rfl, _⟩ | ⟨g', cap, cur, rfl, _, hh, _⟩
    · simp [Value.ownBlock] at z
    · simp [Value.ownBlock] at z; subst z; exact HB.lt hh
  · rcases h3.2 with ⟨rfl, _⟩ | ⟨g', cap, cur, rfl, _, hh, _⟩
    · simp [Value.ownBlock] at z
    · simp [Value.ownBlock] at z; subst z; exact HB.lt hh
/-- Kids in memory that was just made. -/
theorem kat_new {base g : Nat} {nv sv : Value} {ss : List Int} {w : World} (h : Mo No base g nv sv w ss) (ks : List Int) (hk : ks.length ≤ maxLen) : Kat (w.alloc (.cells (intV ks).toArray 3)) (MbY No g nv sv) (.slice (some ⟨w.heap.size, 0, none⟩) ks.length ks.length) ks := by
  refine ⟨_, _, rfl, Nat.le_refl _, hk, fun _ => ⟨w.heap.size, 0, _, rfl, HB.new _ _ _, fun z => ?_, fun k hk => ?_⟩⟩
  · rcases z with z | z
    · have := mb_lt h z
      omega
    · exact z.elim
  · rw [Nat.zero_add]
    simp [intV, nth, List.getD, hk]
/-- A node whose kids were just made is put. -/
theorem put_new {base g : Nat} {nv sv : Value} {ss : List Int} (q : Nd) (s : Int) {W : World} (hl : ss.length ≤ 1000000) (hM : Mo No base g nv sv W ss) (hk : q.kids.length ≤ 8) (hnm : q.name.size ≤ maxLen) (hq : ndC dqs q ss.length ss = 0 ∧ ndT dqs q ss = s) :
    Calls Tryz.prog 53 #[.pointer (some ⟨g, 0, none⟩), .agg #[.int .i64 q.op, .slice (some ⟨W.heap.size, 0, none⟩) q.kids.length q.kids.length, .int .i64 q.n, .int .i64 q.d, .string q.name], .int .i64 s] (W.alloc (.cells (intV q.kids).toArray 3)) fun e w' => e = .returned (.int .i64 ss.length) ∧ Hid (More No base g nv sv W ss [s] w') :=
  put_mo q s hl hM (new_below _ _) (kat_new hM q.kids (by unfold maxLen; omega)) hnm hq
/-- The sorts of kids. -/
theorem kso1 {ss : List Int} {j : Nat} {s : Int} (h : nth ss j = s) : kSo ss [(j : Int)] = [s] := by simp [kSo, h]
theorem kso2 {ss : List Int} {j k : Nat} {s t : Int} (h : nth ss j = s) (h' : nth ss k = t) : kSo ss [(j : Int), (k : Int)] = [s, t] := by simp [kSo, h, h']
theorem kso3 {ss : List Int} {i j k : Nat} {r s t : Int} (h0 : nth ss i = r) (h : nth ss j = s) (h' : nth ss k = t) : kSo ss [(i : Int), (j : Int), (k : Int)] = [r, s, t] := by simp [kSo, h0, h, h']
/-- One more step of the maker. -/
theorem More.step {Y : Nat → Prop} {base g : Nat} {nv sv nv1 sv1 : Value} {ss m1 m2 : List Int} {w w1 w2 : World} (h1 : Mv base (Mb g nv sv) w (Mb g nv1 sv1) w1) (k : More Y base g nv1 sv1 w1 (ss ++ m1) m2 w2) : More Y base g nv sv w ss (m1 ++ m2) w2 := by
  obtain ⟨nv2, sv2, h2, h3⟩ := k
  exact ⟨nv2, sv2, by rw [← List.append_assoc]; exact h2, h1.trans h3⟩
/-- A node without a name and without numbers, of kids that are there. -/
theorem nd_plain {ss : List Int} (op : Int) (ks : List Int) (s : Int) (h1 : 1 ≤ op ∧ op ≤ 25 ∧ op ≠ 9 ∧ op ≠ 10 ∧ op ≠ 12 ∧ op ≠ 15 ∧ op ≠ 23) (h3 : ks.length ≤ 8) (h4 : kcN op = -1 ∨ (ks.length : Int) = kcN op) (h5 : ∀ k ∈ ks, 0 ≤ k ∧ k < ss.length) (h7 : srt op 0 0 (kSo ss ks) = s) (h8 : s ≠ 0) :
    ndC dqs ⟨op, ks, 0, 0, ⟨#[]⟩⟩ ss.length ss = 0 ∧ ndT dqs ⟨op, ks, 0, 0, ⟨#[]⟩⟩ ss = s := by
  obtain ⟨a1, a2, a3, a4, a5, a6, a7⟩ := h1
  refine nd_ok ⟨a1, a2⟩ (fun z => absurd z a3) h3 (by simpa [kWant, a3] using h4) h5 ?_ (by simpa [ndT, kDs, a3] using h7) h8
  simp [flC, a4, a5, a6]
end Go.Proofs.YtcpeddogckillaaGreat
namespace Go.Proofs.YtcpeddogckillaaGreat
open Go.RowKit

theorem dqs_at {w : World} {g a b c : Nat} (hg : HB w g 41 #[.string ⟨#[112]⟩, .slice none 0 0, .int .i64 1, .string ⟨#[113]⟩, .slice none 0 0, .int .i64 1, .string ⟨#[120]⟩, .slice none 0 0, .int .i64 2, .string ⟨#[121]⟩, .slice none 0 0, .int .i64 2, .string ⟨#[114]⟩, .slice none 0 0, .int .i64 3, .string ⟨#[97]⟩, .slice none 0 0, .int .i64 4, .string ⟨#[98]⟩, .slice none 0 0, .int .i64 4, .string ⟨#[99]⟩, .slice none 0 0, .int .i64 4, .string ⟨#[102]⟩, .slice (some ⟨a, 0, none⟩) 1 1, .int .i64 4, .string ⟨#[103]⟩, .slice (some ⟨b, 0, none⟩) 2 2, .int .i64 1, .string ⟨#[104]⟩, .slice (some ⟨c, 0, none⟩) 1 1, .int .i64 2, .string ⟨#[109]⟩, .slice none 0 0, .int .i64 5, .string ⟨#[118]⟩, .slice none 0 0, .int .i64 13, .string ⟨#[119]⟩, .slice none 0 0, .int .i64 13]) (ha : HB w a 3 #[.int .i64 4]) (hb : HB w b 3 #[.int .i64 4, .int .i64 4]) (hc : HB w c 3 #[.int .i64 4]) : DsAt w (some ⟨g, 0, none⟩) dqs := fun _ => ⟨g, 0, rfl, hg.lt, fun i q hq => by
  have hi : i < 14 := by
    rcases Nat.lt_or_ge i 14 with z | z
    · exact z
    · rw [List.getElem?_eq_none (by simpa [dqs] using z)] at hq
      cases hq
  have h14 : i = 0 ∨ i = 1 ∨ i = 2 ∨ i = 3 ∨ i = 4 ∨ i = 5 ∨ i = 6 ∨ i = 7 ∨ i = 8 ∨ i = 9 ∨ i = 10 ∨ i = 11 ∨ i = 12 ∨ i = 13 := by omega
  rcases h14 with rfl | rfl | rfl | rfl | rfl | rfl | rfl | rfl | rfl | rfl | rfl | rfl | rfl | rfl
  all_goals (simp [dqs] at hq; subst hq)
  · exact ⟨(hg.cell _).trans rfl, (hg.cell _).trans rfl, nm_len _, none, 0, (hg.cell _).trans rfl, Nat.le_refl _, Nat.zero_le _, is_nil _ _⟩
  · exact ⟨(hg.cell _).trans rfl, (hg.cell _).trans rfl, nm_len _, none, 0, (hg.cell _).trans rfl, Nat.le_refl _, Nat.zero_le _, is_nil _ _⟩
  · exact ⟨(hg.cell _).trans rfl, (hg.cell _).trans rfl, nm_len _, none, 0, (hg.cell _).trans rfl, Nat.le_refl _, Nat.zero_le _, is_nil _ _⟩
  · exact ⟨(hg.cell _).trans rfl, (hg.cell _).trans rfl, nm_len _, none, 0, (hg.cell _).trans rfl, Nat.le_refl _, Nat.zero_le _, is_nil _ _⟩
  · exact ⟨(hg.cell _).trans rfl, (hg.cell _).trans rfl, nm_len _, none, 0, (hg.cell _).trans rfl, Nat.le_refl _, Nat.zero_le _, is_nil _ _⟩
  · exact ⟨(hg.cell _).trans rfl, (hg.cell _).trans rfl, nm_len _, none, 0, (hg.cell _).trans rfl, Nat.le_refl _, Nat.zero_le _, is_nil _ _⟩
  · exact ⟨(hg.cell _).trans rfl, (hg.cell _).trans rfl, nm_len _, none, 0, (hg.cell _).trans rfl, Nat.le_refl _, Nat.zero_le _, is_nil _ _⟩
  · exact ⟨(hg.cell _).trans rfl, (hg.cell _).trans rfl, nm_len _, none, 0, (hg.cell _).trans rfl, Nat.le_refl _, Nat.zero_le _, is_nil _ _⟩
  · exact ⟨(hg.cell _).trans rfl, (hg.cell _).trans rfl, nm_len _, some ⟨a, 0, none⟩, 1, (hg.cell _).trans rfl, by decide, by unfold maxLen; decide, is_row ha (fun k hk => by
      simp at hk
      subst hk; rfl)⟩
  · exact ⟨(hg.cell _).trans rfl, (hg.cell _).trans rfl, nm_len _, some ⟨b, 0, none⟩, 2, (hg.cell _).trans rfl, by decide, by unfold maxLen; decide, is_row hb (fun k hk => by
      simp at hk
      have : k = 0 ∨ k = 1 := by omega
      rcases this with rfl | rfl <;> rfl)⟩
  · exact ⟨(hg.cell _).trans rfl, (hg.cell _).trans rfl, nm_len _, some ⟨c, 0, none⟩, 1, (hg.cell _).trans rfl, by decide, by unfold maxLen; decide, is_row hc (fun k hk => by
      simp at hk
      subst hk; rfl)⟩
  · exact ⟨(hg.cell _).trans rfl, (hg.cell _).trans rfl, nm_len _, none, 0, (hg.cell _).trans rfl, Nat.le_refl _, Nat.zero_le _, is_nil _ _⟩
  · exact ⟨(hg.cell _).trans rfl, (hg.cell _).trans rfl, nm_len _, none, 0, (hg.cell _).trans rfl, Nat.le_refl _, Nat.zero_le _, is_nil _ _⟩
  · exact ⟨(hg.cell _).trans rfl, (hg.cell _).trans rfl, nm_len _, none, 0, (hg.cell _).trans rfl, Nat.le_refl _, Nat.zero_le _, is_nil _ _⟩⟩
set_option maxRecDepth 100000 in
set_option maxHeartbeats 4000000 in
theorem decls_any (w : World) : Calls Tryz.prog 24 #[] w fun e w' => ∃ g, e = .returned (.slice (some ⟨g, 0, none⟩) 14 14) ∧ DsAt w' (some ⟨g, 0, none⟩) dqs ∧ Below w.heap.size w w' := by
  have FIN := Lib.hid (dqs_at (HB.new3 w (.cells #[.int .i64 4] 3) (.cells #[.int .i64 4, .int .i64 4] 3) (.cells #[.int .i64 4] 3) 41 #[.string ⟨#[112]⟩, .slice none 0 0, .int .i64 1, .string ⟨#[113]⟩, .slice none 0 0, .int .i64 1, .string ⟨#[120]⟩, .slice none 0 0, .int .i64 2, .string ⟨#[121]⟩, .slice none 0 0, .int .i64 2, .string ⟨#[114]⟩, .slice none 0 0, .int .i64 3, .string ⟨#[97]⟩, .slice none 0 0, .int .i64 4, .string ⟨#[98]⟩, .slice none 0 0, .int .i64 4, .string ⟨#[99]⟩, .slice none 0 0, .int .i64 4, .string ⟨#[102]⟩, .slice (some ⟨w.heap.size, 0, none⟩) 1 1, .int .i64 4, .string ⟨#[103]⟩, .slice (some ⟨(w.heap.size + 1), 0, none⟩) 2 2, .int .i64 1, .string ⟨#[104]⟩, .slice (some ⟨(w.heap.size + 1 + 1), 0, none⟩) 1 1, .int .i64 2, .string ⟨#[109]⟩, .slice none 0 0, .int .i64 5, .string ⟨#[118]⟩, .slice none 0 0, .int .i64 13, .string ⟨#[119]⟩, .slice none 0 0, .int .i64 13]) (((HB.new w 3 #[.int .i64 4]).alloc _).alloc _ |>.alloc _) ((HB.new1 w (.cells #[.int .i64 4] 3) 3 #[.int .i64 4, .int .i64 4]).alloc _ |>.alloc _) ((HB.new2 w (.cells #[.int .i64 4] 3) (.cells #[.int .i64 4, .int .i64 4] 3) 3 #[.int .i64 4]).alloc _))
  go_enter Tryz.func24, Tryz.ntmps24
  go_wp2_with fail
  go_ret
  exact ⟨_, rfl, FIN.out, by go_grown⟩
end Go.Proofs.YtcpeddogckillaaGreat
