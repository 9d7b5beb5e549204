/-
  Asks that are made of raw numbers: the last node of a sort.
-/
import Derived.Test.YtjjjgffpmghfgaaAskCd
namespace Go.Proofs.Ytjjjgffpmghfgaa
open Go.RowKit

/-- What a look for the last node of a sort yields. -/
def LastQ (Y : Nat → Prop) (base g : Nat) (nv sv : Value) (w : World) (ss : List Int) (sort : Int) (e : Ending) (w' : World) : Prop :=
  ∃ (j : Nat) (more : List Int), e = .returned (.int .i64 j) ∧ Hid (More Y base g nv sv w ss more w') ∧ j < (ss ++ more).length ∧ nth (ss ++ more) j = sort ∧ more.length ≤ 1
theorem more_nil {Y : Nat → Prop} {base g : Nat} {nv sv : Value} {ss : List Int} {w w' : World} (hM : Mo Y base g nv sv w ss) (h : Below w.heap.size w w') : More Y base g nv sv w ss [] w' := by
  have hbw : base ≤ w.heap.size := by
    obtain ⟨ps, h1, _⟩ := hM
    have := h1.2.1.lt
    have := h1.1
    omega
  exact ⟨nv, sv, by rw [List.append_nil]; exact hM.mv h, mv_below hbw h⟩
theorem more_below {Y : Nat → Prop} {base g : Nat} {nv sv : Value} {ss more : List Int} {w W w' : World} (hM : Mo Y base g nv sv w ss) (h : Below w.heap.size w W) (k : More Y base g nv sv W ss more w') : More Y base g nv sv w ss more w' := by
  have hbw : base ≤ w.heap.size := by
    obtain ⟨ps, h1, _⟩ := hM
    have := h1.2.1.lt
    have := h1.1
    omega
  obtain ⟨nv', sv', h1, h2⟩ := k
  exact ⟨nv', sv', h1, (mv_below hbw h).trans h2⟩
set_option maxHeartbeats 8000000 in
theorem last_any (Y : Nat → Prop) (base g : Nat) (nv sv : Value) (ss : List Int) (sort back deep : Int) (w : World) (hs : sort = 1 ∨ sort = 2 ∨ sort = 3 ∨ sort = 4 ∨ sort = 5 ∨ sort = 13) (hl : ss.length ≤ 900) (hM : Mo Y base g nv sv w ss) :
    Calls Try.prog 34 #[.pointer (some ⟨g, 0, none⟩), .int .i64 sort, .int .i64 back, .int .i64 deep] w (LastQ Y base g nv sv w ss sort) := by
  have HM := Lib.hid hM
  have HLEAF : Hid (∀ W n, Below w.heap.size w W → Calls Try.prog 66 #[.pointer (some ⟨g, 0, none⟩), .int .i64 sort, .int .i64 n] W fun e w' => e = .returned (.int .i64 ss.length) ∧ Hid (More Y base g nv sv w ss [sort] w')) := Lib.hid (fun W n hW => (leaf_any Y base g nv sv ss sort n W hs (by omega) (hM.mv hW)).mono fun e w' ⟨h1, h2⟩ => ⟨h1, Lib.hid (more_below hM hW h2.out)⟩)
  have HEND : Hid (∀ (j : Nat) w', Below w.heap.size w w' → j < ss.length → nth ss j = sort → LastQ Y base g nv sv w ss sort (.returned (.int .i64 j)) w') := Lib.hid (fun j w' hW h1 h2 => ⟨j, [], rfl, Lib.hid (more_nil hM hW), by simpa using h1, by simpa using h2, by simp⟩)
  have HNEW : Hid (∀ w', More Y base g nv sv w ss [sort] w' → LastQ Y base g nv sv w ss sort (.returned (.int .i64 ss.length)) w') := Lib.hid (fun w' h => ⟨ss.length, [sort], rfl, Lib.hid h, by simp, nth_app_eq rfl, by simp⟩)
  obtain ⟨ps, hk, _⟩ := hM
  obtain ⟨_, hg, _, ho, _⟩ := hk
  obtain ⟨S, sc, rfl⟩ := own_val ho
  have his := own_isb ho rfl
  have HIS := Lib.hid his.1.is
  have HG := Lib.hid hg
  have HPK : Hid (∀ a (n : Nat) W, 1 ≤ n → n ≤ 1000 → Calls Try.prog 9 #[.int .i64 a, .int .i64 n] W fun e w' => ∃ r : Int, e = .returned (.int .i64 r) ∧ 0 ≤ r ∧ r < n ∧ w' = W) := Lib.hid (fun a n W h1 h2 => pick_rng a n h1 h2 W)
  clear hs hg ho his
  generalize hm : ss.length = m at *
  have HM0 := Lib.hid hm
  clear hm
  obtain ⟨g0, g1, _, _⟩ := HG.out.two
  have lg := HG.out.lt
  generalize LastQ Y base g nv (.slice S m sc) w ss sort = Q0 at *
  go_enter Try.func34, Try.ntmps34
  go_wp2_with fail
  go_loopw [9, 10] (fun v z wr => ∃ (zi : Int) (L : List Int) (Aa : Option Addr) (ca ll : Nat), -1 ≤ zi ∧ zi < m ∧ (ll : Int) + zi + 1 ≤ m ∧ z = .int .i64 zi ∧ v = .slice Aa ll ca ∧ Hid (ll = L.length) ∧ Hid (wr.ownsRow w.heap.size 3 1 (.slice Aa ll ca) ll (intV L)) ∧ Hid (∀ x ∈ L, 0 ≤ x ∧ x < m ∧ nth ss x.toNat = sort) ∧ Hid (Below w.heap.size w wr)) (fun _ z _ => (intOf z + 1).toNat)
  case atStart => exact ⟨(m : Int) - 1, [], none, 0, 0, by omega, by omega, by omega, by go_num, rfl, Lib.hid rfl, Lib.hid (own_nil _ _ _ _), Lib.hid (fun x hx => absurd hx (by simp)), Lib.hid (Below.refl _ _)⟩
  case round =>
    obtain ⟨zi, L, Aa, ca, ll, z1, z2, z3, rfl, rfl, HLL, HO, HX, HB1⟩ := hrel
    clear g0 g1
    have HG2 := Lib.hid (HG.out.below HB1.out)
    obtain ⟨g0, g1, _, _⟩ := HG2.out.two
    by_cases hz : zi = -1
    · subst hz
      have hll : ll ≤ 900 := by omega
      clear z1 z2 z3
      have X50 := Lib.hid (HLEAF.out wr back HB1.out)
      have fin : Hid (∀ (e : Ending) (w' : World), e = .returned (.int .i64 m) ∧ Hid (More Y base g nv (.slice S m sc) w ss [sort] w') → e = .returned (.int .i64 m) ∧ Q0 (.returned (.int .i64 m)) w') := Lib.hid (fun e w' h => ⟨h.1, HNEW.out w' h.2.out⟩)
      by_cases hl0 : ll = 0
      · subst hl0
        go_wp2_with fail
        refine X50.out.mono ?_
        intro e w' h
        obtain ⟨rfl, hq⟩ := fin.out e w' h
        have HQ := Lib.hid hq
        clear hq h
        go_wp2_with fail
        first | exact HQ.out | (go_ret; exact HQ.out)
      · have t1 : decide ((0 : Int) < ll) = true := by simp; omega
        have t2 : decide (0 < ll) = true := by simp; omega
        have hl1 : 1 ≤ ll := by omega
        by_cases hd : deep = 0
        · have t3 : (deep == 0) = true := by simpa using hd
          clear hd hl0
          go_wp2_with fail
          refine (HPK.out _ ll wr hl1 (by omega)).mono ?_
          rintro e w2 ⟨r, rfl, r0, r1, rfl⟩
          obtain ⟨k, rfl⟩ : ∃ k : Nat, r = k := ⟨r.toNat, by omega⟩
          have hkl : k < ll := by omega
          obtain ⟨b3, o3, rfl, _, c3⟩ := is_at (i := k) (own_isb HO.out HLL.out.symm).1.is (by rw [← HLL.out]; exact hkl)
          obtain ⟨p0, p1, p2⟩ := HX.out (nth L k) (by rw [nth_of (by rw [← HLL.out]; exact hkl)]; exact List.getElem_mem _)
          obtain ⟨j, hj⟩ : ∃ j : Nat, nth L k = j := ⟨(nth L k).toNat, by omega⟩
          rw [hj] at c3 p1 p2
          rw [Int.toNat_natCast] at p2
          have HQ := Lib.hid (HEND.out j _ HB1.out (by omega) p2)
          clear p0 p1 p2 hj r0 r1
          go_wp2_with fail
          first | exact HQ.out | (go_ret; exact HQ.out)
        · have t3 : (deep == 0) = false := by simpa using hd
          clear hd hl0
          by_cases hb : 0 < back.tmod 3
          · have t4 : decide (0 < back.tmod 3) = true := by simpa using hb
            clear hb
            go_wp2_with fail
            refine (HPK.out _ ll wr hl1 (by omega)).mono ?_
            rintro e w2 ⟨r, rfl, r0, r1, rfl⟩
            obtain ⟨k, rfl⟩ : ∃ k : Nat, r = k := ⟨r.toNat, by omega⟩
            have hkl : k < ll := by omega
            obtain ⟨b3, o3, rfl, _, c3⟩ := is_at (i := k) (own_isb HO.out HLL.out.symm).1.is (by rw [← HLL.out]; exact hkl)
            obtain ⟨p0, p1, p2⟩ := HX.out (nth L k) (by rw [nth_of (by rw [← HLL.out]; exact hkl)]; exact List.getElem_mem _)
            obtain ⟨j, hj⟩ : ∃ j : Nat, nth L k = j := ⟨(nth L k).toNat, by omega⟩
            rw [hj] at c3 p1 p2
            rw [Int.toNat_natCast] at p2
            have HQ := Lib.hid (HEND.out j _ HB1.out (by omega) p2)
            clear p0 p1 p2 hj r0 r1
            go_wp2_with fail
            first | exact HQ.out | (go_ret; exact HQ.out)
          · have t4 : decide (0 < back.tmod 3) = false := by simpa using hb
            clear hb
            go_wp2_with fail
            refine X50.out.mono ?_
            intro e w' h
            obtain ⟨rfl, hq⟩ := fin.out e w' h
            have HQ := Lib.hid hq
            clear hq h
            go_wp2_with fail
            first | exact HQ.out | (go_ret; exact HQ.out)
    · obtain ⟨k, rfl⟩ : ∃ k : Nat, zi = k := ⟨zi.toNat, by omega⟩
      have hkm : k < m := by omega
      have hll : ll ≤ 900 := by omega
      clear z1 hz
      obtain ⟨b1, o1, rfl, _, c0⟩ := is_at (i := k) (HIS.out.below HB1.out) (by rw [HM0.out]; exact hkm)
      have hwr := HB1.out.size
      by_cases hx : nth ss k = sort
      · rw [hx] at c0
        have HXK := Lib.hid hx
        clear hx
        go_wp2_with (at_builtin; refine wpl_app 22 3 Try.underlying22 (.int .i64 0) 1 8 info3' rfl (by decide) rfl _ _ rfl w.heap.size (.slice Aa ll ca) ll (intV L) rfl (own_alloc HO.out _) wr.heap.size #[.int .i64 k] rfl (HB.new _ _ _) rfl (by simp [Value.oneCell']) (by omega) (by unfold maxLen; omega) (by simp; omega) ?_)
        intro g3 cap3 w3 hown3 hkp3 hb3
        have HB3 := Lib.hid (hb3 w (Below.alloc HB1.out hwr _))
        clear hkp3 hb3
        go_wp2_with fail
        go_round
        case rel => exact ⟨(k : Int) - 1, L ++ [(k : Int)], _, _, _, by omega, by omega, by omega, by go_num, rfl, Lib.hid (by simp [HLL.out]), Lib.hid (by simpa [intV] using hown3.out), Lib.hid (fun x hx => by
          rcases List.mem_append.1 hx with z | z
          · exact HX.out x z
          · simp at z
            subst z
            exact ⟨by omega, by omega, by simpa using HXK.out⟩), HB3⟩
        case measure => simp [intOf]
      · have t1 : (nth ss k == sort) = false := by simpa using hx
        generalize nth ss k = xk at *
        clear hx
        go_wp2_with fail
        go_round
        case rel => exact ⟨(k : Int) - 1, L, Aa, ca, ll, by omega, by omega, by omega, by go_num, rfl, HLL, HO, HX, HB1⟩
        case measure => simp [intOf]
end Go.Proofs.Ytjjjgffpmghfgaa
