/-
  Asks that are made of raw numbers: AskOf.
-/
import Derived.Test.YtcpeddogckillaaGreatAskCp
namespace Go.Proofs.YtcpeddogckillaaGreat
open Go.RowKit

theorem mo_vals {Y : Nat → Prop} {base g : Nat} {nv sv : Value} {ss : List Int} {w : World} (h : Mo Y base g nv sv w ss) : ∃ An nc S sc, nv = .slice An ss.length nc ∧ sv = .slice S ss.length sc := by
  obtain ⟨ps, ⟨_, _, h3, h4, _⟩, h6⟩ := h
  obtain ⟨An, nc, rfl⟩ := own_val h3
  obtain ⟨S, sc, rfl⟩ := own_val h4
  have := ok_len h6
  rw [List.length_map] at this
  exact ⟨An, nc, S, sc, by rw [this], rfl⟩
theorem mo_caps {Y : Nat → Prop} {base g n m nc sc : Nat} {An S : Option Addr} {ss : List Int} {w : World} (h : Mo Y base g (.slice An n nc) (.slice S m sc) w ss) : n ≤ nc ∧ nc ≤ maxLen ∧ m ≤ sc ∧ sc ≤ maxLen := by
  obtain ⟨ps, ⟨_, _, h3, h4, _⟩, _⟩ := h
  have k3 : n ≤ nc ∧ nc ≤ maxLen := by
    rcases h3.2 with ⟨e, e2⟩ | ⟨b, cap, cur, e, _, _, hc, hm, _⟩
    · injection e with e1 e2 e3
      subst e2 e3
      exact ⟨Nat.le_refl _, Nat.zero_le _⟩
    · injection e with e1 e2 e3
      subst e2 e3
      exact ⟨hc, by omega⟩
  have k4 : m ≤ sc ∧ sc ≤ maxLen := by
    rcases h4.2 with ⟨e, e2⟩ | ⟨b, cap, cur, e, _, _, hc, hm, _⟩
    · injection e with e1 e2 e3
      subst e2 e3
      exact ⟨Nat.le_refl _, Nat.zero_le _⟩
    · injection e with e1 e2 e3
      subst e2 e3
      exact ⟨hc, by omega⟩
  exact ⟨k3.1, k3.2, k4.1, k4.2⟩
theorem mo_box {Y : Nat → Prop} {base g : Nat} {nv sv : Value} {ss : List Int} {w : World} (h : Mo Y base g nv sv w ss) : HB w g 69 #[nv, sv] ∧ g < w.heap.size := by
  obtain ⟨ps, ⟨_, h2, _⟩, _⟩ := h
  exact ⟨h2, h2.lt⟩
theorem mo_start (w : World) (o : Obj) : Mo No (w.heap.size + 1) (w.heap.size + 1) (.slice none 0 0) (.slice none 0 0) ((w.alloc o).alloc (.cells #[.slice none 0 0, .slice none 0 0] 69)) [] :=
  ⟨[], ⟨Nat.le_refl _, HB.new1 _ _ _ _, own_nil _ _ _ _, own_nil _ _ _ _, fun p hp => absurd hp (by simp)⟩, ok_nil⟩
theorem below_after' {a b c : World} (h : Below a.heap.size a b) (k : Below b.heap.size b c) : Below a.heap.size a c := h.trans (k.mono h.size)
theorem hold_snoc {hs ss : List Int} {j : Nat} (h : ∀ i, i < hs.length → 0 ≤ nth hs i ∧ nth hs i < ss.length ∧ nth ss (nth hs i).toNat = 1) (hj : j < ss.length) (h1 : nth ss j = 1) :
    ∀ i, i < (hs ++ [(j : Int)]).length → 0 ≤ nth (hs ++ [(j : Int)]) i ∧ nth (hs ++ [(j : Int)]) i < ss.length ∧ nth ss (nth (hs ++ [(j : Int)]) i).toNat = 1 := by
  intro i hi
  rw [List.length_append] at hi
  simp at hi
  rcases Nat.lt_or_ge i hs.length with z | z
  · rw [show nth (hs ++ [(j : Int)]) i = nth hs i by simp [nth, List.getD, z, List.getElem?_append_left]]
    exact h i z
  · obtain rfl : i = hs.length := by omega
    rw [show nth (hs ++ [(j : Int)]) hs.length = j by simp [nth, List.getD]]
    exact ⟨by omega, by omega, h1⟩
theorem ask_new {w w' : World} (k : Below (w.alloc (.cells #[.slice none 0 0, .slice none 0 0, .slice none 0 0] 26)).drew.heap.size (w.alloc (.cells #[.slice none 0 0, .slice none 0 0, .slice none 0 0] 26)).drew w') : w'.cell? ⟨w.heap.size, 0, none⟩ = some (.slice none 0 0) ∧ w'.cell? ⟨w.heap.size, 1, none⟩ = some (.slice none 0 0) ∧ w'.cell? ⟨w.heap.size, 2, none⟩ = some (.slice none 0 0) ∧
    w'.frozen? ⟨w.heap.size, 0, none⟩ = false ∧ w'.frozen? ⟨w.heap.size, 1, none⟩ = false ∧ w'.frozen? ⟨w.heap.size, 2, none⟩ = false ∧ Hid (HB w' w.heap.size 26 #[.slice none 0 0, .slice none 0 0, .slice none 0 0]) :=
  have h : HB w' w.heap.size 26 #[.slice none 0 0, .slice none 0 0, .slice none 0 0] := ((HB.new w 26 #[.slice none 0 0, .slice none 0 0, .slice none 0 0]).drew).below k
  ⟨h.cell 0, h.cell 1, h.cell 2, h.frozen 0, h.frozen 1, h.frozen 2, Lib.hid h⟩
theorem askof_fin {w wc wr : World} {g9 gd nl nc sc hc : Nat} {An S Ah : Option Addr} {ss hs : List Int} (hnl : ss.length = nl) (h120 : nl ≤ 120) (hncm : nl ≤ nc ∧ nc ≤ maxLen) (hg9 : w.heap.size + 1 < g9)
    (H9 : HB wc g9 26 #[.slice (some ⟨gd, 0, none⟩) 14 14, .slice An nl nc, .slice none 0 0]) (HD : DsAt wc (some ⟨gd, 0, none⟩) dqs) (HM : Mo No (w.heap.size + 1) (w.heap.size + 1) (.slice An nl nc) (.slice S nl sc) wc ss)
    (HB0 : Below w.heap.size w wc) (HX : Gx g9 wc wr) (HR : HB wc w.heap.size 26 #[.slice none 0 0, .slice none 0 0, .slice none 0 0]) (HO : wr.ownsRow wc.heap.size 3 1 (.slice Ah hs.length hc) hs.length (intV hs))
    (HH : ∀ i, i < hs.length → 0 ≤ nth hs i ∧ nth hs i < ss.length ∧ nth ss (nth hs i).toNat = 1) (hhl : hs.length ≤ 121) (u1 u2 u3 : Value) :
    AskOfQ w (.returned (.agg #[.slice (some ⟨gd, 0, none⟩) 14 14, .slice An nl nc, .slice Ah hs.length hc])) (((wr.setCell ⟨w.heap.size, 0, none⟩ u1).setCell ⟨w.heap.size, 1, none⟩ u2).setCell ⟨w.heap.size, 2, none⟩ u3) := by
  have F := far3 wr w.heap.size u1 u2 u3
  have HR' := HX.hb HR (by omega)
  have G2 := (gx_refl w.heap.size wr).far F
  obtain ⟨ps, hmk, hok⟩ := HM
  have hpl : (ps.map (·.1)).length = nl := by have := ok_len hok; omega
  have hp2 : ps.length = nl := by rw [List.length_map] at hpl; exact hpl
  subst hp2
  obtain ⟨hns, _⟩ := mk_ns hmk
  refine ⟨some ⟨gd, 0, none⟩, An, Ah, nc, hc, ps.map (·.1), ss, hs, by rw [hpl], G2.ds HR' (HX.ds H9 HD), G2.ns HR' (HX.ns H9 hns), G2.is HR' (own_isb HO rfl).1.is, by omega, hncm.2, hok, by omega, by omega, HH, bw_far (HX.under HB0 (by omega) HB0.size) (Nat.le_refl _) F⟩
set_option maxRecDepth 100000 in
set_option maxHeartbeats 8000000 in
theorem askof_any (zs : List Int) (A : Option Addr) (c lim : Nat) (hlim : lim ≤ 30) (hl : zs.length ≤ maxLen) (w : World) (h : Is w A zs) :
    Calls Tryz.prog 9 #[.slice A zs.length c, .int .i64 lim, .int .i64 0] w (AskOfQ w) := by
  have HZ := Lib.hid h
  have HM0 := Lib.hid (mo_start w (.cells #[.slice none 0 0, .slice none 0 0, .slice none 0 0] 26))
  have HR0 := Lib.hid ((HB.new w 26 #[.slice none 0 0, .slice none 0 0, .slice none 0 0]).alloc (.cells #[.slice none 0 0, .slice none 0 0] 69))
  have HB0 : Hid (Below w.heap.size w ((w.alloc (.cells #[.slice none 0 0, .slice none 0 0, .slice none 0 0] 26)).alloc (.cells #[.slice none 0 0, .slice none 0 0] 69))) := Lib.hid (((Below.refl _ _).alloc (Nat.le_refl _) _).alloc (by simp) _)
  unfold maxLen at hl
  generalize hL : zs.length = L at *
  have HL := Lib.hid hL
  clear h hL
  generalize hQ : AskOfQ w = Q0 at *
  have HQ0 : Hid (∀ e w', AskOfQ w e w' → Q0 e w') := Lib.hid (fun e w' z => by rw [← hQ]; exact z)
  clear hQ
  go_enter Tryz.func9, Tryz.ntmps9
  go_wp2_with fail
  go_loopw [8] (fun k wr => ∃ (i : Nat) (ss : List Int) (nv sv : Value), i ≤ lim ∧ k = .int .i64 i ∧ Hid (ss.length ≤ 4 * i) ∧ Hid (Mo No (w.heap.size + 1) (w.heap.size + 1) nv sv wr ss) ∧ Hid (HB wr w.heap.size 26 #[.slice none 0 0, .slice none 0 0, .slice none 0 0]) ∧ Hid (Below w.heap.size w wr)) (fun k _ => lim - (intOf k).toNat)
  case atStart => exact ⟨0, [], _, _, by omega, rfl, Lib.hid (Nat.le_refl _), HM0, HR0, HB0⟩
  case round =>
    clear HM0 HR0 HB0
    obtain ⟨i, ss, nv, sv, hi, rfl, HS, HM, HR, HB1⟩ := hrel
    by_cases h3 : 3 * i + 2 < L ∧ i < lim
    · obtain ⟨h3, hlt⟩ := h3
      have t3 : decide (3 * (i : Int) + 2 < L) = true := by simp; omega
      have t4 : decide ((i : Int) < lim) = true := by simpa using hlt
      obtain ⟨b, o, rfl, hb, c0⟩ := is_at (i := 3 * i) HZ.out (by rw [HL.out]; omega)
      obtain ⟨b', o', hAe, _, c1⟩ := is_at (i := 3 * i + 1) HZ.out (by rw [HL.out]; omega)
      injection hAe with hAe
      injection hAe with e1 e2
      subst e1 e2
      obtain ⟨b', o', hAe, _, c2⟩ := is_at (i := 3 * i + 2) HZ.out (by rw [HL.out]; omega)
      injection hAe with hAe
      injection hAe with e1 e2
      subst e1 e2
      have HC : Hid (∀ W, Below w.heap.size w W → W.cell? ⟨b, o + 3 * i, none⟩ = some (.int .i64 (nth zs (3 * i))) ∧ W.cell? ⟨b, o + (3 * i + 1), none⟩ = some (.int .i64 (nth zs (3 * i + 1))) ∧ W.cell? ⟨b, o + (3 * i + 2), none⟩ = some (.int .i64 (nth zs (3 * i + 2)))) := Lib.hid (fun W hW => ⟨(hW.cell (p := ⟨b, o + 3 * i, none⟩) hb).trans c0, (hW.cell (p := ⟨b, o + (3 * i + 1), none⟩) hb).trans c1, (hW.cell (p := ⟨b, o + (3 * i + 2), none⟩) hb).trans c2⟩)
      clear c0 c1 c2
      generalize nth zs (3 * i) = x0 at *
      generalize nth zs (3 * i + 1) = x1 at *
      generalize nth zs (3 * i + 2) = x2 at *
      have XG := Lib.hid (grow_any (w.heap.size + 1) (w.heap.size + 1) nv sv ss x0 x1 x2 wr.drew (by have := HS.out; omega) (HM.out.mv (Below.refl _ _).drew))
      have BD : Hid (Below w.heap.size w wr.drew) := Lib.hid HB1.out.drew
      have WD : Hid (wr.heap.size ≤ wr.drew.heap.size) := Lib.hid (Nat.le_refl _)
      go_wp2_with fail
      have q0 : IntKind.i64.wrap (3 * (i : Int)) = 3 * (i : Int) := IntWalk.i64_in _ (by omega)
      have q1 : IntKind.i64.wrap (3 * (i : Int) + 1) = 3 * (i : Int) + 1 := IntWalk.i64_in _ (by omega)
      have q2 : IntKind.i64.wrap (3 * (i : Int) + 2) = 3 * (i : Int) + 2 := IntWalk.i64_in _ (by omega)
      have n0 : (0 : Int) ≤ 3 * (i : Int) := by omega
      have n1 : (0 : Int) ≤ 3 * (i : Int) + 1 := by omega
      have n2 : (0 : Int) ≤ 3 * (i : Int) + 2 := by omega
      have m0 : (3 * (i : Int)).toNat = 3 * i := by omega
      have m1 : (3 * (i : Int) + 1).toNat = 3 * i + 1 := by omega
      have m2 : (3 * (i : Int) + 2).toNat = 3 * i + 2 := by omega
      have l0 : 3 * (i : Int) < L := by omega
      have l1 : 3 * (i : Int) + 1 < L := by omega
      have l2 : 3 * (i : Int) + 2 < L := by omega
      have l0' : 3 * i < L := by omega
      have l1' : 3 * i + 1 < L := by omega
      go_region_held3 (fun W => W.cell? ⟨b, o + 3 * i, none⟩ = some (.int .i64 x0) ∧ W.cell? ⟨b, o + (3 * i + 1), none⟩ = some (.int .i64 x1) ∧ W.cell? ⟨b, o + (3 * i + 2), none⟩ = some (.int .i64 x2))
        ((first | (with_reducible exact HC.out _ G5.out) | (with_reducible exact HC.out _ BD.out)))
        (first
          | (go_at_call 23; (with_reducible refine XG.out.mono ?_); rintro e w5 ⟨rfl, more, hm5, hl5⟩; have M5 := Lib.hid hm5.out; have L5 := Lib.hid hl5; have G5 : Hid (Below w.heap.size w w5) := (Lib.hid (BD.out.trans (Below.mono (hm5.out.choose_spec.choose_spec.2.1) (Nat.le_succ _)))); clear hm5 hl5))
      all_goals
        clear q0 q1 q2 n0 n1 n2 m0 m1 m2 l0 l1 l2 l0' l1' XG HC
        obtain ⟨nv5, sv5, hm5, hv5⟩ := M5.out
        have HM5 := Lib.hid hm5
        have HR5 : Hid (HB w5 w.heap.size 26 #[.slice none 0 0, .slice none 0 0, .slice none 0 0]) := Lib.hid ((hv5.1.block w.heap.size (Nat.lt_succ_self _)).trans HR.out)
        clear hm5 hv5 M5
        go_wp2_with fail
        go_round
        case rel => exact ⟨i + 1, ss ++ more, nv5, sv5, by omega, by go_num, Lib.hid (by have := HS.out; have := L5.out; rw [List.length_append]; omega), HM5, HR5, G5⟩
        case measure => simp [intOf]; omega
    · obtain ⟨An, nc, S, sc, rfl, rfl⟩ := mo_vals HM.out
      have hs120 : ss.length ≤ 120 := by have := HS.out; omega
      have hnv := (mo_caps HM.out)
      have HE : decide (3 * (i : Int) + 2 < L) = false ∨ (decide (3 * (i : Int) + 2 < L) = true ∧ ¬ i < lim) := by
        by_cases z : 3 * i + 2 < L
        · right; exact ⟨by simp; omega, by omega⟩
        · left; simp; omega
      have q0 : IntKind.i64.wrap (3 * (i : Int)) = 3 * (i : Int) := IntWalk.i64_in _ (by omega)
      clear h3
      generalize hnl : ss.length = nl at *
      have HNL := Lib.hid hnl
      clear hnl
      rcases HE with t3 | ⟨t3, t4⟩
      all_goals
        go_upto_region 6 with fail
        go_cut [9] (fun s9 wx => ∃ (g9 gd : Nat), s9 = .pointer (some ⟨g9, 0, none⟩) ∧ w.heap.size + 1 < g9 ∧ Hid (HB wx g9 26 #[.slice (some ⟨gd, 0, none⟩) 14 14, .slice An nl nc, .slice none 0 0]) ∧ Hid (DsAt wx (some ⟨gd, 0, none⟩) dqs) ∧ Hid (Mo No (w.heap.size + 1) (w.heap.size + 1) (.slice An nl nc) (.slice S nl sc) wx ss) ∧ Hid (HB wx w.heap.size 26 #[.slice none 0 0, .slice none 0 0, .slice none 0 0]) ∧ Hid (Below w.heap.size w wx))
        case first =>
          have HG0 : Hid (∀ W, Below wr.heap.size wr W → W.cell? ⟨w.heap.size + 1, 0, none⟩ = some (.slice An nl nc)) := Lib.hid (fun W hW => by
            obtain ⟨hg, hlt⟩ := mo_box HM.out
            exact (hW.cell (p := ⟨w.heap.size + 1, 0, none⟩) hlt).trans (hg.cell 0))
          have HLG := Lib.hid (mo_box HM.out).2
          go_region_held3 (fun W => W.cell? ⟨w.heap.size + 1, 0, none⟩ = some (.slice An nl nc))
            ((first | (with_reducible exact HG0.out _ G5.out) | (with_reducible exact HG0.out _ (G5.out.alloc G5.out.size _)) | (with_reducible exact HG0.out _ (bw_far G5.out (Nat.le_refl _) (far3 _ _ _ _ _))) | (refine HG0.out _ ?_; go_grown; done) | (have z := HLG.out; refine HG0.out _ ?_; go_grown; done)))
            (first
              | (go_at_call 24; refine (decls_any _).mono ?_; rintro e w5 ⟨gd, rfl, hd5, hb5⟩; have D5 := Lib.hid hd5; have B5 := Lib.hid hb5; have G5 : Hid (Below wr.heap.size wr w5) := Lib.hid (below_after (show Below wr.heap.size wr _ by go_grown) hb5); (first | (with_reducible have F5 := ask_new hb5; obtain ⟨f0, f1, f2, f3, f4, f5, F6⟩ := F5) | skip); clear hd5 hb5))
          · have BX : Below wr.heap.size wr (w5.alloc (.cells #[.slice (some ⟨gd, 0, none⟩) 14 14, .slice An nl nc, .slice none 0 0] 26)) := G5.out.alloc G5.out.size _
            go_wp2_with fail
            go_meet
            case rel => exact ⟨w5.heap.size, gd, rfl, by have := G5.out.size; have := HLG.out; omega, Lib.hid (HB.new _ _ _), Lib.hid (D5.out.below (new_below _ _)), Lib.hid (HM.out.mv BX), Lib.hid (HR.out.below BX), Lib.hid (below_after' HB1.out BX)⟩
          · have BX := bw_far G5.out (Nat.le_refl _) (far3 w5 wr.heap.size (.slice (some ⟨gd, 0, none⟩) 14 14) (.slice An nl nc) (.slice none 0 0))
            go_wp2_with fail
            go_meet
            case rel => exact ⟨wr.heap.size, gd, rfl, HLG.out, Lib.hid (hb_set3 F6.out), Lib.hid (((gx_refl wr.heap.size w5).far (far3 w5 wr.heap.size (.slice (some ⟨gd, 0, none⟩) 14 14) (.slice An nl nc) (.slice none 0 0))).ds F6.out D5.out), Lib.hid (HM.out.mv BX), Lib.hid (HR.out.below BX), Lib.hid (below_after' HB1.out BX)⟩
        case rest =>
          obtain ⟨g9, gd, rfl, hg9, HG9, HD9, HM9, HR9, HB9⟩ := hcut
          clear HM HR HB1
          have HGM := Lib.hid (mo_box HM9.out).1
          have c1 := (mo_box HM9.out).1.cell 1
          have HSO : Hid (∀ j, j < nl → ∃ bs, S = some ⟨bs, 0, none⟩ ∧ wc.cell? ⟨bs, j, none⟩ = some (.int .i64 (nth ss j)) ∧ bs < wc.heap.size ∧ bs ≠ g9) := Lib.hid (fun j hj => by
            obtain ⟨bs, c', e1, _, _, _, e2, e3⟩ := mo_sortsO HM9.out (by rw [HNL.out]; exact hj)
            injection e1 with e1
            exact ⟨bs, e1, e2, e3, ne_slices HG9.out e2 (by simp)⟩)
          have q1 : IntKind.i64.wrap ((nl : Int) - 1) = nl - 1 := IntWalk.i64_in _ (by omega)
          simp only [List.getElem?_toArray, List.getElem?_cons_succ, List.getElem?_cons_zero] at c1
          go_wp2_with fail
          go_loopw [10] (fun k wx => ∃ (z : Int) (hs : List Int) (Ah : Option Addr) (hc : Nat), k = .int .i64 z ∧ -1 ≤ z ∧ (hs.length : Int) + z + 1 ≤ nl ∧ Hid (HB wx g9 26 #[.slice (some ⟨gd, 0, none⟩) 14 14, .slice An nl nc, .slice Ah hs.length hc]) ∧ Hid (wx.ownsRow wc.heap.size 3 1 (.slice Ah hs.length hc) hs.length (intV hs)) ∧ Hid (∀ i, i < hs.length → 0 ≤ nth hs i ∧ nth hs i < ss.length ∧ nth ss (nth hs i).toNat = 1) ∧ Hid (Gx g9 wc wx)) (fun k _ => (intOf k + 1).toNat)
          case atStart => exact ⟨(nl : Int) - 1, [], none, 0, rfl, by omega, by simp, HG9, Lib.hid (own_nil _ _ _ _), Lib.hid (fun i hi => absurd hi (Nat.not_lt_zero _)), Lib.hid (gx_refl _ _)⟩
          case round =>
            obtain ⟨z, hs, Ah, hc, rfl, hz, hzn, HG, HO, HH, HX⟩ := hrel
            have hsl : hs.length ≤ 121 := by omega
            have BW : Hid (Below w.heap.size w wr) := Lib.hid (HX.out.under HB9.out (by omega) HB9.out.size)
            have HAT : Hid (∀ n, Calls Tryz.prog 26 #[.slice A L c, .int .i64 1] (wr.drewN n) fun e w' => e = .returned (.int .i64 (nth zs 1)) ∧ w' = wr.drewN n) := Lib.hid (fun n => by
              have := at_any zs A c 1 (by rw [HL.out]; unfold maxLen; omega) (wr.drewN n) ((HZ.out.below BW.out).below (below_dn (Below.refl _ _) n))
              rw [HL.out, show ((1 : Nat) : Int) = 1 from rfl] at this
              exact this)
            obtain ⟨rn, hrn, hr3⟩ : ∃ n : Nat, nth zs 1 % 3 = n ∧ n < 3 := ⟨(nth zs 1 % 3).toNat, by omega, by omega⟩
            have HPK : Hid (∀ W, Calls Tryz.prog 25 #[.int .i64 (nth zs 1), .int .i64 3] W fun e w' => e = .returned (.int .i64 rn) ∧ w' = W) := Lib.hid (fun W => by
              have := picked_any (nth zs 1) 3 (by decide) (by decide) W
              rw [show ((3 : Nat) : Int) = 3 from rfl, hrn] at this
              exact this)
            generalize nth zs 1 = x1 at *
            clear hrn
            obtain ⟨c90, c91, c92, f90, f91, f92⟩ := HG.out.three
            have HR := Lib.hid (HX.out.hb HR9.out (by omega))
            rcases (show z = -1 ∨ ∃ j : Nat, z = j from by
              rcases Int.lt_or_le z 0 with h | h
              · left; omega
              · right; exact ⟨z.toNat, by omega⟩) with rfl | ⟨j, rfl⟩
            · obtain ⟨r0, r1, r2, s0, s1, s2⟩ := HR.out.three
              go_wp2_with fail
              go_quiet (fail)
              go_wp2_with fail
              have FIN := Lib.hid (HQ0.out _ _ (askof_fin HNL.out hs120 ⟨hnv.1, hnv.2.1⟩ hg9 HG9.out HD9.out HM9.out HB9.out (HX.out.below (below_dn (Below.refl _ _) nq)) HR9.out (own_drewN HO.out nq) HH.out hsl (.slice (some ⟨gd, 0, none⟩) 14 14) (.slice An nl nc) (.slice Ah hs.length hc)))
              have HS3 := hb_set3 (n := .slice (some ⟨gd, 0, none⟩) 14 14) (d := .slice An nl nc) (e := .slice Ah hs.length hc) (HR.out.drewN nq)
              obtain ⟨v0, v1, v2, _⟩ := HS3.three
              clear HS3
              exact bodyPost_ret (v := .agg #[.slice (some ⟨gd, 0, none⟩) 14 14, .slice An nl nc, .slice Ah hs.length hc]) (by simp [results, Tryz.results9, go_sem, v0, v1, v2]) rfl FIN.out
            · by_cases hlt : hs.length < 1 + rn
              · have t5 : decide ((hs.length : Int) < 1 + (rn : Int)) = true := by simp; omega
                have q5 : IntKind.i64.wrap (1 + (rn : Int)) = 1 + rn := IntWalk.i64_in _ (by omega)
                obtain ⟨bs, hbs, cS, lS, nS⟩ := HSO.out j (by omega)
                subst hbs
                have cM := (HX.out.hb HGM.out (by omega)).cell 1
                have cS' := (HX.out.cell lS nS j).trans cS
                simp only [List.getElem?_toArray, List.getElem?_cons_succ, List.getElem?_cons_zero] at cM
                have hjn : (j : Int) < nl := by omega
                have HJS : Hid (nth ss j = 1 ∨ (nth ss j == 1) = false) := Lib.hid (by
                  by_cases h : nth ss j = 1
                  · exact .inl h
                  · right; simpa using h)
                go_wp2_with fail
                go_quiet ((first | (go_at_call 26; exact Calls.quiet_of_same (HAT.out _)) | (go_at_call 25; exact Calls.quiet_of_same (HPK.out _))))
                rcases HJS.out with t6 | t6
                · have HX6 := Lib.hid (HX.out.below (below_dn (Below.refl _ _) nq))
                  have HO3 := Lib.hid (own_alloc (own_drewN HO.out nq) (.cells #[.int .i64 j] 3))
                  have HG3 := Lib.hid ((HG.out.drewN nq).alloc (.cells #[.int .i64 j] 3))
                  have HX3 := Lib.hid (HX6.out.below ((new_below (wr.drewN nq) (.cells #[.int .i64 j] 3)).mono HX6.out.size))
                  rw [t6] at cS'
                  go_wp2_with (at_builtin; refine wpl_app2 22 3 Tryz.underlying22 (.int .i64 0) 1 8 info3'' rfl (by decide) rfl _ _ rfl wc.heap.size (.slice Ah hs.length hc) hs.length (intV hs) rfl HO3.out wr.heap.size #[.int .i64 j] rfl (HB.new _ _ _) rfl (by simp [Value.oneCell']) (by omega) (by unfold maxLen; omega) HX3.out.size ?_)
                  intro g4 cap4 w4 hown4 hkp4 hbw4 hloc4
                  have HG4 := Lib.hid (hkp4 g9 _ _ (own_ne HO3.out HG3.out (by decide)) HG3.out)
                  have HX4 := Lib.hid (HX3.out.below (hbw4 _ (Below.refl _ _)))
                  clear hkp4 hbw4 hloc4 c90 c91 c92 f90 f91 f92
                  obtain ⟨c90, c91, c92, f90, f91, f92⟩ := HG4.out.three
                  go_wp2_with fail
                  go_round
                  case rel => exact ⟨(j : Int) - 1, hs ++ [(j : Int)], some ⟨g4, 0, none⟩, cap4, by go_num, by omega, by rw [List.length_append]; simp; omega, Lib.hid (by rw [List.length_append]; simpa using HG4.out.set_ 2 (.slice (some ⟨g4, 0, none⟩) (hs.length + 1) cap4)), Lib.hid (by rw [List.length_append, intV_snoc]; exact own_far hown4.out (own_ne hown4.out HG4.out (by decide)) (far_set _ _ _ _)), Lib.hid (hold_snoc HH.out (by rw [HNL.out]; omega) t6), Lib.hid (HX4.out.far (far_set _ _ _ _))⟩
                  case measure => simp [intOf]
                · generalize nth ss j = x6 at *
                  go_wp2_with fail
                  go_round
                  case rel => exact ⟨(j : Int) - 1, hs, Ah, hc, by go_num, by omega, by omega, Lib.hid (HG.out.drewN _), Lib.hid (own_drewN HO.out _), HH, Lib.hid (HX.out.below (below_dn (Below.refl _ _) _))⟩
                  case measure => simp [intOf]
              · have t5 : decide ((hs.length : Int) < 1 + (rn : Int)) = false := by simp; omega
                have q5 : IntKind.i64.wrap (1 + (rn : Int)) = 1 + rn := IntWalk.i64_in _ (by omega)
                obtain ⟨r0, r1, r2, s0, s1, s2⟩ := HR.out.three
                go_wp2_with fail
                go_quiet ((first | (go_at_call 26; exact Calls.quiet_of_same (HAT.out _)) | (go_at_call 25; exact Calls.quiet_of_same (HPK.out _))))
                go_wp2_with fail
                have FIN := Lib.hid (HQ0.out _ _ (askof_fin HNL.out hs120 ⟨hnv.1, hnv.2.1⟩ hg9 HG9.out HD9.out HM9.out HB9.out (HX.out.below (below_dn (Below.refl _ _) nq)) HR9.out (own_drewN HO.out nq) HH.out hsl (.slice (some ⟨gd, 0, none⟩) 14 14) (.slice An nl nc) (.slice Ah hs.length hc)))
                have HS3 := hb_set3 (n := .slice (some ⟨gd, 0, none⟩) 14 14) (d := .slice An nl nc) (e := .slice Ah hs.length hc) (HR.out.drewN nq)
                obtain ⟨v0, v1, v2, _⟩ := HS3.three
                clear HS3
                exact bodyPost_ret (v := .agg #[.slice (some ⟨gd, 0, none⟩) 14 14, .slice An nl nc, .slice Ah hs.length hc]) (by simp [results, Tryz.results9, go_sem, v0, v1, v2]) rfl FIN.out
end Go.Proofs.YtcpeddogckillaaGreat
