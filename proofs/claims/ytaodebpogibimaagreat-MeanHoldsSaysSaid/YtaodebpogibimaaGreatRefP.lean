/-
  The reference's value of a node: a product.
-/
import Derived.Test.YtaodebpogibimaaGreatRefK
import Derived.Test.YtaodebpogibimaaGreatG11
import Derived.Test.YtaodebpogibimaaGreatRefO
namespace Go.Proofs.YtaodebpogibimaaGreat
open Go.RowKit

theorem sz_drew' (w : World) : w.drew.heap.size = w.heap.size := rfl
theorem sz_alloc' (w : World) (o : Obj) : (w.alloc o).heap.size = w.heap.size + 1 := by simp
theorem fr_new {w w' : World} (k : Below (w.alloc (.cells #[.int .i64 0, .int .i64 0] 44)).drew.heap.size (w.alloc (.cells #[.int .i64 0, .int .i64 0] 44)).drew w') : (Hid (HB w' w.heap.size 44 #[.int .i64 0, .int .i64 0]) ∧ w'.cell? ⟨w.heap.size, 0, none⟩ = some (.int .i64 0) ∧ w'.cell? ⟨w.heap.size, 1, none⟩ = some (.int .i64 0) ∧ w'.frozen? ⟨w.heap.size, 0, none⟩ = false ∧ w'.frozen? ⟨w.heap.size, 1, none⟩ = false) ∧ ¬ w'.heap.size = w.heap.size ∧ ¬ w.heap.size = w'.heap.size := by
  have h := ((HB.new w _ _).drew).below k
  have z := k.size
  rw [sz_drew', sz_alloc'] at z
  exact ⟨⟨Lib.hid h, h.two⟩, by omega, by omega⟩
/-- What the two variables of a sum or a product have in the end. -/
def FrQ (wr : World) (x y : Value) (ok : Bool) (s t : Value) (W : World) : Prop := ∃ g, s = .pointer (some ⟨g, 0, none⟩) ∧ t = .bool ok ∧ Hid (HB W g 44 #[x, y]) ∧ Hid (Below wr.heap.size wr W)
theorem frq1 {wr w5 : World} {x y : Value} {ok : Bool} (G : Below wr.heap.size wr w5) : FrQ wr x y ok (.pointer (some ⟨w5.heap.size, 0, none⟩)) (.bool ok) (w5.alloc (.cells #[x, y] 44)) :=
  ⟨_, rfl, rfl, Lib.hid (HB.new _ _ _), Lib.hid (bw_below (Nat.le_refl _) G (new_below _ _))⟩
theorem frq2 {wr w5 : World} {x y u v : Value} {ok : Bool} {g : Nat} (G : Below wr.heap.size wr w5) (h : HB w5 g 44 #[u, v]) (hg : wr.heap.size ≤ g) : FrQ wr x y ok (.pointer (some ⟨g, 0, none⟩)) (.bool ok) ((w5.setCell ⟨g, 0, none⟩ x).setCell ⟨g, 1, none⟩ y) :=
  ⟨_, rfl, rfl, Lib.hid (hb_set2 h), Lib.hid (bw_far G hg (far2 w5 g x y))⟩
/-- A fraction and a node's numbers in memory. -/
@[reducible] def SfP (b o g : Nat) (x0 x1 x2 x3 : Value) (W : World) : Prop := W.cell? ⟨b, o, none⟩ = some x0 ∧ W.cell? ⟨b, o + 1, none⟩ = some x1 ∧ W.cell? ⟨g, 2, none⟩ = some x2 ∧ W.cell? ⟨g, 3, none⟩ = some x3
set_option maxRecDepth 100000 in
set_option maxHeartbeats 8000000 in
theorem valueof_12 (sa sn sh sm nk : Value) (N D sort : Int) (nm : ByteArray) (Av : Option Addr) (vc : Nat) (kids : List Vl) (hk : kids.length ≤ 1000) (h2 : 1 ≤ kids.length) (hp0 : fvalid (vn kids 0).num (vn kids 0).den = true) (hpn : fvalid N D = true) (w : World) (hv : VsAt w Av kids) :
    Calls Tryz.prog 18 #[.agg #[sa, sn, sh], .agg #[sm], .agg #[.int .i64 12, nk, .int .i64 N, .int .i64 D, .string nm], .int .i64 sort, .slice Av kids.length vc] w fun e w' => e = .returned (.tuple #[.agg #[.int .i64 (madeN ((vn kids 0).num * N) ((vn kids 0).den * D)), .int .i64 (madeD ((vn kids 0).num * N) ((vn kids 0).den * D)), .slice none 0 0, .int .i64 0], .bool (madeC ((vn kids 0).num * N) ((vn kids 0).den * D) == 0)]) ∧ Below w.heap.size w w' := by
  have HM := Lib.hid (vo_new w sa sn sh sm nk 12 N D nm)
  have HV := Lib.hid hv
  have HY := Lib.hid (fun i (h : i < kids.length) => yesN_step h)
  have HYL := Lib.hid (fun i => yesN_le kids i)
  have HY0 : Hid (yesN kids 0 = 0) := Lib.hid (by simp [yesN])
  clear hv
  generalize yesN kids = Y at *
  generalize hL : kids.length = L at *
  have HL := Lib.hid hL
  clear hL
  have XL : Hid (∀ W, Calls Tryz.prog 50 #[.agg #[.int .i64 (vn kids 0).num, .int .i64 (vn kids 0).den], .agg #[.int .i64 N, .int .i64 D]] W fun e w' => e = .returned (.tuple #[.agg #[.int .i64 (madeN ((vn kids 0).num * N) ((vn kids 0).den * D)), .int .i64 (madeD ((vn kids 0).num * N) ((vn kids 0).den * D))], .bool (madeC ((vn kids 0).num * N) ((vn kids 0).den * D) == 0)]) ∧ Below W.heap.size W w') := Lib.hid (fun W => timesR_any _ _ _ _ W hp0 hpn)
  generalize madeN ((vn kids 0).num * N) ((vn kids 0).den * D) = mN at *
  generalize madeD ((vn kids 0).num * N) ((vn kids 0).den * D) = mD at *
  generalize (madeC ((vn kids 0).num * N) ((vn kids 0).den * D) == 0) = ok at *
  clear hp0 hpn
  go_enter Tryz.func18, Tryz.ntmps18
  go_wp2_with fail
  go_loopw [16, 17] (fun y k wr => ∃ i : Nat, i ≤ L ∧ k = .int .i64 i ∧ y = .int .i64 (Y i) ∧ Hid (VoM w sa sn sh sm nk 12 N D nm wr)) (fun _ k _ => L - (intOf k).toNat)
  case atStart => exact ⟨0, by omega, rfl, by rw [HY0.out]; rfl, HM⟩
  case round =>
    clear HM
    obtain ⟨i, hi, rfl, rfl, HM⟩ := hrel
    by_cases hlt : i < L
    · have t3 : decide ((i : Int) < L) = true := by simpa using hlt
      have l0 : (i : Int) < L := by omega
      obtain ⟨b, o, rfl, lb, a0, -⟩ := vs_at (i := i) (HV.out.below HM.out.b) (by rw [HL.out]; exact hlt)
      simp only [Nat.add_zero] at a0
      have HS := Lib.hid (HY.out i hlt)
      have hyl := HYL.out i
      by_cases hn : (vn kids i).num = 1
      · have HS2 : Hid (Y (i + 1) = Y i + 1) := Lib.hid (by rw [HS.out, if_pos hn])
        rw [hn] at a0
        clear hn
        go_wp2_with fail
        go_round
        case rel => exact ⟨i + 1, by omega, by go_num, by rw [HS2.out]; go_num, HM⟩
        case measure => simp [intOf]; omega
      · have HS2 : Hid (Y (i + 1) = Y i) := Lib.hid (by rw [HS.out, if_neg hn])
        have tn : ((vn kids i).num == 1) = false := by simpa using hn
        clear hn
        generalize (vn kids i).num = q at *
        go_wp2_with fail
        go_round
        case rel => exact ⟨i + 1, by omega, by go_num, by rw [HS2.out], HM⟩
        case measure => simp [intOf]; omega
    · obtain rfl : i = L := by omega
      have t3 : decide ((i : Int) < i) = false := by simp
      obtain ⟨n0, n1, n2, n3, n4⟩ := HM.out.n.five
      obtain ⟨b0, o0, hA0, lbw, HIN⟩ := vs_blk HV.out (by rw [HL.out]; omega)
      have lb0 : b0 < wr.heap.size := Nat.lt_of_lt_of_le lbw HM.out.b.size
      subst hA0
      obtain ⟨d00, d01, -⟩ := (HIN 0 (by rw [HL.out]; omega)).below HM.out.b lbw
      clear HIN
      simp only [Nat.add_zero, Nat.zero_mul, Nat.zero_add] at d00 d01
      generalize (vn kids 0).num = x00 at *
      generalize (vn kids 0).den = x01 at *
      go_upto_region 50 with fail
      have ln : w.heap.size + 1 + 1 < wr.heap.size := HM.out.n.lt
      have KG : Hid (∀ W, Below wr.heap.size wr W → SfP b0 o0 (w.heap.size + 1 + 1) (.int .i64 x00) (.int .i64 x01) (.int .i64 N) (.int .i64 D) W) := Lib.hid (fun W k => ⟨(k.cell (p := ⟨b0, o0, none⟩) lb0).trans d00, (k.cell (p := ⟨b0, o0 + 1, none⟩) lb0).trans d01, (k.cell (p := ⟨w.heap.size + 1 + 1, 2, none⟩) ln).trans n2, (k.cell (p := ⟨w.heap.size + 1 + 1, 3, none⟩) ln).trans n3⟩)
      have l2 : 1 ≤ i := h2
      have l3 : 0 < i := by omega
      have l5 : (0 : Int) < i := by omega
      clear d00 d01 n0 n1 n2 n3 n4
      go_cut [22, 23] (FrQ wr (.int .i64 mN) (.int .i64 mD) ok)
      case first =>
        go_region_held3 (fun W => SfP b0 o0 (w.heap.size + 1 + 1) (.int .i64 x00) (.int .i64 x01) (.int .i64 N) (.int .i64 D) W)
          ((first | (refine KG.out _ ?_; go_grown; done) | (with_reducible exact KG.out _ G5.out) | (refine KG.out _ (bw_below (Nat.le_refl _) G5.out (new_below _ _)); done) | (refine KG.out _ (bw_far G5.out (Nat.le_refl _) (far2 _ _ _ _)); done)))
          (first
            | (go_at_call 50; refine (XL.out _).mono ?_; rintro e w5 ⟨rfl, hb5⟩; have G5 : Hid (Below wr.heap.size wr w5) := Lib.hid (below_after (show Below wr.heap.size wr _ by go_grown) hb5); (first | (with_reducible have Q5 := fr_new hb5; obtain ⟨⟨R5, p0, p1, p2, p3⟩, n1', n2'⟩ := Q5) | skip); clear hb5))
        all_goals
          go_wp2_with fail
          go_meet
          case rel =>
            first
            | (with_reducible exact frq1 G5.out)
            | (with_reducible exact frq2 G5.out R5.out (Nat.le_refl _))
      case rest =>
        obtain ⟨g, rfl, rfl, HF, HB9⟩ := hcut
        obtain ⟨f0, f1, -⟩ := HF.out.two
        have M8 := Lib.hid (HM.out.below HB9.out)
        obtain ⟨r0, r1, r2, r3, y0, y1, y2, y3⟩ := M8.out.r.four
        have P := vo_res M8.out (.int .i64 mN) (.int .i64 mD) (.slice none 0 0) (.int .i64 0)
        obtain ⟨z0, z1, z2, z3, -⟩ := P.1.four
        have FIN := Lib.hid P.2
        clear P XL
        go_wp2_with fail
        exact bodyPost_ret (v := .tuple #[.agg #[.int .i64 mN, .int .i64 mD, .slice none 0 0, .int .i64 0], .bool ok]) (by simp [results, Tryz.results18, go_sem, z0, z1, z2, z3]) rfl ⟨rfl, FIN.out⟩
end Go.Proofs.YtaodebpogibimaaGreat
