/-
  Worlds, by the reference: what is wrong with a meaning.
-/
import Derived.Test.YtaodebpogibimaaGreatG12
import Derived.Test.YtaodebpogibimaaGreatG10
namespace Go.Proofs.YtaodebpogibimaaGreat
open Go.RowKit

theorem any_yes {es : List En} {q : En → Bool} {j : Nat} (hj : j < es.length) (h : q (en es j) = true) : es.any q = true := by
  refine List.any_eq_true.2 ⟨en es j, ?_, h⟩
  simp [en, List.getD, hj]
theorem any_no {es : List En} {q : En → Bool} (h : ∀ j, j < es.length → q (en es j) = false) : es.any q = false := by
  refine List.any_eq_false.2 (fun x hx => ?_)
  obtain ⟨j, hj, rfl⟩ := List.getElem_of_mem hx
  have := h j hj
  simp only [en, List.getD, List.getElem?_eq_getElem hj, Option.getD_some] at this
  rw [this]
  simp
theorem anyi_yes {xs : List Int} {p : Int → Bool} {j : Nat} (hj : j < xs.length) (h : p (nth xs j) = true) : xs.any p = true :=
  List.any_eq_true.2 ⟨nth xs j, by rw [nth_of hj]; exact List.getElem_mem _, h⟩
theorem anyi_no {xs : List Int} {p : Int → Bool} (h : ∀ j, j < xs.length → p (nth xs j) = false) : xs.any p = false :=
  List.any_eq_false.2 (fun x hx => by
    obtain ⟨j, hj, rfl⟩ := List.getElem_of_mem hx
    rw [← nth_of hj, h j hj]
    simp)
theorem argL_mem {es : List En} {i : Nat} (hi : i ≤ es.length) (zs : List Int) : zs ∈ argL es i ↔ ∃ k, k < i ∧ (en es k).args = zs := by
  unfold argL
  constructor
  · intro h
    obtain ⟨q, hq, rfl⟩ := List.mem_map.1 h
    obtain ⟨k, hk, rfl⟩ := List.getElem_of_mem hq
    rw [List.length_take] at hk
    refine ⟨k, by omega, ?_⟩
    simp [en, List.getD, show k < es.length by omega]
  · rintro ⟨k, hk, rfl⟩
    refine List.mem_map.2 ⟨en es k, ?_, rfl⟩
    refine List.mem_iff_getElem.2 ⟨k, by rw [List.length_take]; omega, ?_⟩
    simp [en, List.getD, show k < es.length by omega]
theorem twB_yes {es : List En} {i k : Nat} (hi : i < es.length) (hk : k < i) (h : (en es k).args = (en es i).args) : twB es = true := by
  unfold twB
  exact List.any_eq_true.2 ⟨i, List.mem_range.2 hi, by simpa using (argL_mem (by omega) _).2 ⟨k, hk, h⟩⟩
theorem twB_no {es : List En} (h : ∀ i, i < es.length → ∀ k, k < i → (en es k).args ≠ (en es i).args) : twB es = false := by
  unfold twB
  refine List.any_eq_false.2 (fun i hi => ?_)
  have hi := List.mem_range.1 hi
  simp only [decide_eq_true_eq]
  intro hm
  obtain ⟨k, hk, e⟩ := (argL_mem (by omega) _).1 hm
  exact h i hi k hk e
theorem es_at2 {w : World} {b o : Nat} {qs : List En} {i : Nat} (h : EsAt w (some ⟨b, o, none⟩) qs) (hi : i < qs.length) : b < w.heap.size ∧ (en qs i).In w b (o + i * 5) := by
  obtain ⟨b', o', e, l, q⟩ := h (by omega)
  injection e with e
  injection e with e1 e2
  subst e1 e2
  exact ⟨l, q i _ (getD_of hi)⟩
set_option maxRecDepth 100000 in
set_option maxHeartbeats 16000000 in
theorem meaningfault_any (nm : ByteArray) (ds : List Int) (Ad A Ac : Option Addr) (dc c cc : Nat) (so : Int) (m : Mg) (hs : okSo so) (_hd1 : ds.length ≤ dc) (_hd2 : dc ≤ maxLen) (_hl1 : m.rows.length ≤ c) (_hl2 : c ≤ maxLen) (hc1 : m.rest.cells.length ≤ cc) (hc2 : cc ≤ maxLen) (w : World) (h : EsAt w A m.rows) (hcs : CsAt w Ac m.rest.cells) :
    Calls Tryz.prog 42 #[.agg #[.string nm, .slice Ad ds.length dc, .int .i64 so], .agg #[.slice A m.rows.length c, .int .i64 m.rest.num, .int .i64 m.rest.den, .slice Ac m.rest.cells.length cc, .int .i64 m.rest.rest]] w fun e w' => e = .returned (.int .i64 (mgC ds.length so m)) ∧ Below w.heap.size w w' := by
  have HH := Lib.hid h
  have NB0 : Hid (Below w.heap.size w ((w.alloc (.cells #[.string nm, .slice Ad ds.length dc, .int .i64 so] 52)).alloc (.cells #[.slice A m.rows.length c, .int .i64 m.rest.num, .int .i64 m.rest.den, .slice Ac m.rest.cells.length cc, .int .i64 m.rest.rest] 49))) := Lib.hid (((Below.refl _ _).alloc (Nat.le_refl _) _).alloc (by simp) _)
  have ND0 : Hid (HB ((w.alloc (.cells #[.string nm, .slice Ad ds.length dc, .int .i64 so] 52)).alloc (.cells #[.slice A m.rows.length c, .int .i64 m.rest.num, .int .i64 m.rest.den, .slice Ac m.rest.cells.length cc, .int .i64 m.rest.rest] 49)) w.heap.size 52 #[.string nm, .slice Ad ds.length dc, .int .i64 so]) := Lib.hid ((HB.new _ _ _).alloc _)
  have NM0 : Hid (HB ((w.alloc (.cells #[.string nm, .slice Ad ds.length dc, .int .i64 so] 52)).alloc (.cells #[.slice A m.rows.length c, .int .i64 m.rest.num, .int .i64 m.rest.den, .slice Ac m.rest.cells.length cc, .int .i64 m.rest.rest] 49)) (w.heap.size + 1) 49 #[.slice A m.rows.length c, .int .i64 m.rest.num, .int .i64 m.rest.den, .slice Ac m.rest.cells.length cc, .int .i64 m.rest.rest]) := Lib.hid (HB.new1 _ _ _ _)
  have S6 : Hid (∀ W, Below w.heap.size w W → Calls Tryz.prog 88 #[.int .i64 so, .agg #[.int .i64 m.rest.num, .int .i64 m.rest.den, .slice Ac m.rest.cells.length cc, .int .i64 m.rest.rest]] W fun e w' => e = .returned (.bool (gdV so m.rest)) ∧ Below W.heap.size W w') := Lib.hid (fun W hb => goodvalue_any so m.rest Ac cc hs (by omega) W (hcs.below hb))
  have HSO := Lib.hid hs
  have E1 : Hid (1000 < m.rows.length → mgC ds.length so m = 9) := Lib.hid mgc_9a
  have E2 : Hid ((m.rows.any fun e => !decide (e.args.length = ds.length)) = true → mgC ds.length so m = 9) := Lib.hid mgc_9b
  have E3 : Hid (¬ 1000 < m.rows.length → (m.rows.any fun e => !decide (e.args.length = ds.length)) = false → mgC ds.length so m = if (m.rows.any fun e => e.args.any nTh) = true then 3 else if twB m.rows = true then 7 else if gdV so m.rest = false ∨ (m.rows.any fun e => !gdV so e.too) = true then 8 else 0) := Lib.hid mgc_r
  clear h hcs hs
  unfold maxLen at _hd2 _hl2 hc2
  generalize mgC ds.length so m = r at *
  generalize gdV so m.rest = b1 at *
  generalize hrows : m.rows = es at *
  clear hrows
  generalize hrl : es.length = rl at *
  have HRL := Lib.hid hrl
  clear hrl
  generalize m.rest.cells.length = cl at *
  generalize m.rest.num = vn at *
  generalize m.rest.den = vd at *
  generalize m.rest.rest = vr at *
  generalize ds.length = dl at *
  by_cases h1 : 1000 < rl
  · have t1 : decide ((1000 : Int) < rl) = true := by simp; omega
    have HR := Lib.hid (E1.out h1)
    go_enter Tryz.func42, Tryz.ntmps42
    go_wp2_with fail
    go_ret
    exact ⟨by rw [HR.out]; rfl, NB0.out⟩
  · have t1 : decide ((1000 : Int) < rl) = false := by simp; omega
    have HR1 := Lib.hid (E3.out h1)
    have r1000 : rl ≤ 1000 := by omega
    clear E1 E3 h1
    go_enter Tryz.func42, Tryz.ntmps42
    go_wp2_with fail
    go_loopw [5] (fun k wr => ∃ i : Nat, i ≤ rl ∧ k = .int .i64 i ∧ Hid (∀ j, j < i → (en es j).args.length = dl) ∧ Hid (Below w.heap.size w wr) ∧ Hid (HB wr w.heap.size 52 #[.string nm, .slice Ad dl dc, .int .i64 so]) ∧ Hid (HB wr (w.heap.size + 1) 49 #[.slice A rl c, .int .i64 vn, .int .i64 vd, .slice Ac cl cc, .int .i64 vr])) (fun k _ => rl - (intOf k).toNat)
    case atStart => exact ⟨0, by omega, rfl, Lib.hid (fun j hj => absurd hj (by omega)), NB0, ND0, NM0⟩
    case round =>
      clear NB0 ND0 NM0
      obtain ⟨i, hi, rfl, HP, HB1, HD1, HM1⟩ := hrel
      obtain ⟨m0, m1, m2, m3, m4⟩ := HM1.out.five
      obtain ⟨d0, d1, d2, _⟩ := HD1.out.three
      have lm := HM1.out.lt
      have ld := HD1.out.lt
      by_cases hlt : i < rl
      · have t3 : decide ((i : Int) < rl) = true := by simpa using hlt
        obtain ⟨b, o, rfl, lb, ⟨⟨Aa, ca, c0, ha1, ha2, _⟩, _⟩⟩ := es_at (i := i) (HH.out.below HB1.out) (by rw [HRL.out]; exact hlt)
        unfold maxLen at ha2
        by_cases hx : (en es i).args.length = dl
        · have HX : Hid (∀ j, j = i → (en es j).args.length = dl) := Lib.hid (fun j hj => by subst hj; exact hx)
          rw [hx] at c0
          clear hx ha1 ha2
          go_wp2_with fail
          go_quiet (fail)
          go_wp2_with fail
          go_round
          case rel => exact ⟨i + 1, by omega, by go_num, Lib.hid (fun j hj => by
            rcases Nat.lt_or_ge j i with z | z
            · exact HP.out j z
            · exact HX.out j (by omega)), below_dn HB1.out _, HD1.out.drewN _, HM1.out.drewN _⟩
          case measure => simp [intOf]; omega
        · have tx : (((en es i).args.length : Int) != dl) = true := by simp; omega
          have HR := Lib.hid (E2.out (any_yes (j := i) (by rw [HRL.out]; exact hlt) (by simpa using hx)))
          clear hx
          generalize (en es i).args.length = al at *
          go_wp2_with fail
          go_quiet (fail)
          go_wp2_with fail
          go_ret
          exact ⟨by rw [HR.out]; rfl, below_dn HB1.out _⟩
      · obtain rfl : rl = i := by omega
        have t3 : decide ((rl : Int) < rl) = false := by simp
        have HR2 := Lib.hid (HR1.out (any_no (fun j hj => by simpa using HP.out j (by rw [← HRL.out]; exact hj))))
        clear HR1 E2 HP hlt hi
        go_wp2_with fail
        clear t3
        go_loopw [6] (fun k wr => ∃ i : Nat, i ≤ rl ∧ k = .int .i64 i ∧ Hid (∀ j, j < i → (en es j).args.any nTh = false) ∧ Hid (Below w.heap.size w wr) ∧ Hid (HB wr w.heap.size 52 #[.string nm, .slice Ad dl dc, .int .i64 so]) ∧ Hid (HB wr (w.heap.size + 1) 49 #[.slice A rl c, .int .i64 vn, .int .i64 vd, .slice Ac cl cc, .int .i64 vr])) (fun k _ => rl - (intOf k).toNat)
        case atStart => exact ⟨0, by omega, rfl, Lib.hid (fun j hj => absurd hj (by omega)), HB1, HD1, HM1⟩
        case round =>
          clear m0 m1 m2 m3 m4 d0 d1 d2 lm ld
          clear HB1 HD1 HM1
          obtain ⟨i, hi, rfl, HP, HB2, HD2, HM2⟩ := hrel
          obtain ⟨m0, m1, m2, m3, m4⟩ := HM2.out.five
          obtain ⟨d0, d1, d2, _⟩ := HD2.out.three
          have lm := HM2.out.lt
          have ld := HD2.out.lt
          by_cases hlt : i < rl
          · have t3 : decide ((i : Int) < rl) = true := by simpa using hlt
            obtain ⟨b, o, rfl, lb, ⟨⟨Aa, ca, c0, ha1, ha2, ha3⟩, _⟩⟩ := es_at (i := i) (HH.out.below HB2.out) (by rw [HRL.out]; exact hlt)
            have HZS : Hid (∀ j, j < (en es i).args.length → nTh (nth (en es i).args j) = true → r = 3) := Lib.hid (fun j h1 h2 => by
              rw [HR2.out, if_pos (any_yes (q := fun e => e.args.any nTh) (j := i) (by rw [HRL.out]; exact hlt) (anyi_yes h1 h2))])
            have HZN : Hid ((∀ j, j < (en es i).args.length → nTh (nth (en es i).args j) = false) → ∀ j, j < i + 1 → (en es j).args.any nTh = false) := Lib.hid (fun h j hj => by
              rcases Nat.lt_or_ge j i with z | z
              · exact HP.out j z
              · obtain rfl : j = i := by omega
                exact anyi_no h)
            have HEN : Hid (∀ W, Below wr.heap.size wr W → ∃ Aa' ca', W.cell? ⟨b, o + i * 5, none⟩ = some (.slice Aa' (en es i).args.length ca') ∧ Is W Aa' (en es i).args ∧ b < W.heap.size) := Lib.hid (fun W hW => by
              obtain ⟨hl, ⟨A', c', e0, _, _, e3⟩, _⟩ := es_at2 (i := i) ((HH.out.below HB2.out).below hW) (by rw [HRL.out]; exact hlt)
              exact ⟨A', c', e0, e3, hl⟩)
            have HAM : Hid ((en es i).args.length ≤ maxLen) := Lib.hid (Nat.le_trans ha1 ha2)
            clear c0 ha1 ha2 ha3 HP
            generalize (en es i).args = zs at *
            generalize hal : zs.length = al at *
            have HAL := Lib.hid hal
            have am := HAM.out
            unfold maxLen at am
            clear hal
            go_wp2_with fail
            clear m0 m1 m2 m3 m4 d0 d1 d2 lm ld
            go_loopw [7] (fun k wr2 => ∃ q : Nat, q ≤ al ∧ k = .int .i64 q ∧ Hid (∀ j, j < q → nTh (nth zs j) = false) ∧ Hid (Below wr.heap.size wr wr2)) (fun k _ => al - (intOf k).toNat)
            case atStart => exact ⟨0, by omega, rfl, Lib.hid (fun j hj => absurd hj (by omega)), Lib.hid (Below.refl _ _)⟩
            case round =>
              obtain ⟨q, hq, rfl, HQ, HB3⟩ := hrel
              have HD3 := Lib.hid (HD2.out.below HB3.out)
              have HM3 := Lib.hid (HM2.out.below HB3.out)
              obtain ⟨m0, m1, m2, m3, m4⟩ := HM3.out.five
              obtain ⟨d0, d1, d2, _⟩ := HD3.out.three
              have lm := HM3.out.lt
              have ld := HD3.out.lt
              obtain ⟨Aa', ca', c0, ha3, lb3⟩ := HEN.out _ HB3.out
              by_cases hql : q < al
              · have tq : decide ((q : Int) < al) = true := by simpa using hql
                obtain ⟨b4, o4, rfl, lb4, f0⟩ := is_at (i := q) ha3 (by rw [HAL.out]; exact hql)
                have NI := Lib.hid (fun W => isthingR_any (nth zs q) W)
                cases hn : nTh (nth zs q) with
                | true =>
                  have HR := Lib.hid (HZS.out q hql hn)
                  rw [hn] at NI
                  clear hn
                  generalize nth zs q = x at *
                  go_wp2_with fail
                  refine (NI.out _).mono ?_
                  rintro e w5 ⟨rfl, rfl⟩
                  go_wp2_with fail
                  go_ret
                  exact ⟨by rw [HR.out]; rfl, below_after HB2.out HB3.out⟩
                | false =>
                  have HN : Hid (∀ j, j = q → nTh (nth zs j) = false) := Lib.hid (fun j hj => by subst hj; exact hn)
                  rw [hn] at NI
                  clear hn
                  generalize nth zs q = x at *
                  go_wp2_with fail
                  refine (NI.out _).mono ?_
                  rintro e w5 ⟨rfl, rfl⟩
                  go_wp2_with fail
                  go_round
                  case rel => exact ⟨q + 1, by omega, by go_num, Lib.hid (fun j hj => by
                    rcases Nat.lt_or_ge j q with z | z
                    · exact HQ.out j z
                    · exact HN.out j (by omega)), HB3⟩
                  case measure => simp [intOf]; omega
              · obtain rfl : al = q := by omega
                have tq : decide ((al : Int) < al) = false := by simp
                have HX := Lib.hid (HZN.out HQ.out)
                go_wp2_with fail
                go_round
                case rel => exact ⟨i + 1, by omega, by go_num, HX, Lib.hid (below_after HB2.out HB3.out), HD3, HM3⟩
                case measure => simp [intOf]; omega
          · obtain rfl : rl = i := by omega
            have t3 : decide ((rl : Int) < rl) = false := by simp
            have HR3 : Hid (r = if twB es = true then 7 else if b1 = false ∨ (es.any fun e => !gdV so e.too) = true then 8 else 0) := Lib.hid (by
              rw [HR2.out, if_neg (by rw [any_no (q := fun e => e.args.any nTh) (fun j hj => HP.out j (by rw [← HRL.out]; exact hj))]; simp)])
            clear HR2 HP hlt hi
            go_wp2_with fail
            clear t3
            clear m0 m1 m2 m3 m4 d0 d1 d2 lm ld
            --REST
            go_loopw [8] (fun k wr => ∃ i : Nat, i ≤ rl ∧ k = .int .i64 i ∧ Hid (∀ j, j < i → ∀ k, k < j → (en es k).args ≠ (en es j).args) ∧ Hid (Below w.heap.size w wr) ∧ Hid (HB wr w.heap.size 52 #[.string nm, .slice Ad dl dc, .int .i64 so]) ∧ Hid (HB wr (w.heap.size + 1) 49 #[.slice A rl c, .int .i64 vn, .int .i64 vd, .slice Ac cl cc, .int .i64 vr])) (fun k _ => rl - (intOf k).toNat)
            case atStart => exact ⟨0, by omega, rfl, Lib.hid (fun j hj => absurd hj (by omega)), HB2, HD2, HM2⟩
            case round =>
              clear HB2 HD2 HM2
              obtain ⟨i, hi, rfl, HP, HB4, HD4, HM4⟩ := hrel
              obtain ⟨m0, m1, m2, m3, m4⟩ := HM4.out.five
              obtain ⟨d0, d1, d2, _⟩ := HD4.out.three
              have lm := HM4.out.lt
              have ld := HD4.out.lt
              by_cases hlt : i < rl
              · have t3 : decide ((i : Int) < rl) = true := by simpa using hlt
                obtain ⟨b, o, rfl, lb, _⟩ := es_at (i := i) (HH.out.below HB4.out) (by rw [HRL.out]; exact hlt)
                have HEN : Hid (∀ W, Below wr.heap.size wr W → EsAt W (some ⟨b, o, none⟩) es) := Lib.hid (fun W hW => (HH.out.below HB4.out).below hW)
                have HPS : Hid ((∀ k, k < i → (en es k).args ≠ (en es i).args) → ∀ j, j < i + 1 → ∀ k, k < j → (en es k).args ≠ (en es j).args) := Lib.hid (fun h j hj k hk => by
                  rcases Nat.lt_or_ge j i with z | z
                  · exact HP.out j z k hk
                  · obtain rfl : j = i := by omega
                    exact h k hk)
                clear lb HP
                go_wp2_with fail
                clear m0 m1 m2 m3 m4 d0 d1 d2 lm ld
                go_loopw [9] (fun k wr2 => ∃ q : Nat, q ≤ i ∧ k = .int .i64 q ∧ Hid (∀ k, k < q → (en es k).args ≠ (en es i).args) ∧ Hid (Below wr.heap.size wr wr2)) (fun k _ => i - (intOf k).toNat)
                case atStart => exact ⟨0, by omega, rfl, Lib.hid (fun j hj => absurd hj (by omega)), Lib.hid (Below.refl _ _)⟩
                case round =>
                  obtain ⟨q, hq, rfl, HQ, HB5⟩ := hrel
                  rename World => W5
                  have HD5 := Lib.hid (HD4.out.below HB5.out)
                  have HM5 := Lib.hid (HM4.out.below HB5.out)
                  obtain ⟨m0, m1, m2, m3, m4⟩ := HM5.out.five
                  obtain ⟨d0, d1, d2, _⟩ := HD5.out.three
                  have lm := HM5.out.lt
                  have ld := HD5.out.lt
                  by_cases hql : q < i
                  · have tq : decide (q < i) = true := by simpa using hql
                    have tq2 : decide ((q : Int) < i) = true := by simpa using hql
                    have tr : decide ((q : Int) < rl) = true := by simp; omega
                    obtain ⟨lb, ⟨⟨A1, ca1, c0, x1, x2, x3⟩, _⟩⟩ := es_at2 (i := i) (HEN.out _ HB5.out) (by rw [HRL.out]; exact hlt)
                    obtain ⟨_, ⟨⟨A2, ca2, e0, y1, y2, y3⟩, _⟩⟩ := es_at2 (i := q) (HEN.out _ HB5.out) (by rw [HRL.out]; omega)
                    have NS := Lib.hid (fun n => sameints_any (en es i).args (en es q).args A1 A2 ca1 ca2 (by omega) (by omega) (W5.drewN n) (x3.drewN n) (y3.drewN n))
                    clear x3 y3
                    by_cases hx : (en es i).args = (en es q).args
                    · have HR : Hid (r = 7) := Lib.hid (by rw [HR3.out, if_pos (twB_yes (i := i) (k := q) (by rw [HRL.out]; exact hlt) hql hx.symm)])
                      have NT : Hid (∀ n, Calls Tryz.prog 87 #[.slice A1 (en es i).args.length ca1, .slice A2 (en es q).args.length ca2] (W5.drewN n) fun e w' => e = .returned (.bool true) ∧ ∃ m, w' = (W5.drewN n).drewN m) := Lib.hid (fun n => by have := NS.out n; rw [decide_eq_true hx] at this; exact this)
                      clear NS hx
                      unfold maxLen at x2 y2
                      generalize (en es i).args.length = al at *
                      generalize (en es q).args.length = bl at *
                      go_wp2_with fail
                      go_quiet ((go_at_call 87; exact Calls.quiet_of (NT.out _)))
                      go_wp2_with fail
                      go_ret
                      exact ⟨by rw [HR.out]; rfl, below_dn (below_after HB4.out HB5.out) _⟩
                    · have HX : Hid (∀ k, k = q → (en es k).args ≠ (en es i).args) := Lib.hid (fun k hk => by subst hk; exact fun z => hx z.symm)
                      have NT : Hid (∀ n, Calls Tryz.prog 87 #[.slice A1 (en es i).args.length ca1, .slice A2 (en es q).args.length ca2] (W5.drewN n) fun e w' => e = .returned (.bool false) ∧ ∃ m, w' = (W5.drewN n).drewN m) := Lib.hid (fun n => by have := NS.out n; rw [decide_eq_false hx] at this; exact this)
                      clear NS hx
                      unfold maxLen at x2 y2
                      generalize (en es i).args.length = al at *
                      generalize (en es q).args.length = bl at *
                      go_wp2_with fail
                      go_quiet ((go_at_call 87; exact Calls.quiet_of (NT.out _)))
                      go_wp2_with fail
                      go_round
                      case rel => exact ⟨q + 1, by omega, by go_num, Lib.hid (fun j hj => by
                        rcases Nat.lt_or_ge j q with z | z
                        · exact HQ.out j z
                        · exact HX.out j (by omega)), Lib.hid (below_dn HB5.out _)⟩
                      case measure => simp [intOf]; omega
                  · obtain rfl : i = q := by omega
                    have tq : decide ((i : Int) < i) = false := by simp
                    have HX := Lib.hid (HPS.out HQ.out)
                    go_wp2_with fail
                    go_round
                    case rel => exact ⟨i + 1, by omega, by go_num, HX, Lib.hid (below_after HB4.out HB5.out), HD5, HM5⟩
                    case measure => simp [intOf]; omega
              · obtain rfl : rl = i := by omega
                have t3 : decide ((rl : Int) < rl) = false := by simp
                have HR4 : Hid (r = if b1 = false ∨ (es.any fun e => !gdV so e.too) = true then 8 else 0) := Lib.hid (by
                  rw [HR3.out, if_neg (by rw [twB_no (fun j hj => HP.out j (by rw [← HRL.out]; exact hj))]; simp)])
                have X6 := Lib.hid (S6.out _ HB4.out)
                clear HR3 HP hlt hi
                go_wp2_with fail
                refine X6.out.mono ?_
                rintro e w6 ⟨rfl, hb6⟩
                have HB6 := Lib.hid (below_after HB4.out hb6)
                have HD6 := Lib.hid (HD4.out.below hb6)
                have HM6 := Lib.hid (HM4.out.below hb6)
                clear hb6 HB4 HD4 HM4 X6 S6 t3
                clear m0 m1 m2 m3 m4 d0 d1 d2 lm ld
                cases hb : b1 with
                | false =>
                  have HR : Hid (r = 8) := Lib.hid (by rw [HR4.out, hb]; rfl)
                  clear hb
                  go_wp2_with fail
                  go_ret
                  exact ⟨by rw [HR.out]; rfl, HB6.out⟩
                | true =>
                  have HR5 : Hid (r = if (es.any fun e => !gdV so e.too) = true then 8 else 0) := Lib.hid (by rw [HR4.out, hb]; simp)
                  clear hb HR4
                  go_wp2_with fail
                  go_loopw [10] (fun k wr => ∃ i : Nat, i ≤ rl ∧ k = .int .i64 i ∧ Hid (∀ j, j < i → gdV so (en es j).too = true) ∧ Hid (Below w.heap.size w wr) ∧ Hid (HB wr w.heap.size 52 #[.string nm, .slice Ad dl dc, .int .i64 so]) ∧ Hid (HB wr (w.heap.size + 1) 49 #[.slice A rl c, .int .i64 vn, .int .i64 vd, .slice Ac cl cc, .int .i64 vr])) (fun k _ => rl - (intOf k).toNat)
                  case atStart => exact ⟨0, by omega, rfl, Lib.hid (fun j hj => absurd hj (by omega)), HB6, HD6, HM6⟩
                  case round =>
                    clear HB6 HD6 HM6
                    obtain ⟨i, hi, rfl, HP, HB7, HD7, HM7⟩ := hrel
                    obtain ⟨m0, m1, m2, m3, m4⟩ := HM7.out.five
                    obtain ⟨d0, d1, d2, _⟩ := HD7.out.three
                    have lm := HM7.out.lt
                    have ld := HD7.out.lt
                    by_cases hlt : i < rl
                    · have t3 : decide ((i : Int) < rl) = true := by simpa using hlt
                      obtain ⟨b, o, rfl, lb, ⟨_, v0, v1, v3, Av, cv, v2, z1, z2, z3⟩⟩ := es_at (i := i) (HH.out.below HB7.out) (by rw [HRL.out]; exact hlt)
                      have XG := Lib.hid (fun W (hb : Below wr.heap.size wr W) => goodvalue_any so (en es i).too Av cv HSO.out (by omega) W (z3.below hb))
                      have HX : Hid (gdV so (en es i).too = true → ∀ j, j < i + 1 → gdV so (en es j).too = true) := Lib.hid (fun h j hj => by
                        rcases Nat.lt_or_ge j i with z | z
                        · exact HP.out j z
                        · obtain rfl : j = i := by omega
                          exact h)
                      have HY : Hid (gdV so (en es i).too = false → r = 8) := Lib.hid (fun h => by
                        rw [HR5.out, if_pos (any_yes (q := fun e => !gdV so e.too) (j := i) (by rw [HRL.out]; exact hlt) (by rw [h]; rfl))])
                      clear z3 HP
                      unfold maxLen at z2
                      generalize gdV so (en es i).too = g at *
                      generalize (en es i).too.num = en1 at *
                      generalize (en es i).too.den = en2 at *
                      generalize (en es i).too.rest = en3 at *
                      generalize (en es i).too.cells.length = en4 at *
                      have XW : Hid (Calls Tryz.prog 88 #[.int .i64 so, .agg #[.int .i64 en1, .int .i64 en2, .slice Av en4 cv, .int .i64 en3]] wr.drew fun e w' => e = .returned (.bool g) ∧ Below wr.heap.size wr w') := Lib.hid ((XG.out _ (Below.refl _ _).drew).mono fun e w' ⟨h1, h2⟩ => ⟨h1, (Below.refl _ _).drew.trans h2⟩)
                      go_wp2_with fail
                      go_region_with (go_at_call 88; (with_reducible refine XW.out.mono ?_); rintro e w8 ⟨rfl, hb8⟩; have B8 : Hid (Below w.heap.size w w8) := bw_below (Nat.le_refl _) HB7.out hb8; have D8 := Lib.hid (HD7.out.below hb8); have M8 := Lib.hid (HM7.out.below hb8); clear hb8)
                      all_goals
                        clear m0 m1 m2 m3 m4 d0 d1 d2 lm ld
                        cases hg : g with
                        | true =>
                          have HX2 := Lib.hid (HX.out hg)
                          clear hg
                          go_wp2_with fail
                          go_round
                          case rel => exact ⟨i + 1, by omega, by go_num, HX2, B8, D8, M8⟩
                          case measure => simp [intOf]; omega
                        | false =>
                          have HR := Lib.hid (HY.out hg)
                          clear hg
                          go_wp2_with fail
                          go_ret
                          exact ⟨by rw [HR.out]; rfl, B8.out⟩
                    · obtain rfl : rl = i := by omega
                      have t3 : decide ((rl : Int) < rl) = false := by simp
                      have HR : Hid (r = 0) := Lib.hid (by
                        rw [HR5.out, if_neg (by rw [any_no (q := fun e => !gdV so e.too) (fun j hj => by rw [HP.out j (by rw [← HRL.out]; exact hj)]; rfl)]; simp)])
                      clear HR5 HP hlt hi
                      go_wp2_with fail
                      go_ret
                      exact ⟨by rw [HR.out]; rfl, HB7.out⟩
end Go.Proofs.YtaodebpogibimaaGreat
