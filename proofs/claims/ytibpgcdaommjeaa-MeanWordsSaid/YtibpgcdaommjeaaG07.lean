/-
  Asks: where a name is declared.
  Asks: what is wrong with a declaration.
  Asks: what is wrong with a declaration, by the reference.
  Asks: fractions of a node.
  Asks: the name and the numbers of a node.
-/
import Derived.Test.YtibpgcdaommjeaaG06
import Derived.Test.YtibpgcdaommjeaaG02
namespace Go.Proofs.Ytibpgcdaommjeaa
open Go.RowKit

/-- A declared name of a list. -/
def dn (qs : List Dc) (i : Nat) : Dc := qs.getD i default
def nn (qs : List Nd) (i : Nat) : Nd := qs.getD i default
theorem dn_of {qs : List Dc} {i : Nat} (h : i < qs.length) : qs[i]? = some (dn qs i) := by simp [dn, List.getD, h]
theorem nn_of {qs : List Nd} {i : Nat} (h : i < qs.length) : qs[i]? = some (nn qs i) := by simp [nn, List.getD, h]
theorem dn_mem {qs : List Dc} {i : Nat} (h : i < qs.length) : dn qs i ∈ qs := List.mem_of_getElem? (dn_of h)
theorem nn_mem {qs : List Nd} {i : Nat} (h : i < qs.length) : nn qs i ∈ qs := List.mem_of_getElem? (nn_of h)
theorem ds_at {w : World} {A : Option Addr} {qs : List Dc} {i : Nat} (h : DsAt w A qs) (hi : i < qs.length) :
    ∃ b o A' c, A = some ⟨b, o, none⟩ ∧ b < w.heap.size ∧ w.cell? ⟨b, o + i * 3, none⟩ = some (.string (dn qs i).name) ∧ w.cell? ⟨b, o + i * 3 + 1, none⟩ = some (.slice A' (dn qs i).args.length c) ∧
      w.cell? ⟨b, o + i * 3 + 2, none⟩ = some (.int .i64 (dn qs i).sort) ∧ (dn qs i).name.size ≤ maxLen ∧ (dn qs i).args.length ≤ maxLen ∧ Is w A' (dn qs i).args := by
  obtain ⟨b, o, e, l, k⟩ := h (by omega)
  obtain ⟨c0, c2, hs, A', c, c1, h1, h2, h3⟩ := k i _ (dn_of hi)
  exact ⟨b, o, A', c, e, l, c0, c1, c2, hs, Nat.le_trans h1 h2, h3⟩
theorem ns_at {w : World} {A : Option Addr} {qs : List Nd} {i : Nat} (h : NsAt w A qs) (hi : i < qs.length) :
    ∃ b o A' c, A = some ⟨b, o, none⟩ ∧ b < w.heap.size ∧ w.cell? ⟨b, o + i * 5, none⟩ = some (.int .i64 (nn qs i).op) ∧ w.cell? ⟨b, o + i * 5 + 1, none⟩ = some (.slice A' (nn qs i).kids.length c) ∧
      w.cell? ⟨b, o + i * 5 + 2, none⟩ = some (.int .i64 (nn qs i).n) ∧ w.cell? ⟨b, o + i * 5 + 3, none⟩ = some (.int .i64 (nn qs i).d) ∧ w.cell? ⟨b, o + i * 5 + 4, none⟩ = some (.string (nn qs i).name) ∧ (nn qs i).name.size ≤ maxLen ∧ (nn qs i).kids.length ≤ maxLen ∧ Is w A' (nn qs i).kids := by
  obtain ⟨b, o, e, l, k⟩ := h (by omega)
  obtain ⟨c0, c2, c3, c4, hs, A', c, c1, h1, h2, h3⟩ := k i _ (nn_of hi)
  exact ⟨b, o, A', c, e, l, c0, c1, c2, c3, c4, hs, Nat.le_trans h1 h2, h3⟩
/-- Where a name is declared; -1: nowhere. -/
def fdI (qs : List Dc) (s : ByteArray) : Nat := qs.findIdx fun q => q.name.toList == s.toList
def fdZ (qs : List Dc) (s : ByteArray) : Int := if fdI qs s < qs.length then (fdI qs s : Int) else -1
theorem dn_el {qs : List Dc} {i : Nat} (hi : i < qs.length) : qs[i] = dn qs i := by
  have := dn_of hi
  rw [List.getElem?_eq_getElem hi] at this
  injection this
theorem nn_el {qs : List Nd} {i : Nat} (hi : i < qs.length) : qs[i] = nn qs i := by
  have := nn_of hi
  rw [List.getElem?_eq_getElem hi] at this
  injection this
theorem fd_hit {qs : List Dc} {s : ByteArray} {i : Nat} (hi : i < qs.length) (h : ∀ j, j < i → ((dn qs j).name.toList == s.toList) = false) (he : ((dn qs i).name.toList == s.toList) = true) : fdI qs s = i := by
  unfold fdI
  rw [List.findIdx_eq hi]
  refine ⟨?_, fun j hj => ?_⟩
  · rw [dn_el hi]; exact he
  · rw [dn_el (by omega)]; exact h j hj
theorem fd_miss {qs : List Dc} {s : ByteArray} (h : ∀ j, j < qs.length → ((dn qs j).name.toList == s.toList) = false) : fdI qs s = qs.length := by
  unfold fdI
  rw [List.findIdx_eq_length]
  intro x hx
  obtain ⟨i, hi, rfl⟩ := List.getElem_of_mem hx
  rw [dn_el hi]; exact h i hi
theorem fdz_hit {qs : List Dc} {s : ByteArray} {i : Nat} (hi : i < qs.length) (h : ∀ j, j < i → ((dn qs j).name.toList == s.toList) = false) (he : ((dn qs i).name.toList == s.toList) = true) : fdZ qs s = i := by
  unfold fdZ; rw [fd_hit hi h he, if_pos hi]
theorem fdz_miss {qs : List Dc} {s : ByteArray} (h : ∀ j, j < qs.length → ((dn qs j).name.toList == s.toList) = false) : fdZ qs s = -1 := by
  unfold fdZ; rw [fd_miss h, if_neg (by omega)]
theorem decl1_any (n s : ByteArray) (A' : Option Addr) (k c' : Nat) (t : Int) (g : Nat) (w : World) (hg : HB w g 9 #[.string s]) :
    Calls Try.prog 74 #[.agg #[.string n, .slice A' k c', .int .i64 t], .pointer (some ⟨g, 0, none⟩)] w fun e w' => e = .returned (.bool (n.toList == s.toList)) ∧ Below w.heap.size w w' := by
  obtain ⟨h0, h1⟩ := (hg.alloc (.cells #[.string n, .slice A' k c', .int .i64 t] 45)).one
  clear hg
  go_enter Try.func74, Try.ntmps74
  go_wp2
  go_ret
  exact ⟨rfl, new_below _ _⟩
set_option maxHeartbeats 1000000 in
theorem indexd_any (qs : List Dc) (A : Option Addr) (c : Nat) (s : ByteArray) (g : Nat) (hl : qs.length ≤ maxLen) (w : World) (h : DsAt w A qs) (hg : HB w g 9 #[.string s]) :
    Calls Try.prog 16 #[.slice A qs.length c, .func (.func 74) #[] #[.pointer (some ⟨g, 0, none⟩)]] w fun e w' => e = .returned (.int .i64 (fdZ qs s)) ∧ Below w.heap.size w w' := by
  have HA := Lib.hid h
  have HG := Lib.hid hg
  unfold maxLen at hl
  generalize hL : qs.length = L at *
  have HL := Lib.hid hL
  clear h hL hg
  go_enter Try.func16, Try.ntmps16
  go_wp2_with fail
  go_loopw [5, 8] (fun _ k wr => ∃ i : Nat, i ≤ L ∧ k = .int .i64 i ∧ Hid (∀ j, j < i → ((dn qs j).name.toList == s.toList) = false) ∧ Hid (Below w.heap.size w wr)) (fun _ k _ => L - (intOf k).toNat)
  case atStart => exact ⟨0, by omega, rfl, fun j hj => absurd hj (by omega), Below.refl _ _⟩
  case round =>
    obtain ⟨i, hi, rfl, HP, HB⟩ := hrel
    by_cases hlt : i < L
    · obtain ⟨b, o, A', c', rfl, hb, c0, c1, c2, _⟩ := ds_at (i := i) (HA.out.below HB.out) (by rw [HL.out]; exact hlt)
      have t3 : decide ((i : Int) < L) = true := by simpa using hlt
      cases d : (dn qs i).name.toList == s.toList with
      | true =>
        have HD := Lib.hid d
        have HE := Lib.hid (fdz_hit (by rw [HL.out]; exact hlt) HP.out d)
        clear d
        go_wp2_with fail
        refine (decl1_any (dn qs i).name s A' (dn qs i).args.length c' (dn qs i).sort g _ (HG.out.below HB.out)).mono ?_
        rintro e w1 ⟨rfl, hb1⟩
        have G1 : Hid (Below w.heap.size w w1) := bw_below (Nat.le_refl _) HB.out hb1
        clear hb1
        rw [HD.out]
        go_wp2_with fail
        go_ret
        rw [HE.out]
        exact ⟨rfl, G1.out⟩
      | false =>
        have HD := Lib.hid d
        clear d
        go_wp2_with fail
        refine (decl1_any (dn qs i).name s A' (dn qs i).args.length c' (dn qs i).sort g _ (HG.out.below HB.out)).mono ?_
        rintro e w1 ⟨rfl, hb1⟩
        have G1 : Hid (Below w.heap.size w w1) := bw_below (Nat.le_refl _) HB.out hb1
        clear hb1
        rw [HD.out]
        go_wp2_with fail
        go_round
        case rel => exact ⟨i + 1, by omega, by go_num, fun j hj => by
          rcases Nat.lt_or_ge j i with z | z
          · exact HP.out j z
          · obtain rfl : j = i := by omega
            exact HD.out, G1.out⟩
        case measure => simp [intOf]; omega
    · obtain rfl : i = L := by omega
      have t3 : decide ((i : Int) < i) = false := by simp
      have HE := Lib.hid (fdz_miss (qs := qs) (s := s) (fun j hj => HP.out j (by rw [HL.out] at hj; exact hj)))
      clear hlt
      go_wp2_with fail
      go_ret
      rw [HE.out]
      exact ⟨rfl, HB.out⟩
theorem declared_any (qs : List Dc) (A : Option Addr) (c : Nat) (s : ByteArray) (hl : qs.length ≤ maxLen) (w : World) (h : DsAt w A qs) :
    Calls Try.prog 48 #[.slice A qs.length c, .string s] w fun e w' => e = .returned (.int .i64 (fdZ qs s)) ∧ Below w.heap.size w w' := by
  have HX := Lib.hid (indexd_any qs A c s w.heap.size hl (w.alloc (.cells #[.string s] 9)) (h.below (new_below _ _)) (HB.new _ _ _))
  clear h hl
  generalize qs.length = L at *
  go_enter Try.func48, Try.ntmps48
  go_wp2_with fail
  refine HX.out.mono ?_
  rintro e w1 ⟨rfl, hb1⟩
  have HB1 := Lib.hid (bw_below (Nat.le_refl _) (new_below w (.cells #[.string s] 9)) hb1)
  clear hb1
  go_wp2_with fail
  go_ret
  exact ⟨rfl, HB1.out⟩
end Go.Proofs.Ytibpgcdaommjeaa
namespace Go.Proofs.Ytibpgcdaommjeaa
open Go.RowKit

/-- What is wrong with a declared name. -/
def dcC (qs : List Dc) (i : Nat) : Int :=
  if okNm (dn qs i).name = false then 12 else if fdI qs (dn qs i).name < i then 7 else if 8 < (dn qs i).args.length then 9 else
  if sSo (dn qs i).sort = false ∨ (dn qs i).args.all sTh = false ∨ ((dn qs i).sort = 5 ∧ 0 < (dn qs i).args.length) then 4 else 0
theorem fd_self {qs : List Dc} {i : Nat} (hi : i < qs.length) : fdI qs (dn qs i).name ≤ i := by
  unfold fdI
  rcases Nat.lt_or_ge i (qs.findIdx fun q => q.name.toList == (dn qs i).name.toList) with z | z
  · have := List.not_of_lt_findIdx z
    rw [dn_el hi] at this
    simp at this
  · exact z
theorem fdz_self {qs : List Dc} {i : Nat} (hi : i < qs.length) : fdZ qs (dn qs i).name = fdI qs (dn qs i).name := by
  unfold fdZ
  rw [if_pos (Nat.lt_of_le_of_lt (fd_self hi) hi)]
theorem fdz_take {qs : List Dc} {i : Nat} {s : ByteArray} (hi : i ≤ qs.length) : decide (0 ≤ fdZ (qs.take i) s) = decide (fdI qs s < i) := by
  have hl : (qs.take i).length = i := by rw [List.length_take]; omega
  unfold fdZ
  rw [hl]
  have e : (fdI (qs.take i) s < i) ↔ fdI qs s < i := by
    unfold fdI
    have e0 : ((qs.take i).findIdx fun q => q.name.toList == s.toList) < i ↔ ∃ x ∈ qs.take i, (x.name.toList == s.toList) = true := by
      have := List.findIdx_lt_length (xs := qs.take i) (p := fun q => q.name.toList == s.toList)
      rwa [hl] at this
    rw [e0]
    constructor
    · rintro ⟨x, hx, hp⟩
      obtain ⟨j, hj, rfl⟩ := List.getElem_of_mem hx
      rw [hl] at hj
      rw [List.getElem_take] at hp
      rcases Nat.lt_or_ge (qs.findIdx fun q => q.name.toList == s.toList) i with z | z
      · exact z
      · have := List.not_of_lt_findIdx (Nat.lt_of_lt_of_le hj z)
        rw [hp] at this; cases this
    · intro z
      have hz : (qs.findIdx fun q => q.name.toList == s.toList) < qs.length := by omega
      have := List.findIdx_getElem (w := hz)
      refine ⟨_, ?_, this⟩
      rw [List.mem_take_iff_getElem]
      exact ⟨_, by omega, rfl⟩
  by_cases z : fdI qs s < i
  · rw [if_pos (e.2 z)]; simp [z]
  · rw [if_neg (fun y => z (e.1 y))]; simp [z]
theorem DsAt.pre {w : World} {A : Option Addr} {qs : List Dc} (h : DsAt w A qs) (k : Nat) : DsAt w A (qs.take k) := h.take k
set_option maxHeartbeats 2000000 in
theorem wrongdecl_any (qs : List Dc) (A : Option Addr) (c : Nat) (i : Nat) (hi : i < qs.length) (hc : qs.length ≤ c) (hl : c ≤ maxLen) (w : World) (h : DsAt w A qs) :
    Calls Try.prog 23 #[.slice A qs.length c, .int .i64 i] w fun e w' => e = .returned (.int .i64 (dcC qs i)) ∧ Below w.heap.size w w' := by
  obtain ⟨b, o, A', c', rfl, hb, c0, c1, c2, hs, ha, hx⟩ := ds_at h hi
  have HS := Lib.hid hs
  have HA := Lib.hid h
  have HDEC := Lib.hid (fun (W : World) (hW : DsAt W (some ⟨b, o, none⟩) qs) => declared_any (qs.take i) (some ⟨b, o, none⟩) c (dn qs i).name (by rw [List.length_take]; omega) W (hW.pre i))
  have hti : (qs.take i).length = i := by rw [List.length_take]; omega
  rw [hti, ] at HDEC
  unfold maxLen at hl ha
  have HL := Lib.hid hi
  have HXX := Lib.hid hx
  have HN := Lib.hid (HB.new w 45 #[.string (dn qs i).name, .slice A' (dn qs i).args.length c', .int .i64 (dn qs i).sort])
  generalize hL : qs.length = L at *
  cases d1 : okNm (dn qs i).name with
  | false =>
    have D1 := Lib.hid d1
    have HE : Hid (dcC qs i = 12) := Lib.hid (by unfold dcC; rw [d1, if_pos rfl])
    clear h hx hs d1 hti hL
    go_enter Try.func23, Try.ntmps23
    go_wp2_with fail
    refine (isname_any _ _ HS.out).mono ?_
    rintro e w1 ⟨rfl, rfl⟩
    rw [D1.out]
    go_wp2_with fail
    go_ret
    rw [HE.out]
    exact ⟨rfl, new_below _ _⟩
  | true =>
    have D1 := Lib.hid d1
    have HZ := Lib.hid (fdz_take (s := (dn qs i).name) (by rw [hL]; omega : i ≤ qs.length))
    have HE : Hid (dcC qs i = (if fdI qs (dn qs i).name < i then 7 else if 8 < (dn qs i).args.length then 9 else
      if sSo (dn qs i).sort = false ∨ (dn qs i).args.all sTh = false ∨ ((dn qs i).sort = 5 ∧ 0 < (dn qs i).args.length) then 4 else 0)) := Lib.hid (by
        unfold dcC; rw [if_neg (by rw [d1]; decide)])
    have HEV := Lib.hid (fun (W : World) (hW : Is W A' (dn qs i).args) => everything_any (dn qs i).args A' c' ha W hW)
    clear h hx hs d1 hti hL
    generalize hnm : (dn qs i).name = nm at *
    generalize hag : (dn qs i).args = ag at *
    generalize hst : (dn qs i).sort = st at *
    generalize hal : ag.length = al at *
    clear hnm hag hst hal
    go_enter Try.func23, Try.ntmps23
    go_wp2_with fail
    refine (isname_any _ _ HS.out).mono ?_
    rintro e w1 ⟨rfl, rfl⟩
    rw [D1.out]
    go_wp2_with fail
    go_cut [15] (fun s wx => s = .bool (decide (fdI qs nm < i)) ∧ Hid (HB wx w.heap.size 45 #[.string nm, .slice A' al c', .int .i64 st]) ∧ Hid (Below w.heap.size w wx))
    case first =>
      have HD1 := Lib.hid (HDEC.out ((w.alloc (.cells #[.string nm, .slice A' al c', .int .i64 st] 45)).drew) (HA.out.below (new_below _ _).drew))
      go_region_with (go_at_call 48; (with_reducible refine HD1.out.mono ?_); rintro e w1 ⟨rfl, hb1⟩; have G1 : Hid (Below w.heap.size w w1) := bw_below (Nat.le_refl _) (new_below _ _).drew hb1; have N1 := Lib.hid (HN.out.drew.below hb1); clear hb1)
      all_goals
        go_wp2_with fail
        go_meet
        refine ⟨?_, N1, G1⟩
        rw [HZ.out]
    case rest =>
      obtain ⟨rfl, NX, GX⟩ := hcut
      obtain ⟨x0, x1, x2, _⟩ := NX.out.three
      have lx := NX.out.lt
      cases e1 : decide (fdI qs nm < i) with
      | true =>
        rw [if_pos (by simpa using e1)] at HE
        clear e1
        go_wp2_with fail
        go_ret
        rw [HE.out]
        exact ⟨rfl, GX.out⟩
      | false =>
        rw [if_neg (by simpa using e1)] at HE
        clear e1
        by_cases h8 : 8 < al
        · rw [if_pos h8] at HE
          have t8 : decide ((8 : Int) < al) = true := by simp; omega
          clear h8
          go_wp2_with fail
          go_ret
          rw [HE.out]
          exact ⟨rfl, GX.out⟩
        · rw [if_neg h8] at HE
          have t8 : decide ((8 : Int) < al) = false := by simp; omega
          cases e2 : sSo st with
          | false =>
            have E2 := Lib.hid e2
            rw [if_pos (.inl e2)] at HE
            clear e2 h8
            go_wp2_with fail
            refine (issort_any _ _).mono ?_
            rintro e w2 ⟨rfl, rfl⟩
            rw [E2.out]
            go_wp2_with fail
            go_ret
            rw [HE.out]
            exact ⟨rfl, GX.out⟩
          | true =>
            have E2 := Lib.hid e2
            have HV1 := Lib.hid (HEV.out _ (HXX.out.below GX.out))
            cases e3 : ag.all sTh with
            | false =>
              have E3 := Lib.hid e3
              rw [if_pos (.inr (.inl e3))] at HE
              clear e2 h8 e3
              go_wp2_with fail
              refine (issort_any _ _).mono ?_
              rintro e w2 ⟨rfl, rfl⟩
              rw [E2.out]
              go_wp2_with fail
              refine HV1.out.mono ?_
              rintro e w2 ⟨rfl, hb2⟩
              have G2 : Hid (Below w.heap.size w w2) := bw_below (Nat.le_refl _) GX.out hb2
              clear hb2
              rw [E3.out]
              go_wp2_with fail
              go_ret
              rw [HE.out]
              exact ⟨rfl, G2.out⟩
            | true =>
              have E3 := Lib.hid e3
              by_cases h5 : st = 5
              · have t5 : (st == 5) = true := by simpa using h5
                by_cases h0 : 0 < al
                · rw [if_pos (.inr (.inr ⟨h5, h0⟩))] at HE
                  have t0 : decide (0 < al) = true := by simpa using h0
                  clear e2 h8 e3 h5 h0
                  go_wp2_with fail
                  refine (issort_any _ _).mono ?_
                  rintro e w2 ⟨rfl, rfl⟩
                  rw [E2.out]
                  go_wp2_with fail
                  refine HV1.out.mono ?_
                  rintro e w2 ⟨rfl, hb2⟩
                  have G2 : Hid (Below w.heap.size w w2) := bw_below (Nat.le_refl _) GX.out hb2
                  obtain ⟨y0, y1, y2, _⟩ := (NX.out.below hb2).three
                  clear hb2 x0 x1 x2
                  rw [E3.out]
                  go_wp2_with fail
                  go_ret
                  rw [HE.out]
                  exact ⟨rfl, G2.out⟩
                · rw [if_neg (by rw [e2, e3]; simp [h5, h0])] at HE
                  have t0 : decide (0 < al) = false := by simpa using h0
                  clear e2 h8 e3 h5 h0
                  go_wp2_with fail
                  refine (issort_any _ _).mono ?_
                  rintro e w2 ⟨rfl, rfl⟩
                  rw [E2.out]
                  go_wp2_with fail
                  refine HV1.out.mono ?_
                  rintro e w2 ⟨rfl, hb2⟩
                  have G2 : Hid (Below w.heap.size w w2) := bw_below (Nat.le_refl _) GX.out hb2
                  obtain ⟨y0, y1, y2, _⟩ := (NX.out.below hb2).three
                  clear hb2 x0 x1 x2
                  rw [E3.out]
                  go_wp2_with fail
                  go_ret
                  rw [HE.out]
                  exact ⟨rfl, G2.out⟩
              · rw [if_neg (by rw [e2, e3]; simp [h5])] at HE
                have t5 : (st == 5) = false := by simpa using h5
                clear e2 h8 e3 h5
                go_wp2_with fail
                refine (issort_any _ _).mono ?_
                rintro e w2 ⟨rfl, rfl⟩
                rw [E2.out]
                go_wp2_with fail
                refine HV1.out.mono ?_
                rintro e w2 ⟨rfl, hb2⟩
                have G2 : Hid (Below w.heap.size w w2) := bw_below (Nat.le_refl _) GX.out hb2
                obtain ⟨y0, y1, y2, _⟩ := (NX.out.below hb2).three
                clear hb2 x0 x1 x2
                rw [E3.out]
                go_wp2_with fail
                go_ret
                rw [HE.out]
                exact ⟨rfl, G2.out⟩
end Go.Proofs.Ytibpgcdaommjeaa
namespace Go.Proofs.Ytibpgcdaommjeaa
open Go.RowKit

theorem wb_pos {s : Int} (h : sWd s = true) : (wBits s == 0) = false := by
  unfold sWd at h; unfold wBits
  simp at h
  rw [if_pos h]
  simp; omega
theorem wb_nil {s : Int} (h : sWd s = false) : wBits s = 0 := by
  unfold sWd at h; unfold wBits
  simp at h
  rw [if_neg (by omega)]
theorem all_nil {xs : List Int} (p : Int → Bool) (h : xs.length = 0) : xs.all p = true := by
  cases xs with
  | nil => rfl
  | cons a l => simp at h
end Go.Proofs.Ytibpgcdaommjeaa
namespace Go.Proofs.Ytibpgcdaommjeaa
open Go.RowKit

/-- Is n / d a fraction that a node may have? -/
def isFr (n d : Int) : Bool := decide (-1000000 ≤ n ∧ n ≤ 1000000 ∧ 1 ≤ d ∧ d ≤ 1000000 ∧ Nat.gcd (mag n) (mag d) = 1)
theorem isfr_valid {n d : Int} (h1 : -1000000 ≤ n) (h2 : n ≤ 1000000) (h3 : d ≤ 1000000) : fvalid n d = isFr n d := by
  unfold fvalid isFr
  congr 1
  apply propext
  constructor
  · rintro ⟨a, b, c, e, f⟩; exact ⟨h1, h2, a, h3, f⟩
  · rintro ⟨a, b, c, e, f⟩; exact ⟨c, by omega, by omega, by omega, f⟩
theorem isfr_no {n d : Int} (h : n < -1000000 ∨ 1000000 < n ∨ 1000000 < d) : isFr n d = false := by
  unfold isFr
  simp
  omega
set_option maxHeartbeats 1000000 in
theorem isfr_any (n d : Int) (w : World) : Calls Try.prog 77 #[.int .i64 n, .int .i64 d] w fun e w' => e = .returned (.bool (isFr n d)) ∧ Below w.heap.size w w' := by
  by_cases h1 : -1000000 ≤ n
  · have d1 : decide (-1000000 ≤ n) = true := by simpa using h1
    by_cases h2 : n ≤ 1000000
    · have d2 : decide (n ≤ 1000000) = true := by simpa using h2
      by_cases h3 : d ≤ 1000000
      · have d3 : decide (d ≤ 1000000) = true := by simpa using h3
        have HV := Lib.hid (isfr_valid h1 h2 h3)
        cases hf : isFr n d with
        | true =>
          have HC := Lib.hid (fun W => check_yes n d W (by rw [HV.out]; exact hf))
          clear h1 h2 h3 hf
          go_enter Try.func77, Try.ntmps77
          go_wp2_with fail
          refine (HC.out _).mono ?_
          rintro e w1 ⟨rfl, hb1⟩
          have HB1 := Lib.hid hb1
          clear hb1
          go_wp2_with fail
          go_ret
          exact ⟨rfl, HB1.out⟩
        | false =>
          have HC := Lib.hid (fun W => check_no n d W (by rw [HV.out]; exact hf))
          clear h1 h2 h3 hf
          go_enter Try.func77, Try.ntmps77
          go_wp2_with fail
          refine (HC.out _).mono ?_
          rintro e w1 ⟨rfl, hb1⟩
          have HB1 := Lib.hid hb1
          clear hb1
          go_wp2_with fail
          go_ret
          exact ⟨rfl, HB1.out⟩
      · have d3 : decide (d ≤ 1000000) = false := by simpa using h3
        rw [isfr_no (.inr (.inr (by omega)))]
        clear h1 h2 h3
        go_enter Try.func77, Try.ntmps77
        go_wp2_with fail
        go_ret
        exact ⟨rfl, Below.refl _ _⟩
    · have d2 : decide (n ≤ 1000000) = false := by simpa using h2
      rw [isfr_no (.inr (.inl (by omega)))]
      clear h1 h2
      go_enter Try.func77, Try.ntmps77
      go_wp2_with fail
      go_ret
      exact ⟨rfl, Below.refl _ _⟩
  · have d1 : decide (-1000000 ≤ n) = false := by simpa using h1
    rw [isfr_no (.inl (by omega))]
    clear h1
    go_enter Try.func77, Try.ntmps77
    go_wp2_with fail
    go_ret
    exact ⟨rfl, Below.refl _ _⟩
theorem mag_tmod (a b : Int) : mag (a.tmod b) = mag a % mag b := by unfold mag; exact Int.natAbs_tmod a b
end Go.Proofs.Ytibpgcdaommjeaa
namespace Go.Proofs.Ytibpgcdaommjeaa
open Go.RowKit

/-- What is wrong with the name and the numbers of a node. -/
def flC (op n d : Int) (e : Bool) : Int :=
  if e = false ∧ op ≠ 9 then 5 else if n ≠ 0 ∧ op ≠ 10 ∧ op ≠ 12 ∧ op ≠ 15 ∧ op ≠ 23 then 5 else if d ≠ 0 ∧ op ≠ 10 ∧ op ≠ 12 ∧ op ≠ 15 then 5 else
  if (op = 10 ∨ op = 12) ∧ isFr n d = false then 3 else if op = 15 ∧ ¬ (1 ≤ d ∧ d ≤ 8 ∧ 0 ≤ n ∧ n < 2 ^ d.toNat) then 3 else if op = 23 ∧ (n < 0 ∨ 8 < n) then 3 else 0
theorem tl_b (s : ByteArray) : s.toList.isEmpty = true ∨ s.toList.isEmpty = false := by cases s.toList.isEmpty <;> simp
end Go.Proofs.Ytibpgcdaommjeaa
