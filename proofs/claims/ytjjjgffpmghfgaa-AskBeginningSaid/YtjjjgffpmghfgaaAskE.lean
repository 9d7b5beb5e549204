/-
  Asks: where a name is declared.
-/
import Derived.Test.YtjjjgffpmghfgaaAskD
namespace Go.Proofs.Ytjjjgffpmghfgaa
open Go.RowKit

/-- A declared name of a list. -/
def dn (qs : List Dc) (i : Nat) : Dc := qs.getD i default
def nn (qs : List Nd) (i : Nat) : Nd := qs.getD i default
theorem dn_of {qs : List Dc} {i : Nat} (h : i < qs.length) : qs[i]? = some (dn qs i) := by simp [dn, List.getD, h]
theorem nn_of {qs : List Nd} {i : Nat} (h : i < qs.length) : qs[i]? = some (nn qs i) := by simp [nn, List.getD, h]
theorem dn_mem {qs : List Dc} {i : Nat} (h : i < qs.length) : dn qs i ∈ qs := List.mem_of_getElem? (dn_of h)
theorem nn_mem {qs : List Nd} {i : Nat} (h : i < qs.length) : nn qs i ∈ qs := List.mem_of_getElem? (nn_of h)
theorem ds_at {w : World} {A : Option Addr} {qs : List Dc} {i : Nat} (h : DsAt w A qs) (hi : i < qs.length) :
    ∃ b o A' c, A = some ⟨b, o, none⟩ ∧ b < w.heap.size ∧ w.cell? ⟨b, o + i * 3, none⟩ = some (.string (dn qs i).name) ∧ w.cell? ⟨b, o + i * 3 + 1, none⟩ = some (.slice A' (dn qs i).args.length c) ∧
      w.cell? ⟨b, o + i * 3 + 2, none⟩ = some (.int .i64 (dn qs i).sort) ∧ (dn qs i).name.size ≤ maxLen ∧ (dn qs i).args.length ≤ maxLen ∧ Is w A' (dn qs i).args := by
  obtain ⟨b, o, e, l, k⟩ := h (by omega)
  obtain ⟨c0, c2, hs, A', c, c1, h1, h2, h3⟩ := k i _ (dn_of hi)
  exact ⟨b, o, A', c, e, l, c0, c1, c2, hs, Nat.le_trans h1 h2, h3⟩
theorem ns_at {w : World} {A : Option Addr} {qs : List Nd} {i : Nat} (h : NsAt w A qs) (hi : i < qs.length) :
    ∃ b o A' c, A = some ⟨b, o, none⟩ ∧ b < w.heap.size ∧ w.cell? ⟨b, o + i * 5, none⟩ = some (.int .i64 (nn qs i).op) ∧ w.cell? ⟨b, o + i * 5 + 1, none⟩ = some (.slice A' (nn qs i).kids.length c) ∧
      w.cell? ⟨b, o + i * 5 + 2, none⟩ = some (.int .i64 (nn qs i).n) ∧ w.cell? ⟨b, o + i * 5 + 3, none⟩ = some (.int .i64 (nn qs i).d) ∧ w.cell? ⟨b, o + i * 5 + 4, none⟩ = some (.string (nn qs i).name) ∧ (nn qs i).name.size ≤ maxLen ∧ (nn qs i).kids.length ≤ maxLen ∧ Is w A' (nn qs i).kids := by
  obtain ⟨b, o, e, l, k⟩ := h (by omega)
  obtain ⟨c0, c2, c3, c4, hs, A', c, c1, h1, h2, h3⟩ := k i _ (nn_of hi)
  exact ⟨b, o, A', c, e, l, c0, c1, c2, c3, c4, hs, Nat.le_trans h1 h2, h3⟩
/-- Where a name is declared; -1: nowhere. -/
def fdI (qs : List Dc) (s : ByteArray) : Nat := qs.findIdx fun q => q.name.toList == s.toList
def fdZ (qs : List Dc) (s : ByteArray) : Int := if fdI qs s < qs.length then (fdI qs s : Int) else -1
theorem dn_el {qs : List Dc} {i : Nat} (hi : i < qs.length) : qs[i] = dn qs i := by
  have := dn_of hi
  rw [List.getElem?_eq_getElem hi] at this
  injection this
theorem nn_el {qs : List Nd} {i : Nat} (hi : i < qs.length) : qs[i] = nn qs i := by
  have := nn_of hi
  rw [List.getElem?_eq_getElem hi] at this
  injection this
theorem fd_hit {qs : List Dc} {s : ByteArray} {i : Nat} (hi : i < qs.length) (h : ∀ j, j < i → ((dn qs j).name.toList == s.toList) = false) (he : ((dn qs i).name.toList == s.toList) = true) : fdI qs s = i := by
  unfold fdI
  rw [List.findIdx_eq hi]
  refine ⟨?_, fun j hj => ?_⟩
  · rw [dn_el hi]; exact he
  · rw [dn_el (by omega)]; exact h j hj
theorem fd_miss {qs : List Dc} {s : ByteArray} (h : ∀ j, j < qs.length → ((dn qs j).name.toList == s.toList) = false) : fdI qs s = qs.length := by
  unfold fdI
  rw [List.findIdx_eq_length]
  intro x hx
  obtain ⟨i, hi, rfl⟩ := List.getElem_of_mem hx
  rw [dn_el hi]; exact h i hi
theorem fdz_hit {qs : List Dc} {s : ByteArray} {i : Nat} (hi : i < qs.length) (h : ∀ j, j < i → ((dn qs j).name.toList == s.toList) = false) (he : ((dn qs i).name.toList == s.toList) = true) : fdZ qs s = i := by
  unfold fdZ; rw [fd_hit hi h he, if_pos hi]
theorem fdz_miss {qs : List Dc} {s : ByteArray} (h : ∀ j, j < qs.length → ((dn qs j).name.toList == s.toList) = false) : fdZ qs s = -1 := by
  unfold fdZ; rw [fd_miss h, if_neg (by omega)]
set_option maxHeartbeats 1000000 in
theorem declof_any (qs : List Dc) (A : Option Addr) (c : Nat) (s : ByteArray) (hl : qs.length ≤ maxLen) (w : World) (h : DsAt w A qs) :
    Calls Try.prog 59 #[.slice A qs.length c, .string s] w fun e w' => e = .returned (.int .i64 (fdZ qs s)) ∧ w = w' := by
  have HA := Lib.hid h
  unfold maxLen at hl
  generalize hL : qs.length = L at *
  have HL := Lib.hid hL
  clear h hL
  go_enter Try.func59, Try.ntmps59
  go_wp2_with fail
  go_loopw [5] (fun k wr => ∃ i : Nat, i ≤ L ∧ k = .int .i64 i ∧ Hid (∀ j, j < i → ((dn qs j).name.toList == s.toList) = false) ∧ Hid (w = wr)) (fun k _ => L - (intOf k).toNat)
  case atStart => exact ⟨0, by omega, rfl, fun j hj => absurd hj (by omega), rfl⟩
  case round =>
    obtain ⟨i, hi, rfl, HP, HW⟩ := hrel
    by_cases hlt : i < L
    · have HA2 := HA.out
      rw [HW.out] at HA2
      obtain ⟨b, o, A', c', rfl, hb, c0, c1, c2, _⟩ := ds_at (i := i) HA2 (by rw [HL.out]; exact hlt)
      have t3 : decide ((i : Int) < L) = true := by simpa using hlt
      clear HA2
      cases d : (dn qs i).name.toList == s.toList with
      | true =>
        have HE := Lib.hid (fdz_hit (by rw [HL.out]; exact hlt) HP.out d)
        go_wp2_with fail
        go_ret
        rw [HE.out]
        exact ⟨rfl, HW.out⟩
      | false =>
        have HD := Lib.hid d
        go_wp2_with fail
        go_round
        case rel => exact ⟨i + 1, by omega, by go_num, fun j hj => by
          rcases Nat.lt_or_ge j i with z | z
          · exact HP.out j z
          · obtain rfl : j = i := by omega
            exact HD.out, HW.out⟩
        case measure => simp [intOf]; omega
    · obtain rfl : i = L := by omega
      have t3 : decide ((i : Int) < i) = false := by simp
      have HE := Lib.hid (fdz_miss (qs := qs) (s := s) (fun j hj => HP.out j (by rw [HL.out] at hj; exact hj)))
      clear hlt
      go_wp2_with fail
      go_ret
      rw [HE.out]
      exact ⟨rfl, HW.out⟩
theorem decl1_any (n s : ByteArray) (A' : Option Addr) (k c' : Nat) (t : Int) (g : Nat) (w : World) (hg : HB w g 9 #[.string s]) :
    Calls Try.prog 69 #[.agg #[.string n, .slice A' k c', .int .i64 t], .pointer (some ⟨g, 0, none⟩)] w fun e w' => e = .returned (.bool (n.toList == s.toList)) ∧ Below w.heap.size w w' := by
  obtain ⟨h0, h1⟩ := (hg.alloc (.cells #[.string n, .slice A' k c', .int .i64 t] 70)).one
  clear hg
  go_enter Try.func69, Try.ntmps69
  go_wp2
  go_ret
  exact ⟨rfl, new_below _ _⟩
set_option maxHeartbeats 1000000 in
theorem indexd_any (qs : List Dc) (A : Option Addr) (c : Nat) (s : ByteArray) (g : Nat) (hl : qs.length ≤ maxLen) (w : World) (h : DsAt w A qs) (hg : HB w g 9 #[.string s]) :
    Calls Try.prog 46 #[.slice A qs.length c, .func (.func 69) #[] #[.pointer (some ⟨g, 0, none⟩)]] w fun e w' => e = .returned (.int .i64 (fdZ qs s)) ∧ Below w.heap.size w w' := by
  have HA := Lib.hid h
  have HG := Lib.hid hg
  unfold maxLen at hl
  generalize hL : qs.length = L at *
  have HL := Lib.hid hL
  clear h hL hg
  go_enter Try.func46, Try.ntmps46
  go_wp2_with fail
  go_loopw [5, 8] (fun _ k wr => ∃ i : Nat, i ≤ L ∧ k = .int .i64 i ∧ Hid (∀ j, j < i → ((dn qs j).name.toList == s.toList) = false) ∧ Hid (Below w.heap.size w wr)) (fun _ k _ => L - (intOf k).toNat)
  case atStart => exact ⟨0, by omega, rfl, fun j hj => absurd hj (by omega), Below.refl _ _⟩
  case round =>
    obtain ⟨i, hi, rfl, HP, HB⟩ := hrel
    by_cases hlt : i < L
    · obtain ⟨b, o, A', c', rfl, hb, c0, c1, c2, _⟩ := ds_at (i := i) (HA.out.below HB.out) (by rw [HL.out]; exact hlt)
      have t3 : decide ((i : Int) < L) = true := by simpa using hlt
      cases d : (dn qs i).name.toList == s.toList with
      | true =>
        have HD := Lib.hid d
        have HE := Lib.hid (fdz_hit (by rw [HL.out]; exact hlt) HP.out d)
        clear d
        go_wp2_with fail
        refine (decl1_any (dn qs i).name s A' (dn qs i).args.length c' (dn qs i).sort g _ (HG.out.below HB.out)).mono ?_
        rintro e w1 ⟨rfl, hb1⟩
        have G1 : Hid (Below w.heap.size w w1) := bw_below (Nat.le_refl _) HB.out hb1
        clear hb1
        rw [HD.out]
        go_wp2_with fail
        go_ret
        rw [HE.out]
        exact ⟨rfl, G1.out⟩
      | false =>
        have HD := Lib.hid d
        clear d
        go_wp2_with fail
        refine (decl1_any (dn qs i).name s A' (dn qs i).args.length c' (dn qs i).sort g _ (HG.out.below HB.out)).mono ?_
        rintro e w1 ⟨rfl, hb1⟩
        have G1 : Hid (Below w.heap.size w w1) := bw_below (Nat.le_refl _) HB.out hb1
        clear hb1
        rw [HD.out]
        go_wp2_with fail
        go_round
        case rel => exact ⟨i + 1, by omega, by go_num, fun j hj => by
          rcases Nat.lt_or_ge j i with z | z
          · exact HP.out j z
          · obtain rfl : j = i := by omega
            exact HD.out, G1.out⟩
        case measure => simp [intOf]; omega
    · obtain rfl : i = L := by omega
      have t3 : decide ((i : Int) < i) = false := by simp
      have HE := Lib.hid (fdz_miss (qs := qs) (s := s) (fun j hj => HP.out j (by rw [HL.out] at hj; exact hj)))
      clear hlt
      go_wp2_with fail
      go_ret
      rw [HE.out]
      exact ⟨rfl, HB.out⟩
theorem declared_any (qs : List Dc) (A : Option Addr) (c : Nat) (s : ByteArray) (hl : qs.length ≤ maxLen) (w : World) (h : DsAt w A qs) :
    Calls Try.prog 37 #[.slice A qs.length c, .string s] w fun e w' => e = .returned (.int .i64 (fdZ qs s)) ∧ Below w.heap.size w w' := by
  have HX := Lib.hid (indexd_any qs A c s w.heap.size hl (w.alloc (.cells #[.string s] 9)) (h.below (new_below _ _)) (HB.new _ _ _))
  clear h hl
  generalize qs.length = L at *
  go_enter Try.func37, Try.ntmps37
  go_wp2_with fail
  refine HX.out.mono ?_
  rintro e w1 ⟨rfl, hb1⟩
  have HB1 := Lib.hid (bw_below (Nat.le_refl _) (new_below w (.cells #[.string s] 9)) hb1)
  clear hb1
  go_wp2_with fail
  go_ret
  exact ⟨rfl, HB1.out⟩
end Go.Proofs.Ytjjjgffpmghfgaa
