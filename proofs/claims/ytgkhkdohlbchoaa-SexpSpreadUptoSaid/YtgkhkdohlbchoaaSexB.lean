/-
  Package sexp: how many expressions there are; the same of the reference.
-/
import Derived.Test.YtgkhkdohlbchoaaSexA
namespace Go.Proofs.Ytgkhkdohlbchoaa
open Go.RowKit

theorem fo_cell {w : World} {A : Option Addr} {f : Fo} {i : Nat} (h : f.At w A) (hi : i < f.len) :
    ∃ b o s l k A' c, A = some ⟨b, o, none⟩ ∧ b < w.heap.size ∧ f.drop i = .cons s l k (f.drop (i + 1)) ∧ w.cell? ⟨b, o + i * 3, none⟩ = some (.string s) ∧ w.cell? ⟨b, o + i * 3 + 1, none⟩ = some (.bool l) ∧
      w.cell? ⟨b, o + i * 3 + 2, none⟩ = some (.slice A' k.len c) ∧ s.size ≤ maxLen ∧ k.len ≤ c ∧ c ≤ maxLen ∧ k.At w A' := by
  obtain ⟨b, o, e, hb, hin⟩ := h (by omega)
  obtain ⟨s, l, k, hd⟩ := f.drop_cons i hi
  have := Fo.In.drop f b o i hin
  rw [hd] at this
  obtain ⟨c0, c1, hs, ⟨A', c, c2, h1, h2, h3⟩, _⟩ := this
  exact ⟨b, o, s, l, k, A', c, e, hb, hd, c0, c1, c2, hs, h1, h2, h3⟩
theorem drop_here {f : Fo} {L i : Nat} (hL : f.len = L) (hi : ¬ i < L) (h : i ≤ L) : f.drop i = .nil := by
  obtain rfl : i = f.len := by omega
  exact Fo.drop_len f
theorem kid_size {f : Fo} {i : Nat} {s : ByteArray} {l : Bool} {k r : Fo} (hd : f.drop i = .cons s l k r) : k.size < f.size ∧ k.len ≤ k.size ∧ (f.drop i).size = k.size + r.size + 1 := by
  refine ⟨(Fo.size_kids hd).1, Fo.len_size k, by rw [hd]; rfl⟩
set_option maxHeartbeats 2000000 in
theorem count_any (n : Nat) : ∀ (f : Fo) (A : Option Addr) (c lim : Nat) (w : World), f.size < n → f.len ≤ maxLen → lim ≤ 1000000000000000000 → f.At w A →
    Calls Try.prog 25 #[.slice A f.len c, .int .i64 lim] w fun e w' => e = .returned (.int .i64 (min f.size lim : Nat)) ∧ Below w.heap.size w w' := by
  induction n with
  | zero => intro f A c lim w hn; omega
  | succ n ih =>
    intro f A c lim w hn hl hlim h
    have HA := Lib.hid h
    have HN := Lib.hid hn
    have IH := Lib.hid ih
    unfold maxLen at hl
    generalize hL : f.len = L at *
    have HL := Lib.hid hL
    clear h hn ih hL
    go_enter Try.func25, Try.ntmps25
    go_wp2_with fail
    go_loopw [5, 10] (fun m k wr => ∃ i a : Nat, i ≤ L ∧ a ≤ lim ∧ m = .int .i64 a ∧ k = .int .i64 i ∧ Hid (min f.size lim = min (a + (f.drop i).size) lim) ∧ Hid (Below w.heap.size w wr)) (fun _ k _ => L - (intOf k).toNat)
    case atStart => exact ⟨0, 0, by omega, by omega, rfl, rfl, by rw [Fo.drop_zero]; show min _ _ = _; simp, Below.refl _ _⟩
    case round =>
      obtain ⟨i, a, hi, ha, rfl, rfl, HM, HB⟩ := hrel
      by_cases hlt : i < L
      · obtain ⟨b, o, s, l, k, A', c', rfl, hb, hd, c0, c1, c2, hs, hk1, hk2, hk3⟩ := fo_cell (HA.out.below HB.out) (by rw [HL.out]; exact hlt)
        have t3 : decide ((i : Int) < L) = true := by simpa using hlt
        have HD := Lib.hid hd
        have HK := Lib.hid hk3
        have LK := Lib.hid (Nat.le_trans hk1 hk2)
        clear hd hk3 hk1 hk2
        by_cases heq : a = lim
        · subst heq
          have HE := Lib.hid (show min f.size a = a by rw [HM.out]; omega)
          go_wp2_with fail
          go_ret
          refine ⟨by rw [HE.out]; rfl, ?_⟩
          have := HB.out
          have z := this.size
          go_grown
        · have t4 : ((a : Int) == lim) = false := by simp; omega
          go_wp2_with fail
          rw [show (lim : Int) - a - 1 = ((lim - a - 1 : Nat) : Int) by omega]
          refine (IH.out k A' c' (lim - a - 1) _ (by have := (kid_size HD.out).1; have := HN.out; omega) LK.out (by omega) (HK.out.below (new_below _ _))).mono ?_
          rintro e w1 ⟨rfl, hb1⟩
          have G1 : Hid (Below w.heap.size w w1) := bw_below (Nat.le_refl _) (Below.alloc HB.out HB.out.size _) hb1
          have hmin : min k.size (lim - a - 1) ≤ lim - a - 1 := Nat.min_le_right _ _
          generalize hm : min k.size (lim - a - 1) = m at *
          have HMM := Lib.hid hm
          clear hb1 hm
          go_wp2_with fail
          go_round
          case rel => exact ⟨i + 1, a + (1 + m), by omega, by omega, by go_num, by go_num, by
            have h1 := HM.out
            have h2 := (kid_size HD.out).2.2
            have h3 := HMM.out
            show min _ _ = min _ _
            omega, G1.out⟩
          case measure => simp [intOf]; omega
      · have HE := Lib.hid (show min f.size lim = a by rw [HM.out, drop_here HL.out hlt hi]; simp [Fo.size]; omega)
        obtain rfl : i = L := by omega
        have t3 : decide ((i : Int) < i) = false := by simp
        go_wp2_with fail
        go_ret
        exact ⟨by rw [HE.out]; rfl, HB.out⟩
set_option maxHeartbeats 2000000 in
theorem sexpcount_any (n : Nat) : ∀ (f : Fo) (A : Option Addr) (c : Nat) (w : World), f.size < n → f.len ≤ maxLen → f.size ≤ 1000000000000000000 → f.At w A →
    Calls Try.prog 27 #[.slice A f.len c] w fun e w' => e = .returned (.int .i64 (f.size : Nat)) ∧ Below w.heap.size w w' := by
  induction n with
  | zero => intro f A c w hn; omega
  | succ n ih =>
    intro f A c w hn hl hbig h
    have HA := Lib.hid h
    have HN := Lib.hid hn
    have IH := Lib.hid ih
    unfold maxLen at hl
    generalize hL : f.len = L at *
    have HL := Lib.hid hL
    clear h hn ih hL
    go_enter Try.func27, Try.ntmps27
    go_wp2_with fail
    go_loopw [3, 4] (fun m k wr => ∃ i a : Nat, i ≤ L ∧ m = .int .i64 a ∧ k = .int .i64 i ∧ Hid (f.size = a + (f.drop i).size) ∧ Hid (Below w.heap.size w wr)) (fun _ k _ => L - (intOf k).toNat)
    case atStart => exact ⟨0, 0, by omega, rfl, rfl, by rw [Fo.drop_zero]; show _ = _; simp, Below.refl _ _⟩
    case round =>
      obtain ⟨i, a, hi, rfl, rfl, HM, HB⟩ := hrel
      by_cases hlt : i < L
      · obtain ⟨b, o, s, l, k, A', c', rfl, hb, hd, c0, c1, c2, hs, hk1, hk2, hk3⟩ := fo_cell (HA.out.below HB.out) (by rw [HL.out]; exact hlt)
        have t3 : decide ((i : Int) < L) = true := by simpa using hlt
        have HD := Lib.hid hd
        have HK := Lib.hid hk3
        have LK := Lib.hid (Nat.le_trans hk1 hk2)
        have hks : k.size + a + 1 ≤ f.size := by
          have h1 := HM.out
          have h2 := (kid_size hd).2.2
          omega
        clear hd hk3 hk1 hk2
        go_wp2_with fail
        refine (IH.out k A' c' _ (by have := (kid_size HD.out).1; have := HN.out; omega) LK.out (by omega) HK.out).mono ?_
        rintro e w1 ⟨rfl, hb1⟩
        have G1 : Hid (Below w.heap.size w w1) := bw_below (Nat.le_refl _) HB.out hb1
        clear hb1
        go_wp2_with fail
        go_round
        case rel => exact ⟨i + 1, a + (1 + k.size), by omega, by go_num, by go_num, by
          have h1 := HM.out
          have h2 := (kid_size HD.out).2.2
          show _ = _
          omega, G1.out⟩
        case measure => simp [intOf]; omega
      · have HE := Lib.hid (show f.size = a by rw [HM.out, drop_here HL.out hlt hi]; simp [Fo.size])
        obtain rfl : i = L := by omega
        have t3 : decide ((i : Int) < i) = false := by simp
        go_wp2_with fail
        go_ret
        exact ⟨by rw [HE.out]; rfl, HB.out⟩
end Go.Proofs.Ytgkhkdohlbchoaa
