/-
  sexp.write: what it adds to a builder; the text of an expression.
-/
import Derived.Test.YtgkhkdohlbchoaaSexF
import Derived.Test.YtgkhkdohlbchoaaSexE
namespace Go.Proofs.Ytgkhkdohlbchoaa
open Go.RowKit

/-- The text of the elements of a list, with blanks between them (and ahead, where it is not the first). -/
def Fo.tk : Fo → Bool → List UInt8
  | .nil, _ => []
  | .cons s l k r, z => (if z then [] else [32]) ++ ((if l then 40 :: (k.tk true ++ [41]) else s.data.toList) ++ r.tk false)
/-- The text of an expression. -/
def oneT (s : ByteArray) (l : Bool) (k : Fo) : List UInt8 := if l then 40 :: (k.tk true ++ [41]) else s.data.toList
theorem Fo.tk_cons (s : ByteArray) (l : Bool) (k r : Fo) (z : Bool) : (Fo.cons s l k r).tk z = (if z then [] else [32]) ++ (oneT s l k ++ r.tk false) := rfl
/-- The text of a list of expressions. -/
def Fo.lines : Fo → List UInt8
  | .nil => []
  | .cons s l k r => oneT s l k ++ (10 :: r.lines)
theorem bw_into {B : Nat} {W w w' : World} (h : Below W.heap.size W w) (hB : W.heap.size ≤ B) (k : Below B w w') : Below W.heap.size W w' := h.trans (k.mono hB)
theorem fo_cell_in {W w : World} {A : Option Addr} {f : Fo} {i : Nat} (h : f.At W A) (hb : Below W.heap.size W w) (hi : i < f.len) :
    ∃ b o s l k A' c, A = some ⟨b, o, none⟩ ∧ b < w.heap.size ∧ f.drop i = .cons s l k (f.drop (i + 1)) ∧ w.cell? ⟨b, o + i * 3, none⟩ = some (.string s) ∧ w.cell? ⟨b, o + i * 3 + 1, none⟩ = some (.bool l) ∧
      w.cell? ⟨b, o + i * 3 + 2, none⟩ = some (.slice A' k.len c) ∧ s.size ≤ maxLen ∧ k.len ≤ c ∧ c ≤ maxLen ∧ k.At W A' := by
  obtain ⟨b, o, s, l, k, A', c, e, lt, hd, c0, c1, c2, r⟩ := fo_cell h hi
  exact ⟨b, o, s, l, k, A', c, e, Nat.lt_of_lt_of_le lt hb.size, hd, (hb.cell (p := ⟨b, o + i * 3, none⟩) lt).trans c0, (hb.cell (p := ⟨b, o + i * 3 + 1, none⟩) lt).trans c1, (hb.cell (p := ⟨b, o + i * 3 + 2, none⟩) lt).trans c2, r⟩
theorem tk_drop {k r : Fo} {j : Nat} {s : ByteArray} {l : Bool} {k' : Fo} (hd : k.drop j = .cons s l k' r) (z : Bool) : (k.drop j).tk z = (if z then [] else [32]) ++ (oneT s l k' ++ r.tk false) := by rw [hd, Fo.tk_cons]
set_option maxHeartbeats 4000000 in
theorem write_any (n : Nat) : ∀ (s : ByteArray) (l : Bool) (k : Fo) (A : Option Addr) (c B b : Nat) (bs : List UInt8) (W w : World), k.size < n → k.len ≤ maxLen → k.At W A → Bd B b bs w → Below W.heap.size W w → W.heap.size ≤ B → bs.length + (oneT s l k).length ≤ 1000000000 →
    Calls Try.prog 19 #[.pointer (some ⟨b, 0, none⟩), .agg #[.string s, .bool l, .slice A k.len c]] w fun e w' => e = .returned (.tuple #[]) ∧ Bd B b (bs ++ oneT s l k) w' ∧ Below B w w' ∧ Kp b w w' := by
  induction n with
  | zero => intro s l k A c B b bs W w hn; omega
  | succ n ih =>
    intro s l k A c B b bs W w hn hl h hbd hbw hWB hlen
    have HA := Lib.hid h
    have HN := Lib.hid hn
    have IH := Lib.hid ih
    have HBD := Lib.hid hbd
    have hB := hbd.1
    have hlt := hbd.lt
    have hle := hbd.le
    have HG := Lib.hid hbw
    clear h hn ih hbd hbw
    cases l with
    | false =>
      have hlen2 : bs.length + s.size ≤ 1000000000 := hlen
      clear hl hlen
      go_enter Try.func19, Try.ntmps19
      go_wp2_with fail
      refine (writestring_any B b bs s _ (HBD.out.alloc _) hlen2).mono ?_
      rintro e w1 ⟨rfl, hb1, hw1, hk1⟩
      have H1 := Lib.hid hb1
      have G1 : Hid (Below B w w1) := (Below.alloc (Below.refl B w) hle _).trans hw1
      have K1 : Hid (Kp b w w1) := ((Kp.refl b w).alloc _).trans hk1
      clear hb1 hw1 hk1
      go_wp2_with fail
      refine bodyPost_ret (results_none rfl _ _ _) rfl ?_
      exact ⟨rfl, H1.out, G1.out, K1.out⟩
    | true =>
      have hlen2 : bs.length + (1 + ((k.tk true).length + 1)) ≤ 1000000000 := by simpa [oneT, Nat.add_comm, Nat.add_left_comm] using hlen
      unfold maxLen at hl
      generalize hL : k.len = L at *
      have HL := Lib.hid hL
      clear hlen hL
      go_enter Try.func19, Try.ntmps19
      go_wp2_with fail
      refine (writebyte_any B b bs 40 _ (HBD.out.alloc _) (by omega)).mono ?_
      rintro e w1 ⟨rfl, hb1, hw1, hk1⟩
      have H1 := Lib.hid hb1
      have G1 : Hid (Below B w w1) := (Below.alloc (Below.refl B w) hle _).trans hw1
      have K1 : Hid (Kp b w w1) := ((Kp.refl b w).alloc _).trans hk1
      have X1 := Lib.hid (hk1 w.heap.size 42 _ (by omega) (by decide) (HB.new w 42 #[.string s, .bool true, .slice A L c]))
      obtain ⟨x0, x1, x2, _⟩ := X1.out.three
      clear hb1 hw1 hk1
      go_wp2_with fail
      go_loopw [18] (fun i wr => ∃ j : Nat, j ≤ L ∧ i = .int .i64 j ∧ Hid (∃ pre, Bd B b pre wr ∧ pre ++ (k.drop j).tk (decide (j = 0)) = bs ++ 40 :: k.tk true) ∧ Hid (HB wr w.heap.size 42 #[.string s, .bool true, .slice A L c]) ∧ Hid (Below B w wr) ∧ Hid (Kp b w wr)) (fun i _ => L - (intOf i).toNat)
      case atStart => exact ⟨0, by omega, rfl, ⟨_, H1.out, by rw [Fo.drop_zero]; simp⟩, X1.out, G1.out, K1.out⟩
      case round =>
        obtain ⟨j, hj, rfl, HP, HX, HBW, HK⟩ := hrel
        obtain ⟨pre, hb, he⟩ := HP.out
        have HBB := Lib.hid hb
        have HE := Lib.hid he
        have hbl := hb.lt
        have hwl := HX.out.lt
        have hble := hb.le
        clear hb he HP
        by_cases hlj : j < L
        · obtain ⟨bb, o, s', l', k', A', c', rfl, hbb, hd, c0, c1, c2, hs, hk1, hk2, hk3⟩ := fo_cell_in HA.out (bw_into HG.out hWB HBW.out) (by rw [HL.out]; exact hlj)
          have HD := Lib.hid hd
          have HKA := Lib.hid hk3
          have LK := Lib.hid (Nat.le_trans hk1 hk2)
          have t3 : decide ((j : Int) < L) = true := by simpa using hlj
          obtain ⟨x0, x1, x2, _⟩ := HX.out.three
          have hlenE : pre.length + ((if decide (j = 0) then [] else [32] : List UInt8).length + ((oneT s' l' k').length + ((k.drop (j + 1)).tk false).length)) ≤ 1000000000 := by
            have := congrArg List.length HE.out
            rw [tk_drop HD.out] at this
            simp only [List.length_append, List.length_cons] at this
            omega
          clear hd hk3 hk1 hk2 hs
          by_cases hj0 : j = 0
          · have t4 : decide ((0 : Int) < j) = false := by simp; omega
            have t5 : ¬ 0 < j := by omega
            have hlen3 : pre.length + (oneT s' l' k').length ≤ 1000000000 := by simp [hj0] at hlenE; omega
            have HJ0 := Lib.hid hj0
            clear hlenE hj0
            go_wp2_with fail
            refine (IH.out s' l' k' A' c' B b pre W _ (by have := (kid_size HD.out).1; have := HN.out; omega) LK.out HKA.out (HBB.out.alloc _) (bw_into HG.out hWB (Below.alloc HBW.out hble _)) hWB hlen3).mono ?_
            rintro e w2 ⟨rfl, hb2, hw2, hk2⟩
            have H2 := Lib.hid hb2
            have G2 : Hid (Below B w w2) := (Below.alloc HBW.out hble _).trans hw2
            have K2 : Hid (Kp b w w2) := (HK.out.alloc _).trans hk2
            have X2 := Lib.hid (hk2 w.heap.size 42 _ (by omega) (by decide) (HX.out.alloc (.cells #[.string s', .bool l', .slice A' k'.len c'] 42)))
            clear hb2 hw2 hk2
            go_wp2_with fail
            go_round
            case rel => exact ⟨j + 1, by omega, by go_num, ⟨_, H2.out, by
              have := HE.out
              rw [tk_drop HD.out] at this
              simpa [HJ0.out] using this⟩, X2.out, G2.out, K2.out⟩
            case measure => simp [intOf]; omega
          · have t4 : decide ((0 : Int) < j) = true := by simp; omega
            have t5 : 0 < j := by omega
            have hlen3 : pre.length + 1 + (oneT s' l' k').length ≤ 1000000000 := by simp [hj0] at hlenE; omega
            have HJ0 := Lib.hid hj0
            clear hlenE hj0
            go_wp2_with fail
            refine (writebyte_any B b pre 32 _ (HBB.out.alloc _) (by omega)).mono ?_
            rintro e w1 ⟨rfl, hb1, hw1, hk1⟩
            have H1 := Lib.hid hb1
            have G1 : Hid (Below B w w1) := (Below.alloc HBW.out hble _).trans hw1
            have K1 : Hid (Kp b w w1) := (HK.out.alloc _).trans hk1
            have X1 := Lib.hid (hk1 w.heap.size 42 _ (by omega) (by decide) (HX.out.alloc (.cells #[.string s', .bool l', .slice A' k'.len c'] 42)))
            have N1 := Lib.hid (hk1 wr.heap.size 42 _ (by omega) (by decide) (HB.new wr 42 #[.string s', .bool l', .slice A' k'.len c']))
            clear hb1 hw1 hk1 x0 x1 x2 c0 c1 c2
            obtain ⟨x0, x1, x2, _⟩ := X1.out.three
            obtain ⟨c0, c1, c2, _⟩ := N1.out.three
            go_wp2_with fail
            refine (IH.out s' l' k' A' c' B b (pre ++ [32]) W _ (by have := (kid_size HD.out).1; have := HN.out; omega) LK.out HKA.out H1.out (bw_into HG.out hWB G1.out) hWB (by simpa using hlen3)).mono ?_
            rintro e w2 ⟨rfl, hb2, hw2, hk2⟩
            have H2 := Lib.hid hb2
            have G2 : Hid (Below B w w2) := G1.out.trans hw2
            have K2 : Hid (Kp b w w2) := K1.out.trans hk2
            have X2 := Lib.hid (hk2 w.heap.size 42 _ (by omega) (by decide) X1.out)
            clear hb2 hw2 hk2
            go_wp2_with fail
            go_round
            case rel => exact ⟨j + 1, by omega, by go_num, ⟨_, H2.out, by
              have := HE.out
              rw [tk_drop HD.out] at this
              simpa [HJ0.out] using this⟩, X2.out, G2.out, K2.out⟩
            case measure => simp [intOf]; omega
        · have HE2 := Lib.hid (show pre = bs ++ 40 :: k.tk true by have := HE.out; rw [drop_here HL.out hlj hj] at this; simpa [Fo.tk] using this)
          have hlen4 : pre.length + 1 ≤ 1000000000 := by rw [HE2.out]; simp; omega
          obtain rfl : j = L := by omega
          have t3 : decide ((j : Int) < j) = false := by simp
          go_wp2_with fail
          refine (writebyte_any B b pre 41 _ HBB.out (by omega)).mono ?_
          rintro e w1 ⟨rfl, hb1, hw1, hk1⟩
          have H1 := Lib.hid hb1
          have G1 : Hid (Below B w w1) := HBW.out.trans hw1
          have K1 : Hid (Kp b w w1) := HK.out.trans hk1
          clear hb1 hw1 hk1
          go_wp2_with fail
          first | go_end0 | refine bodyPost_ret (results_none rfl _ _ _) rfl ?_
          refine ⟨rfl, ?_, G1.out, K1.out⟩
          have := H1.out
          rw [HE2.out] at this
          simpa [oneT] using this
end Go.Proofs.Ytgkhkdohlbchoaa
