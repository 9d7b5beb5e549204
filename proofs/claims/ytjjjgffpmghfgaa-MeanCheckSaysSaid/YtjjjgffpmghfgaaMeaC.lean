/-
  Worlds: the first row of a table, the first number, of which a function value tells true.
-/
import Derived.Test.YtjjjgffpmghfgaaMeaB
namespace Go.Proofs.Ytjjjgffpmghfgaa
open Go.RowKit

/-- A row as an argument. -/
def enV (q : En) (Aa : Option Addr) (ca : Nat) (Ac : Option Addr) (cc : Nat) : Value := .agg #[.slice Aa q.args.length ca, .int .i64 q.too.num, .int .i64 q.too.den, .slice Ac q.too.cells.length cc, .int .i64 q.too.rest]
/-- What a row leads to in memory. -/
def enI (w : World) (q : En) (Aa : Option Addr) (ca : Nat) (Ac : Option Addr) (cc : Nat) : Prop := (q.args.length ≤ ca ∧ ca ≤ maxLen ∧ Is w Aa q.args) ∧ q.too.cells.length ≤ cc ∧ cc ≤ maxLen ∧ CsAt w Ac q.too.cells
theorem enI.below {w w' : World} {q : En} {Aa Ac : Option Addr} {ca cc : Nat} (h : enI w q Aa ca Ac cc) (hb : Below w.heap.size w w') : enI w' q Aa ca Ac cc := ⟨⟨h.1.1, h.1.2.1, h.1.2.2.below hb⟩, h.2.1, h.2.2.1, h.2.2.2.below hb⟩
/-- What a search through a list yields. -/
def Found (n : Nat) (p : Nat → Bool) (I : Nat → World → Prop) (k : Int) (w : World) : Prop :=
  (∃ i, i < n ∧ p i = true ∧ (∀ j, j < i → p j = false) ∧ k = i ∧ I (i + 1) w) ∨ ((∀ j, j < n → p j = false) ∧ k = -1 ∧ I n w)
set_option maxRecDepth 100000 in
set_option maxHeartbeats 2000000 in
theorem indexen_any {fid : Nat} (hc : Enters fid) (es : List En) (A : Option Addr) (c : Nat) (caps : Array Value) (p : Nat → Bool) (I : Nat → World → Prop) (hl : es.length ≤ maxLen) (hA : ∀ i W, I i W → EsAt W A es)
    (H : ∀ i W Aa ca Ac cc, i < es.length → I i W → enI W (en es i) Aa ca Ac cc → Calls Try.prog fid (#[enV (en es i) Aa ca Ac cc] ++ caps) W fun e w' => e = .returned (.bool (p i)) ∧ I (i + 1) w')
    (w : World) (hw : I 0 w) :
    Calls Try.prog 88 #[.slice A es.length c, .func (.func fid) #[] caps] w fun e w' => ∃ k : Int, e = .returned (.int .i64 k) ∧ Hid (Found es.length p I k w') := by
  have HA := Lib.hid hA
  have HH := Lib.hid H
  have HC := Lib.hid hc
  have HW := Lib.hid hw
  unfold maxLen at hl
  generalize hL : es.length = L at *
  have HL := Lib.hid hL
  clear hA H hc hw hL
  go_enter Try.func88, Try.ntmps88
  go_wp2_with fail
  go_loopw [5, 8] (fun _ k wr => ∃ i : Nat, i ≤ L ∧ k = .int .i64 i ∧ Hid (∀ j, j < i → p j = false) ∧ Hid (I i wr)) (fun _ k _ => L - (intOf k).toNat)
  case atStart => exact ⟨0, by omega, rfl, Lib.hid (fun j hj => absurd hj (by omega)), HW⟩
  case round =>
    obtain ⟨i, hi, rfl, HP, HX⟩ := hrel
    by_cases hlt : i < L
    · obtain ⟨b, o, rfl, hb, ⟨⟨Aa, ca, c0, ha1, ha2, ha3⟩, c1, c2, c4, Ac, cc, c3, hc1, hc2, hc3⟩⟩ := es_at (i := i) (HA.out _ _ HX.out) (by rw [HL.out]; exact hlt)
      have t3 : decide ((i : Int) < L) = true := by simpa using hlt
      have HX2 := Lib.hid (HH.out i wr Aa ca Ac cc hlt HX.out ⟨⟨ha1, ha2, ha3⟩, hc1, hc2, hc3⟩)
      unfold enV at HX2
      clear ha1 ha2 ha3 hc1 hc2 hc3
      generalize (en es i).args.length = al at *
      generalize (en es i).too.cells.length = cl at *
      generalize (en es i).too.num = vn at *
      generalize (en es i).too.den = vd at *
      generalize (en es i).too.rest = vr at *
      go_wp2_with fail
      rw [HC.out, Oper.upon_enter]
      refine HX2.out.mono ?_
      rintro e w1 ⟨rfl, hx1⟩
      have X1 := Lib.hid hx1
      clear hx1
      cases hq : p i with
      | false =>
        have HQ := Lib.hid hq
        clear hq
        go_wp2_with fail
        go_round
        case rel => exact ⟨i + 1, by omega, by go_num, Lib.hid (fun j hj => by
          rcases Nat.lt_or_ge j i with z | z
          · exact HP.out j z
          · obtain rfl : j = i := by omega
            exact HQ.out), X1⟩
        case measure => simp [intOf]; omega
      | true =>
        have HQ := Lib.hid hq
        clear hq
        go_wp2_with fail
        go_ret
        exact ⟨i, rfl, Lib.hid (.inl ⟨i, hlt, HQ.out, HP.out, rfl, X1.out⟩)⟩
    · obtain rfl : i = L := by omega
      have t3 : decide ((i : Int) < i) = false := by simp
      go_wp2_with fail
      go_ret
      exact ⟨-1, rfl, Lib.hid (.inr ⟨HP.out, rfl, HX.out⟩)⟩
/-- Is there one? -/
def Held (n : Nat) (p : Nat → Bool) (I : Nat → World → Prop) (r : Bool) (w : World) : Prop :=
  (∃ i, i < n ∧ p i = true ∧ (∀ j, j < i → p j = false) ∧ r = true ∧ I (i + 1) w) ∨ ((∀ j, j < n → p j = false) ∧ r = false ∧ I n w)
theorem conten_any {fid : Nat} (hc : Enters fid) (es : List En) (A : Option Addr) (c : Nat) (caps : Array Value) (p : Nat → Bool) (I : Nat → World → Prop) (hl : es.length ≤ maxLen) (hA : ∀ i W, I i W → EsAt W A es)
    (H : ∀ i W Aa ca Ac cc, i < es.length → I i W → enI W (en es i) Aa ca Ac cc → Calls Try.prog fid (#[enV (en es i) Aa ca Ac cc] ++ caps) W fun e w' => e = .returned (.bool (p i)) ∧ I (i + 1) w')
    (w : World) (hw : I 0 w) :
    Calls Try.prog 50 #[.slice A es.length c, .func (.func fid) #[] caps] w fun e w' => ∃ r : Bool, e = .returned (.bool r) ∧ Hid (Held es.length p I r w') := by
  have HX := Lib.hid (indexen_any hc es A c caps p I hl hA H w hw)
  clear hc hl hA H hw
  generalize es.length = L at *
  go_enter Try.func50, Try.ntmps50
  go_wp2_with fail
  refine HX.out.mono ?_
  rintro e w1 ⟨k, rfl, hk⟩
  have HK : Hid (Held L p I (decide (0 ≤ k)) w1) := Lib.hid (by
    rcases hk.out with ⟨i, h1, h2, h3, h4, h5⟩ | ⟨h1, h2, h3⟩
    · exact .inl ⟨i, h1, h2, h3, by subst h4; simp, h5⟩
    · exact .inr ⟨h1, by subst h2; rfl, h3⟩)
  clear hk
  go_wp2_with fail
  go_ret
  exact ⟨_, rfl, HK⟩
set_option maxRecDepth 100000 in
set_option maxHeartbeats 2000000 in
theorem indexint_any {fid : Nat} (hc : Enters fid) (xs : List Int) (A : Option Addr) (c : Nat) (caps : Array Value) (p : Int → Bool) (C : World → Prop) (hC : ∀ W W', C W → Below W.heap.size W W' → C W') (hl : xs.length ≤ maxLen)
    (H : ∀ i W, i < xs.length → C W → Calls Try.prog fid (#[.int .i64 (nth xs i)] ++ caps) W fun e w' => e = .returned (.bool (p (nth xs i))) ∧ Below W.heap.size W w')
    (w : World) (h : Is w A xs) (hw : C w) :
    Calls Try.prog 89 #[.slice A xs.length c, .func (.func fid) #[] caps] w fun e w' => ∃ k : Int, e = .returned (.int .i64 k) ∧ Hid (decide (0 ≤ k) = xs.any p) ∧ Below w.heap.size w w' := by
  have HA := Lib.hid h
  have HH := Lib.hid H
  have HC := Lib.hid hC
  have HW := Lib.hid hw
  have HCC := Lib.hid hc
  unfold maxLen at hl
  generalize hL : xs.length = L at *
  have HL := Lib.hid hL
  clear h H hC hw hL hc
  go_enter Try.func89, Try.ntmps89
  go_wp2_with fail
  go_loopw [5, 8] (fun _ k wr => ∃ i : Nat, i ≤ L ∧ k = .int .i64 i ∧ Hid (∀ j, j < i → p (nth xs j) = false) ∧ Hid (C wr) ∧ Hid (Below w.heap.size w wr)) (fun _ k _ => L - (intOf k).toNat)
  case atStart => exact ⟨0, by omega, rfl, Lib.hid (fun j hj => absurd hj (by omega)), HW, Lib.hid (Below.refl _ _)⟩
  case round =>
    obtain ⟨i, hi, rfl, HP, HX, HB⟩ := hrel
    by_cases hlt : i < L
    · obtain ⟨b, o, rfl, hb, c0⟩ := is_at (i := i) (HA.out.below HB.out) (by rw [HL.out]; exact hlt)
      have t3 : decide ((i : Int) < L) = true := by simpa using hlt
      have HX2 := Lib.hid (HH.out i wr hlt HX.out)
      have HXI : Hid (nth xs i = nth xs i) := Lib.hid rfl
      go_wp2_with fail
      rw [HCC.out, Oper.upon_enter]
      refine HX2.out.mono ?_
      rintro e w1 ⟨rfl, hb1⟩
      have G1 : Hid (Below w.heap.size w w1) := bw_below (Nat.le_refl _) HB.out hb1
      have X1 : Hid (C w1) := HC.out _ _ HX.out hb1
      clear hb1
      cases hq : p (nth xs i) with
      | false =>
        have HQ := Lib.hid hq
        clear hq
        go_wp2_with fail
        go_round
        case rel => exact ⟨i + 1, by omega, by go_num, Lib.hid (fun j hj => by
          rcases Nat.lt_or_ge j i with z | z
          · exact HP.out j z
          · obtain rfl : j = i := by omega
            exact HQ.out), X1, G1⟩
        case measure => simp [intOf]; omega
      | true =>
        have HQ := Lib.hid hq
        clear hq
        go_wp2_with fail
        go_ret
        exact ⟨_, rfl, Lib.hid (by
          have : xs.any p = true := List.any_eq_true.2 ⟨nth xs i, by rw [nth_of (by rw [HL.out]; exact hlt)]; exact List.getElem_mem _, HQ.out⟩
          rw [this]; simp), G1.out⟩
    · obtain rfl : i = L := by omega
      have t3 : decide ((i : Int) < i) = false := by simp
      go_wp2_with fail
      go_ret
      exact ⟨_, rfl, Lib.hid (by
        have : xs.any p = false := List.any_eq_false.2 (fun x hx => by
          obtain ⟨j, hj, rfl⟩ := List.getElem_of_mem hx
          rw [← nth_of hj, HP.out j (by rw [← HL.out]; exact hj)]
          simp)
        rw [this]; simp), HB.out⟩
theorem contint_any {fid : Nat} (hc : Enters fid) (xs : List Int) (A : Option Addr) (c : Nat) (caps : Array Value) (p : Int → Bool) (C : World → Prop) (hC : ∀ W W', C W → Below W.heap.size W W' → C W') (hl : xs.length ≤ maxLen)
    (H : ∀ i W, i < xs.length → C W → Calls Try.prog fid (#[.int .i64 (nth xs i)] ++ caps) W fun e w' => e = .returned (.bool (p (nth xs i))) ∧ Below W.heap.size W w')
    (w : World) (h : Is w A xs) (hw : C w) :
    Calls Try.prog 53 #[.slice A xs.length c, .func (.func fid) #[] caps] w fun e w' => e = .returned (.bool (xs.any p)) ∧ Below w.heap.size w w' := by
  have HX := Lib.hid (indexint_any hc xs A c caps p C hC hl H w h hw)
  clear h H hC hw hl hc
  generalize xs.length = L at *
  go_enter Try.func53, Try.ntmps53
  go_wp2_with fail
  refine HX.out.mono ?_
  rintro e w1 ⟨k, rfl, hk, hb1⟩
  have HB1 := Lib.hid hb1
  clear hb1
  go_wp2_with fail
  rw [hk.out]
  go_ret
  exact ⟨rfl, HB1.out⟩
end Go.Proofs.Ytjjjgffpmghfgaa
