/-
  Asks: every number of a list is as a function value tells.
-/
import Derived.Test.YtjjjgffpmghfgaaAskA
namespace Go.Proofs.Ytjjjgffpmghfgaa
open Go.RowKit

/-- A function value is entered as it stands. -/
def Enters (fid : Nat) : Prop := ∀ (args : Array Value) (w : World), Sem.run Try.prog (callFunc fid args) w = .ok (.enter fid args) w
theorem enters39 : Enters 40 := fun _ _ => by kernel_rfl
theorem enters41 : Enters 42 := fun _ _ => by kernel_rfl
theorem enters60 : Enters 74 := fun _ _ => by kernel_rfl
theorem enters61 : Enters 75 := fun _ _ => by kernel_rfl
theorem enters66 : Enters 102 := fun _ _ => by kernel_rfl
theorem enters67 : Enters 103 := fun _ _ => by kernel_rfl
theorem enters21 : Enters 21 := fun _ _ => by kernel_rfl
theorem enters23 : Enters 23 := fun _ _ => by kernel_rfl
theorem enters25 : Enters 25 := fun _ _ => by kernel_rfl
set_option maxRecDepth 100000 in
theorem every1_of {fid : Nat} (hc : Enters fid) (caps : Array Value) (q : Bool) (z : Int) (g : Nat) (w : World) (hg : HB w g 84 #[.func (.func fid) #[] caps])
    (H : Calls Try.prog fid (#[.int .i64 z] ++ caps) w fun e w' => e = .returned (.bool q) ∧ Below w.heap.size w w') :
    Calls Try.prog 71 #[.int .i64 z, .pointer (some ⟨g, 0, none⟩)] w fun e w' => e = .returned (.bool (!q)) ∧ Below w.heap.size w w' := by
  obtain ⟨h0, h1⟩ := hg.one
  have HC := Lib.hid hc
  have HH := Lib.hid H
  clear hg hc H
  go_enter Try.func71, Try.ntmps71
  go_wp2_with fail
  rw [HC.out, Oper.upon_enter]
  refine HH.out.mono ?_
  rintro e w1 ⟨rfl, hb1⟩
  have HB1 := Lib.hid hb1
  clear hb1
  go_wp2_with fail
  go_ret
  exact ⟨rfl, HB1.out⟩
theorem is_at {w : World} {A : Option Addr} {xs : List Int} {i : Nat} (h : Is w A xs) (hi : i < xs.length) : ∃ b o, A = some ⟨b, o, none⟩ ∧ b < w.heap.size ∧ w.cell? ⟨b, o + i, none⟩ = some (.int .i64 (nth xs i)) := by
  obtain ⟨b, o, e, l, c⟩ := h (by omega)
  exact ⟨b, o, e, l, c i hi⟩
theorem all_of {xs : List Int} {p : Int → Bool} (h : ∀ j, j < xs.length → p (nth xs j) = true) : xs.all p = true := by
  rw [List.all_eq_true]
  intro x hx
  obtain ⟨i, hi, rfl⟩ := List.getElem_of_mem hx
  have := h i hi
  rwa [nth_of hi] at this
theorem not_all {xs : List Int} {p : Int → Bool} {i : Nat} (hi : i < xs.length) (h : p (nth xs i) = false) : xs.all p = false := by
  rw [List.all_eq_false]
  exact ⟨xs[i], List.getElem_mem hi, by rw [← nth_of hi, h]; simp⟩
set_option maxHeartbeats 1000000 in
theorem index_any (xs : List Int) (A : Option Addr) (c : Nat) (p : Int → Bool) (g : Nat) (C : World → Prop) (hC : ∀ W W', C W → Below W.heap.size W W' → C W') (hl : xs.length ≤ maxLen)
    (H : ∀ i W, i < xs.length → C W → Calls Try.prog 71 #[.int .i64 (nth xs i), .pointer (some ⟨g, 0, none⟩)] W fun e w' => e = .returned (.bool (!p (nth xs i))) ∧ Below W.heap.size W w')
    (w : World) (h : Is w A xs) (hw : C w) :
    Calls Try.prog 89 #[.slice A xs.length c, .func (.func 71) #[] #[.pointer (some ⟨g, 0, none⟩)]] w fun e w' => ∃ k : Int, e = .returned (.int .i64 k) ∧ Hid (decide (0 ≤ k) = !(xs.all p)) ∧ Below w.heap.size w w' := by
  have HA := Lib.hid h
  have HH := Lib.hid H
  have HC := Lib.hid hC
  have HW := Lib.hid hw
  unfold maxLen at hl
  generalize hL : xs.length = L at *
  have HL := Lib.hid hL
  clear h H hC hw hL
  go_enter Try.func89, Try.ntmps89
  go_wp2_with fail
  go_loopw [5, 8] (fun _ k wr => ∃ i : Nat, i ≤ L ∧ k = .int .i64 i ∧ Hid (∀ j, j < i → p (nth xs j) = true) ∧ Hid (C wr) ∧ Hid (Below w.heap.size w wr)) (fun _ k _ => L - (intOf k).toNat)
  case atStart => exact ⟨0, by omega, rfl, fun j hj => absurd hj (by omega), HW.out, Below.refl _ _⟩
  case round =>
    obtain ⟨i, hi, rfl, HP, HX, HB⟩ := hrel
    by_cases hlt : i < L
    · obtain ⟨b, o, rfl, hb, c0⟩ := is_at (i := i) (HA.out.below HB.out) (by rw [HL.out]; exact hlt)
      have t3 : decide ((i : Int) < L) = true := by simpa using hlt
      go_wp2_with fail
      refine (HH.out i _ hlt HX.out).mono ?_
      rintro e w1 ⟨rfl, hb1⟩
      have G1 : Hid (Below w.heap.size w w1) := bw_below (Nat.le_refl _) HB.out hb1
      have X1 : Hid (C w1) := HC.out _ _ HX.out hb1
      clear hb1
      cases hq : p (nth xs i) with
      | true =>
        have HQ := Lib.hid hq
        clear hq
        go_wp2_with fail
        go_round
        case rel => exact ⟨i + 1, by omega, by go_num, fun j hj => by
          rcases Nat.lt_or_ge j i with z | z
          · exact HP.out j z
          · obtain rfl : j = i := by omega
            exact HQ.out, X1.out, G1.out⟩
        case measure => simp [intOf]; omega
      | false =>
        have HQ := Lib.hid hq
        clear hq
        go_wp2_with fail
        go_ret
        exact ⟨_, rfl, Lib.hid (by rw [not_all (by rw [HL.out]; exact hlt) HQ.out]; simp), G1.out⟩
    · obtain rfl : i = L := by omega
      have t3 : decide ((i : Int) < i) = false := by simp
      go_wp2_with fail
      go_ret
      exact ⟨_, rfl, Lib.hid (by rw [all_of (fun j hj => HP.out j (by rw [HL.out] at hj; exact hj))]; simp), HB.out⟩
set_option maxHeartbeats 1000000 in
theorem contains_any (xs : List Int) (A : Option Addr) (c : Nat) (p : Int → Bool) (g : Nat) (C : World → Prop) (hC : ∀ W W', C W → Below W.heap.size W W' → C W') (hl : xs.length ≤ maxLen)
    (H : ∀ i W, i < xs.length → C W → Calls Try.prog 71 #[.int .i64 (nth xs i), .pointer (some ⟨g, 0, none⟩)] W fun e w' => e = .returned (.bool (!p (nth xs i))) ∧ Below W.heap.size W w')
    (w : World) (h : Is w A xs) (hw : C w) :
    Calls Try.prog 53 #[.slice A xs.length c, .func (.func 71) #[] #[.pointer (some ⟨g, 0, none⟩)]] w fun e w' => e = .returned (.bool (!xs.all p)) ∧ Below w.heap.size w w' := by
  have HX := Lib.hid (index_any xs A c p g C hC hl H w h hw)
  clear h H hC hw hl
  generalize xs.length = L at *
  go_enter Try.func53, Try.ntmps53
  go_wp2_with fail
  refine HX.out.mono ?_
  rintro e w1 ⟨k, rfl, hk, hb1⟩
  have HB1 := Lib.hid hb1
  clear hb1
  go_wp2_with fail
  rw [hk.out]
  go_ret
  exact ⟨rfl, HB1.out⟩
/-- What every number of a list is, by a function value. -/
theorem every_any {fid : Nat} (hc : Enters fid) (xs : List Int) (A : Option Addr) (c : Nat) (caps : Array Value) (p : Int → Bool) (C : World → Prop) (hC : ∀ W W', C W → Below W.heap.size W W' → C W') (hl : xs.length ≤ maxLen)
    (H : ∀ i W, i < xs.length → C W → Calls Try.prog fid (#[.int .i64 (nth xs i)] ++ caps) W fun e w' => e = .returned (.bool (p (nth xs i))) ∧ Below W.heap.size W w')
    (w : World) (h : Is w A xs) (hw : C w) :
    Calls Try.prog 39 #[.slice A xs.length c, .func (.func fid) #[] caps] w fun e w' => e = .returned (.bool (xs.all p)) ∧ Below w.heap.size w w' := by
  have HX := Lib.hid (contains_any xs A c p w.heap.size (fun W => C W ∧ HB W w.heap.size 84 #[.func (.func fid) #[] caps]) (fun W W' h1 h2 => ⟨hC _ _ h1.1 h2, h1.2.below h2⟩) hl
    (fun i W hi hW => every1_of hc caps _ _ _ W hW.2 (H i W hi hW.1)) (w.alloc (.cells #[.func (.func fid) #[] caps] 84)) (h.below (new_below _ _)) ⟨hC _ _ hw (new_below _ _), HB.new _ _ _⟩)
  clear h H hC hw hl hc
  generalize xs.length = L at *
  go_enter Try.func39, Try.ntmps39
  go_wp2_with fail
  refine HX.out.mono ?_
  rintro e w1 ⟨rfl, hb1⟩
  have HB1 := Lib.hid (bw_below (Nat.le_refl _) (new_below w (.cells #[.func (.func fid) #[] caps] 84)) hb1)
  clear hb1
  go_wp2_with fail
  go_ret
  exact ⟨by simp, HB1.out⟩
theorem below_refl' (w : World) : Below w.heap.size w w := Below.refl _ _
theorem everything_any (xs : List Int) (A : Option Addr) (c : Nat) (hl : xs.length ≤ maxLen) (w : World) (h : Is w A xs) :
    Calls Try.prog 39 #[.slice A xs.length c, .func (.func 40) #[] #[]] w fun e w' => e = .returned (.bool (xs.all sTh)) ∧ Below w.heap.size w w' :=
  every_any enters39 xs A c #[] sTh (fun _ => True) (fun _ _ _ _ => trivial) hl (fun i W _ _ => (isthing_any (nth xs i) W).mono fun e w' ⟨h1, h2⟩ => ⟨h1, by subst h2; exact Below.refl _ _⟩) w h trivial
theorem everybool_any (xs : List Int) (A : Option Addr) (c : Nat) (hl : xs.length ≤ maxLen) (w : World) (h : Is w A xs) :
    Calls Try.prog 39 #[.slice A xs.length c, .func (.func 74) #[] #[]] w fun e w' => e = .returned (.bool (xs.all sBo)) ∧ Below w.heap.size w w' :=
  every_any enters60 xs A c #[] sBo (fun _ => True) (fun _ _ _ _ => trivial) hl (fun i W _ _ => (isbool_any (nth xs i) W).mono fun e w' ⟨h1, h2⟩ => ⟨h1, by subst h2; exact Below.refl _ _⟩) w h trivial
theorem everynum_any (xs : List Int) (A : Option Addr) (c : Nat) (hl : xs.length ≤ maxLen) (w : World) (h : Is w A xs) :
    Calls Try.prog 39 #[.slice A xs.length c, .func (.func 75) #[] #[]] w fun e w' => e = .returned (.bool (xs.all sNu)) ∧ Below w.heap.size w w' :=
  every_any enters61 xs A c #[] sNu (fun _ => True) (fun _ _ _ _ => trivial) hl (fun i W _ _ => (isnumeric_any (nth xs i) W).mono fun e w' ⟨h1, h2⟩ => ⟨h1, by subst h2; exact Below.refl _ _⟩) w h trivial
theorem everyint_any (xs : List Int) (A : Option Addr) (c : Nat) (hl : xs.length ≤ maxLen) (w : World) (h : Is w A xs) :
    Calls Try.prog 39 #[.slice A xs.length c, .func (.func 103) #[] #[]] w fun e w' => e = .returned (.bool (xs.all sIn)) ∧ Below w.heap.size w w' :=
  every_any enters67 xs A c #[] sIn (fun _ => True) (fun _ _ _ _ => trivial) hl (fun i W _ _ => (isint_any (nth xs i) W).mono fun e w' ⟨h1, h2⟩ => ⟨h1, by subst h2; exact Below.refl _ _⟩) w h trivial
theorem ns1_any (z n : Int) (g : Nat) (w : World) (hg : HB w g 3 #[.int .i64 n]) : Calls Try.prog 42 #[.int .i64 z, .pointer (some ⟨g, 0, none⟩)] w fun e w' => e = .returned (.bool (decide (0 ≤ z) && decide (z < n))) ∧ w = w' := by
  obtain ⟨h0, h1⟩ := hg.one
  clear hg
  cases d : decide (0 ≤ z) with
  | true =>
    rw [Bool.true_and]
    go_enter Try.func42, Try.ntmps42
    go_wp2
    go_ret
    exact ⟨rfl, rfl⟩
  | false =>
    rw [Bool.false_and]
    go_enter Try.func42, Try.ntmps42
    go_wp2
    go_ret
    exact ⟨rfl, rfl⟩
/-- Every kid is an earlier node. -/
theorem everykid_any (n : Int) (g : Nat) (xs : List Int) (A : Option Addr) (c : Nat) (hl : xs.length ≤ maxLen) (w : World) (h : Is w A xs) (hg : HB w g 3 #[.int .i64 n]) :
    Calls Try.prog 39 #[.slice A xs.length c, .func (.func 42) #[] #[.pointer (some ⟨g, 0, none⟩)]] w fun e w' => e = .returned (.bool (xs.all fun z => decide (0 ≤ z) && decide (z < n))) ∧ Below w.heap.size w w' :=
  every_any enters41 xs A c #[.pointer (some ⟨g, 0, none⟩)] (fun z => decide (0 ≤ z) && decide (z < n)) (fun W => HB W g 3 #[.int .i64 n]) (fun _ _ h1 h2 => h1.below h2) hl (fun i W _ hW => (ns1_any (nth xs i) n g W hW).mono fun e w' ⟨h1, h2⟩ => ⟨h1, by subst h2; exact Below.refl _ _⟩) w h hg
theorem sw1_any (z : Int) (xs : List Int) (A : Option Addr) (c : Nat) (g : Nat) (hn : 0 < xs.length) (w : World) (h : Is w A xs) (hg : HB w g 22 #[.slice A xs.length c]) :
    Calls Try.prog 102 #[.int .i64 z, .pointer (some ⟨g, 0, none⟩)] w fun e w' => e = .returned (.bool (z == nth xs 0)) ∧ w = w' := by
  obtain ⟨h0, h1⟩ := hg.one
  obtain ⟨b, o, rfl, _, c0⟩ := is_at h hn
  clear hg h
  generalize xs.length = L at *
  rw [Nat.add_zero] at c0
  go_enter Try.func102, Try.ntmps102
  go_wp2
  go_ret
  exact ⟨rfl, rfl⟩
/-- Words of one sort. -/
def sSw (xs : List Int) : Bool := sWd (nth xs 0) && xs.all fun z => z == nth xs 0
theorem samewords_any (xs : List Int) (A : Option Addr) (c : Nat) (hn : 0 < xs.length) (hl : xs.length ≤ maxLen) (w : World) (h : Is w A xs) :
    Calls Try.prog 76 #[.slice A xs.length c] w fun e w' => e = .returned (.bool (sSw xs)) ∧ Below w.heap.size w w' := by
  have HX := Lib.hid (fun W (h1 : Is W A xs) (h2 : HB W w.heap.size 22 #[.slice A xs.length c]) => every_any enters66 xs A c #[.pointer (some ⟨w.heap.size, 0, none⟩)] (fun z => z == nth xs 0) (fun W => Is W A xs ∧ HB W w.heap.size 22 #[.slice A xs.length c])
    (fun _ _ h1 h2 => ⟨h1.1.below h2, h1.2.below h2⟩) hl (fun i W _ hW => (sw1_any (nth xs i) xs A c _ hn W hW.1 hW.2).mono fun e w' ⟨h1, h2⟩ => ⟨h1, by subst h2; exact Below.refl _ _⟩) W h1 ⟨h1, h2⟩)
  have HA := Lib.hid (h.below (new_below w (.cells #[.slice A xs.length c] 22)))
  obtain ⟨b, o, rfl, _, c0⟩ := is_at HA.out hn
  have HN := Lib.hid (HB.new w 22 #[.slice (some ⟨b, o, none⟩) xs.length c])
  unfold sSw
  unfold maxLen at hl
  rw [Nat.add_zero] at c0
  clear h
  generalize hLL : xs.length = L at *
  clear hLL
  cases d : sWd (nth xs 0) with
  | false =>
    have D := Lib.hid d
    clear d
    rw [Bool.false_and]
    go_enter Try.func76, Try.ntmps76
    go_wp2_with fail
    refine (isword_any _ _).mono ?_
    rintro e w1 ⟨rfl, rfl⟩
    rw [D.out]
    go_wp2_with fail
    go_ret
    exact ⟨rfl, new_below _ _⟩
  | true =>
    have D := Lib.hid d
    clear d
    rw [Bool.true_and]
    go_enter Try.func76, Try.ntmps76
    go_wp2_with fail
    refine (isword_any _ _).mono ?_
    rintro e w1 ⟨rfl, rfl⟩
    rw [D.out]
    go_wp2_with fail
    refine (HX.out _ HA.out HN.out).mono ?_
    rintro e w1 ⟨rfl, hb1⟩
    have HB1 := Lib.hid (bw_below (Nat.le_refl _) (new_below w (.cells #[.slice (some ⟨b, o, none⟩) L c] 22)) hb1)
    clear hb1
    go_wp2_with fail
    go_ret
    exact ⟨rfl, HB1.out⟩
end Go.Proofs.Ytjjjgffpmghfgaa
