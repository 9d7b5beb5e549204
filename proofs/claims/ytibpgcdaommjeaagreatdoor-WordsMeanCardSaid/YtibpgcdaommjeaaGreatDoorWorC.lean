/-
  Words: widths, words, what is wrong with an operation.
-/
import Derived.Test.YtibpgcdaommjeaaGreatDoorWorB
namespace Go.Proofs.YtibpgcdaommjeaaGreatDoor.Wds
open Go.RowKit

/-- So many bits, so many words. -/
def Wb (z M : Int) : Prop := z = 1 ∧ M = 2 ∨ z = 2 ∧ M = 4 ∨ z = 3 ∧ M = 8 ∨ z = 4 ∧ M = 16 ∨ z = 5 ∧ M = 32 ∨ z = 6 ∧ M = 64 ∨ z = 7 ∧ M = 128 ∨ z = 8 ∧ M = 256
theorem wb_rng {z M : Int} (h : Wb z M) : 1 ≤ z ∧ z ≤ 8 ∧ 2 ≤ M ∧ M ≤ 256 := by rcases h with h | h | h | h | h | h | h | h <;> omega
theorem wb_pow {z M : Int} (h : Wb z M) : ∃ k : Nat, z = k ∧ 1 ≤ k ∧ k ≤ 8 ∧ M = 2 ^ k := by
  rcases h with ⟨rfl, rfl⟩ | ⟨rfl, rfl⟩ | ⟨rfl, rfl⟩ | ⟨rfl, rfl⟩ | ⟨rfl, rfl⟩ | ⟨rfl, rfl⟩ | ⟨rfl, rfl⟩ | ⟨rfl, rfl⟩
  · exact ⟨1, rfl, by omega, by omega, rfl⟩
  · exact ⟨2, rfl, by omega, by omega, rfl⟩
  · exact ⟨3, rfl, by omega, by omega, rfl⟩
  · exact ⟨4, rfl, by omega, by omega, rfl⟩
  · exact ⟨5, rfl, by omega, by omega, rfl⟩
  · exact ⟨6, rfl, by omega, by omega, rfl⟩
  · exact ⟨7, rfl, by omega, by omega, rfl⟩
  · exact ⟨8, rfl, by omega, by omega, rfl⟩
theorem wb_of {z : Int} (h1 : 1 ≤ z) (h2 : z ≤ 8) : ∃ M, Wb z M := by
  have : z = 1 ∨ z = 2 ∨ z = 3 ∨ z = 4 ∨ z = 5 ∨ z = 6 ∨ z = 7 ∨ z = 8 := by omega
  unfold Wb
  rcases this with rfl | rfl | rfl | rfl | rfl | rfl | rfl | rfl
  · exact ⟨2, by omega⟩
  · exact ⟨4, by omega⟩
  · exact ⟨8, by omega⟩
  · exact ⟨16, by omega⟩
  · exact ⟨32, by omega⟩
  · exact ⟨64, by omega⟩
  · exact ⟨128, by omega⟩
  · exact ⟨256, by omega⟩
/-- Is it no width, no word? -/
def nwB (z : Int) : Bool := decide (z < 1) || decide (8 < z)
def noB (M x : Int) : Bool := decide (x < 0) || decide (M - 1 < x)
theorem greatest_any (z M : Int) (h : Wb z M) (w : World) : Calls Tryz.prog 11 #[.int .i64 z] w fun e w' => e = .returned (.int .i64 (M - 1)) ∧ w = w' := by
  rcases h with ⟨rfl, rfl⟩ | ⟨rfl, rfl⟩ | ⟨rfl, rfl⟩ | ⟨rfl, rfl⟩ | ⟨rfl, rfl⟩ | ⟨rfl, rfl⟩ | ⟨rfl, rfl⟩ | ⟨rfl, rfl⟩
  all_goals
    go_enter Tryz.func11, Tryz.ntmps11
    go_wp2_with fail
    go_ret
    exact ⟨rfl, rfl⟩
theorem nowidth_any (z : Int) (w : World) : Calls Tryz.prog 18 #[.int .i64 z] w fun e w' => e = .returned (.bool (nwB z)) ∧ w = w' := by
  unfold nwB
  cases d : decide (z < 1) with
  | true =>
    rw [Bool.true_or]
    go_enter Tryz.func18, Tryz.ntmps18
    go_wp2_with fail
    go_ret
    exact ⟨rfl, rfl⟩
  | false =>
    rw [Bool.false_or]
    go_enter Tryz.func18, Tryz.ntmps18
    go_wp2_with fail
    go_ret
    exact ⟨rfl, rfl⟩
theorem noword_any (x z M : Int) (h : Wb z M) (w : World) : Calls Tryz.prog 19 #[.int .i64 x, .int .i64 z] w fun e w' => e = .returned (.bool (noB M x)) ∧ w = w' := by
  have HG := Lib.hid (greatest_any z M h w)
  unfold noB
  clear h
  cases d : decide (x < 0) with
  | true =>
    rw [Bool.true_or]
    go_enter Tryz.func19, Tryz.ntmps19
    go_wp2_with fail
    go_ret
    exact ⟨rfl, rfl⟩
  | false =>
    rw [Bool.false_or]
    go_enter Tryz.func19, Tryz.ntmps19
    go_wp2_with fail
    refine HG.out.mono ?_
    rintro e w1 ⟨rfl, rfl⟩
    go_wp2_with fail
    go_ret
    exact ⟨rfl, rfl⟩
theorem wrong1_any (x z M : Int) (h : Wb z M) (g : Nat) (w : World) (hg : HB w g 3 #[.int .i64 z]) : Calls Tryz.prog 30 #[.int .i64 x, .pointer (some ⟨g, 0, none⟩)] w fun e w' => e = .returned (.bool (noB M x)) ∧ w = w' := by
  obtain ⟨h0, h1⟩ := hg.one
  have HG := Lib.hid (fun w => noword_any x z M h w)
  clear h hg
  go_enter Tryz.func30, Tryz.ntmps30
  go_wp2_with fail
  refine (HG.out _).mono ?_
  rintro e w1 ⟨rfl, rfl⟩
  go_wp2_with fail
  go_ret
  exact ⟨rfl, rfl⟩
/-- The greatest n of an operation; how many operands. -/
def moF (op M : Int) : Int := if op = 15 then M - 1 else if op = 23 then 8 else 0
def arF (op : Int) : Int := if op = 15 then 0 else if op = 16 ∨ op = 23 then 1 else 2
theorem most_any (op z M : Int) (h : Wb z M) (w : World) : Calls Tryz.prog 32 #[.int .i64 op, .int .i64 z] w fun e w' => e = .returned (.int .i64 (moF op M)) ∧ w = w' := by
  have HG := Lib.hid (greatest_any z M h w)
  clear h
  by_cases h1 : op = 15
  · subst h1
    rw [show moF 15 M = M - 1 from rfl]
    go_enter Tryz.func32, Tryz.ntmps32
    go_wp2_with fail
    refine HG.out.mono ?_
    rintro e w1 ⟨rfl, rfl⟩
    go_wp2_with fail
    go_ret
    exact ⟨rfl, rfl⟩
  · have d1 : (op == 15) = false := by simpa using h1
    by_cases h2 : op = 23
    · subst h2
      rw [show moF 23 M = 8 from rfl]
      go_enter Tryz.func32, Tryz.ntmps32
      go_wp2_with fail
      go_ret
      exact ⟨rfl, rfl⟩
    · have d2 : (op == 23) = false := by simpa using h2
      rw [show moF op M = 0 by simp [moF, h1, h2]]
      go_enter Tryz.func32, Tryz.ntmps32
      go_wp2_with fail
      go_ret
      exact ⟨rfl, rfl⟩
theorem is_at {w : World} {A : Option Addr} {xs : List Int} {i : Nat} (h : Is w A xs) (hi : i < xs.length) : ∃ b o, A = some ⟨b, o, none⟩ ∧ b < w.heap.size ∧ w.cell? ⟨b, o + i, none⟩ = some (.int .i64 (nth xs i)) := by
  obtain ⟨b, o, e, l, c⟩ := h (by omega)
  exact ⟨b, o, e, l, c i hi⟩
/-- The first that is no word, or how many there are. -/
def fsW (M : Int) (xs : List Int) : Nat := xs.findIdx (noB M)
theorem fsW_at {M : Int} {xs : List Int} {i : Nat} (hi : i < xs.length) (h : noB M (nth xs i) = true) (hb : ∀ j, j < i → noB M (nth xs j) = false) : fsW M xs = i := by
  unfold fsW
  rw [List.findIdx_eq hi]
  exact ⟨by rw [← nth_of hi]; exact h, fun j hj => by rw [← nth_of (by omega)]; exact hb j hj⟩
theorem fsW_all {M : Int} {xs : List Int} (hb : ∀ j, j < xs.length → noB M (nth xs j) = false) : fsW M xs = xs.length := by
  unfold fsW
  rw [List.findIdx_eq_length]
  intro x hx
  obtain ⟨i, hi, rfl⟩ := List.getElem_of_mem hx
  rw [← nth_of hi]
  exact hb i hi
theorem fsW_not {M : Int} {xs : List Int} (h : ¬ fsW M xs < xs.length) (j : Nat) (hj : j < xs.length) : noB M (nth xs j) = false := by
  have := List.not_of_lt_findIdx (xs := xs) (p := noB M) (i := j) (by unfold fsW at h; omega)
  rw [nth_of hj]
  simpa using this
/-- Where the search ends. -/
def fnW (M : Int) (xs : List Int) : Int := if fsW M xs < xs.length then fsW M xs else -1
set_option maxRecDepth 100000 in
set_option maxHeartbeats 2000000 in
theorem index_any (xs : List Int) (A : Option Addr) (c : Nat) (z M : Int) (hz : Wb z M) (g : Nat) (hl : xs.length ≤ maxLen) (w : World) (h : Is w A xs) (hg : HB w g 3 #[.int .i64 z]) :
    Calls Tryz.prog 31 #[.slice A xs.length c, .func (.func 30) #[] #[.pointer (some ⟨g, 0, none⟩)]] w fun e w' => e = .returned (.int .i64 (fnW M xs)) ∧ w = w' := by
  have HA := Lib.hid h
  have HH := Lib.hid (fun i => wrong1_any (nth xs i) z M hz g w hg)
  have HF := Lib.hid (fun (i : Nat) (hi : i < xs.length) (h1 : noB M (nth xs i) = true) (h2 : ∀ j, j < i → noB M (nth xs j) = false) => show fnW M xs = i by rw [fnW, fsW_at hi h1 h2, if_pos hi])
  have HN := Lib.hid (fun (h2 : ∀ j, j < xs.length → noB M (nth xs j) = false) => show fnW M xs = -1 by rw [fnW, fsW_all h2, if_neg (by omega)])
  unfold maxLen at hl
  generalize fnW M xs = F at *
  generalize hL : xs.length = L at *
  have HL := Lib.hid hL
  clear h hz hL hg
  go_enter Tryz.func31, Tryz.ntmps31
  go_wp2_with fail
  go_loopw [5, 8] (fun _ k wr => ∃ i : Nat, i ≤ L ∧ k = .int .i64 i ∧ Hid (∀ j, j < i → noB M (nth xs j) = false) ∧ wr = w) (fun _ k _ => L - (intOf k).toNat)
  case atStart => exact ⟨0, by omega, rfl, fun j hj => absurd hj (by omega), rfl⟩
  case round =>
    obtain ⟨i, hi, rfl, HP, rfl⟩ := hrel
    by_cases hlt : i < L
    · obtain ⟨b, o, rfl, hb, c0⟩ := is_at (i := i) HA.out (by rw [HL.out]; exact hlt)
      have t3 : decide ((i : Int) < L) = true := by simpa using hlt
      go_wp2_with fail
      refine (HH.out i).mono ?_
      rintro e w1 ⟨rfl, rfl⟩
      cases hq : noB M (nth xs i) with
      | true =>
        have HQ := Lib.hid hq
        clear hq
        go_wp2_with fail
        go_ret
        have hF := HF.out i hlt HQ.out HP.out
        exact ⟨by rw [hF]; rfl, rfl⟩
      | false =>
        have HQ := Lib.hid hq
        clear hq
        go_wp2_with fail
        go_round
        case rel => exact ⟨i + 1, by omega, by go_num, fun j hj => by
          rcases Nat.lt_or_ge j i with z | z
          · exact HP.out j z
          · obtain rfl : j = i := by omega
            exact HQ.out, trivial⟩
        case measure => simp [intOf]; omega
    · obtain rfl : i = L := by omega
      have t3 : decide ((i : Int) < i) = false := by simp
      go_wp2_with fail
      go_ret
      exact ⟨by rw [HN.out HP.out]; rfl, rfl⟩
end Go.Proofs.YtibpgcdaommjeaaGreatDoor.Wds
