/-
  Words: what is wrong with an operation.
-/
import Derived.Test.YtibpgcdaommjeaaGreatDoorWorC
namespace Go.Proofs.YtibpgcdaommjeaaGreatDoor.Wds
open Go.RowKit

/-- The table of how many operands. -/
def TabW (w : World) : Prop := 0 < w.heap.size ∧ ∀ k : Nat, 15 ≤ k → k ≤ 23 → w.cell? ⟨0, k, none⟩ = some (.int .i64 (arF k))
theorem TabW.below {w w' : World} (h : TabW w) (hb : Below w.heap.size w w') : TabW w' := ⟨Nat.lt_of_lt_of_le h.1 hb.size, fun k h1 h2 => (hb.cell (p := ⟨0, k, none⟩) h.1).trans (h.2 k h1 h2)⟩
/-- What is wrong with an operation: the fault and its place. -/
def wfC (op z M : Int) (xs : List Int) (n : Int) : Int :=
  if op < 15 ∨ 23 < op then 4 else if nwB z = true then 3 else if (xs.length : Int) ≠ arF op then 9 else if fsW M xs < xs.length then 3 else if n < 0 ∨ moF op M < n then 5 else 0
def wfA (op z M : Int) (xs : List Int) : Int :=
  if op < 15 ∨ 23 < op then 0 else if nwB z = true then -1 else if (xs.length : Int) ≠ arF op then 0 else if fsW M xs < xs.length then fsW M xs else 0
def fltV (p : Int × Int) : Value := .agg #[.int .i64 p.1, .int .i64 p.2]
set_option maxRecDepth 100000 in
set_option maxHeartbeats 4000000 in
theorem wrong_any (k : Nat) (k1 : 15 ≤ k) (k2 : k ≤ 23) (z M n : Int) (xs : List Int) (A : Option Addr) (c : Nat) (hz : nwB z = false → Wb z M) (hl : xs.length ≤ maxLen) (w : World) (h : Is w A xs) (ht : TabW w) :
    Calls Tryz.prog 10 #[.int .i64 k, .int .i64 z, .slice A xs.length c, .int .i64 n] w fun e w' => e = .returned (.agg #[.int .i64 (wfC k z M xs n), .int .i64 (wfA k z M xs)]) ∧ Below w.heap.size w w' := by
  have hk : ¬ ((k : Int) < 15 ∨ 23 < (k : Int)) := by omega
  have H5 : Hid (HB ((w.alloc (.cells #[.int .i64 z] 3)).alloc (.cells #[.int .i64 0, .int .i64 0] 28)) w.heap.size 3 #[.int .i64 z]) := Lib.hid ((HB.new _ _ _).alloc _)
  have G1 : Hid (Below w.heap.size w ((w.alloc (.cells #[.int .i64 z] 3)).alloc (.cells #[.int .i64 0, .int .i64 0] 28))) := Lib.hid (by go_grown)
  have ht0 := ht.1
  have tc := ht.2 k k1 k2
  cases d1 : nwB z with
  | true =>
    have e1 : wfC k z M xs n = 3 := by unfold wfC; rw [if_neg hk, if_pos d1]
    have e2 : wfA k z M xs = -1 := by unfold wfA; rw [if_neg hk, if_pos d1]
    rw [e1, e2]
    have HD := Lib.hid d1
    clear e1 e2 hz d1 h ht H5
    generalize xs.length = L at *
    go_enter Tryz.func10, Tryz.ntmps10
    go_wp2_with fail
    refine (nowidth_any z _).mono ?_
    rintro e w1 ⟨rfl, rfl⟩
    rw [HD.out]
    go_wp2_with fail
    exact bodyPost_ret (v := .agg #[.int .i64 3, .int .i64 (-1)]) (by simp [results, Tryz.results10, go_sem]) rfl ⟨rfl, by go_grown⟩
  | false =>
    have hw := hz d1
    have HD := Lib.hid d1
    have HI := Lib.hid (index_any xs A c z M hw w.heap.size hl ((w.alloc (.cells #[.int .i64 z] 3)).alloc (.cells #[.int .i64 0, .int .i64 0] 28)) (h.below G1.out) H5.out)
    have HM := Lib.hid (fun w => most_any k z M hw w)
    have E1 : wfC k z M xs n = if (xs.length : Int) ≠ arF k then 9 else if fsW M xs < xs.length then 3 else if n < 0 ∨ moF k M < n then 5 else 0 := by unfold wfC; rw [if_neg hk, if_neg (by rw [d1]; decide)]
    have E2 : wfA k z M xs = if (xs.length : Int) ≠ arF k then 0 else if fsW M xs < xs.length then (fsW M xs : Int) else 0 := by unfold wfA; rw [if_neg hk, if_neg (by rw [d1]; decide)]
    unfold maxLen at hl
    clear hz d1 h ht hw
    by_cases hs : (xs.length : Int) = arF k
    · by_cases hf : fsW M xs < xs.length
      · rw [if_neg (by simpa using hs), if_pos hf] at E1 E2
        rw [E1, E2]
        have HF : Hid (fnW M xs = fsW M xs) := Lib.hid (by rw [fnW, if_pos hf])
        have hs2 : ((xs.length : Int) != arF k) = false := by simpa using hs
        generalize fsW M xs = F at *
        generalize xs.length = L at *
        generalize arF k = ar at *
        have hs3 : decide ((0 : Int) ≤ F) = true := by simp
        clear E1 E2 hs hf
        go_enter Tryz.func10, Tryz.ntmps10
        go_wp2_with fail
        refine (nowidth_any z _).mono ?_
        rintro e w1 ⟨rfl, rfl⟩
        rw [HD.out]
        go_wp2_with fail
        refine HI.out.mono ?_
        rintro e w1 ⟨rfl, rfl⟩
        rw [HF.out]
        go_wp2_with fail
        exact bodyPost_ret (v := .agg #[.int .i64 3, .int .i64 F]) (by simp [results, Tryz.results10, go_sem]) rfl ⟨rfl, by go_grown⟩
      · rw [if_neg (by simpa using hs), if_neg hf] at E1 E2
        have HF : Hid (fnW M xs = -1) := Lib.hid (by rw [fnW, if_neg hf])
        have hs2 : ((xs.length : Int) != arF k) = false := by simpa using hs
        rw [E2]
        clear E2 hf hs
        by_cases hn : n < 0
        · rw [if_pos (.inl hn)] at E1
          rw [E1]
          have d3 : decide (n < 0) = true := by simpa using hn
          clear E1 hn
          generalize xs.length = L at *
          generalize arF k = ar at *
          go_enter Tryz.func10, Tryz.ntmps10
          go_wp2_with fail
          refine (nowidth_any z _).mono ?_
          rintro e w1 ⟨rfl, rfl⟩
          rw [HD.out]
          go_wp2_with fail
          refine HI.out.mono ?_
          rintro e w1 ⟨rfl, rfl⟩
          rw [HF.out]
          go_wp2_with fail
          exact bodyPost_ret (v := .agg #[.int .i64 5, .int .i64 0]) (by simp [results, Tryz.results10, go_sem]) rfl ⟨rfl, by go_grown⟩
        · have d3 : decide (n < 0) = false := by simpa using hn
          by_cases hn2 : moF k M < n
          · rw [if_pos (.inr hn2)] at E1
            rw [E1]
            have d4 : decide (moF k M < n) = true := by simpa using hn2
            clear E1 hn hn2
            generalize xs.length = L at *
            generalize arF k = ar at *
            generalize moF k M = mo at *
            go_enter Tryz.func10, Tryz.ntmps10
            go_wp2_with fail
            refine (nowidth_any z _).mono ?_
            rintro e w1 ⟨rfl, rfl⟩
            rw [HD.out]
            go_wp2_with fail
            refine HI.out.mono ?_
            rintro e w1 ⟨rfl, rfl⟩
            rw [HF.out]
            go_wp2_with fail
            refine (HM.out _).mono ?_
            rintro e w1 ⟨rfl, rfl⟩
            go_wp2_with fail
            exact bodyPost_ret (v := .agg #[.int .i64 5, .int .i64 0]) (by simp [results, Tryz.results10, go_sem]) rfl ⟨rfl, by go_grown⟩
          · rw [if_neg (by omega)] at E1
            rw [E1]
            have d4 : decide (moF k M < n) = false := by simpa using hn2
            clear E1 hn hn2
            generalize xs.length = L at *
            generalize arF k = ar at *
            generalize moF k M = mo at *
            go_enter Tryz.func10, Tryz.ntmps10
            go_wp2_with fail
            refine (nowidth_any z _).mono ?_
            rintro e w1 ⟨rfl, rfl⟩
            rw [HD.out]
            go_wp2_with fail
            refine HI.out.mono ?_
            rintro e w1 ⟨rfl, rfl⟩
            rw [HF.out]
            go_wp2_with fail
            refine (HM.out _).mono ?_
            rintro e w1 ⟨rfl, rfl⟩
            go_wp2_with fail
            exact bodyPost_ret (v := .agg #[.int .i64 0, .int .i64 0]) (by simp [results, Tryz.results10, go_sem]) rfl ⟨rfl, by go_grown⟩
    · rw [if_pos (by simpa using hs)] at E1 E2
      rw [E1, E2]
      have hs2 : ((xs.length : Int) != arF k) = true := by simpa using hs
      generalize xs.length = L at *
      generalize arF k = ar at *
      clear E1 E2 hs
      go_enter Tryz.func10, Tryz.ntmps10
      go_wp2_with fail
      refine (nowidth_any z _).mono ?_
      rintro e w1 ⟨rfl, rfl⟩
      rw [HD.out]
      go_wp2_with fail
      exact bodyPost_ret (v := .agg #[.int .i64 9, .int .i64 0]) (by simp [results, Tryz.results10, go_sem]) rfl ⟨rfl, by go_grown⟩
end Go.Proofs.YtibpgcdaommjeaaGreatDoor.Wds
