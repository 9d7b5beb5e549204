/-
  Asks: the first fault among elements.
-/
import Derived.Test.YtjjjgffpmghfgaaAskR
namespace Go.Proofs.Ytjjjgffpmghfgaa
open Go.RowKit

/-- The first element with a code. -/
def fsI (code : Nat → Int) (n : Nat) : Nat := (List.range n).findIdx fun i => code i != 0
theorem fs_hit {code : Nat → Int} {n i : Nat} (hi : i < n) (h : ∀ j, j < i → code j = 0) (hc : code i ≠ 0) : fsI code n = i := by
  unfold fsI
  have hl : i < (List.range n).length := by simpa using hi
  rw [List.findIdx_eq hl]
  refine ⟨by simpa using hc, fun j hj => ?_⟩
  simp [h j hj]
theorem fs_miss {code : Nat → Int} {n : Nat} (h : ∀ j, j < n → code j = 0) : fsI code n = n := by
  unfold fsI
  have : (List.range n).findIdx (fun i => code i != 0) = (List.range n).length := by
    rw [List.findIdx_eq_length]
    intro x hx
    simp [h x (List.mem_range.1 hx)]
  rw [this, List.length_range]
/-- The fault: its code, and where. -/
def fsC (code : Nat → Int) (n lim : Nat) : Int := if lim < n then 2 else if fsI code n < n then code (fsI code n) else 0
def fsA (code : Nat → Int) (n lim : Nat) : Int := if lim < n then 0 else if fsI code n < n then (fsI code n : Int) else 0
/-- How many elements have been asked. -/
def fsK (code : Nat → Int) (n lim : Nat) : Nat := if lim < n then 0 else if fsI code n < n then fsI code n + 1 else n
set_option maxHeartbeats 2000000 in
set_option maxRecDepth 100000 in
theorem first_any {fid : Nat} (hc : Enters fid) (n lim : Nat) (hn : n ≤ 9223372036854775807) (caps : Array Value) (code : Nat → Int) (I : Nat → World → Prop) (w : World)
    (hI : ∀ i W W', I i W → Below W.heap.size W W' → I i W')
    (hF : ∀ i W W' g cs, w.heap.size ≤ g → HB W g 29 cs → Far g W W' → I i W → I i W')
    (H : ∀ i W, i < n → n ≤ lim → I i W → Calls Try.prog fid (#[.int .i64 i] ++ caps) W fun e w' => e = .returned (.int .i64 (code i)) ∧ I (i + 1) w' ∧ (∀ g cs, HB W g 29 cs → HB w' g 29 cs))
    (hw : I 0 w) :
    Calls Try.prog 20 #[.int .i64 n, .int .i64 lim, .func (.func fid) #[] caps] w fun e w' => e = .returned (.agg #[.int .i64 (fsC code n lim), .int .i64 (fsA code n lim)]) ∧ I (fsK code n lim) w' ∧ (∀ g cs, g < w.heap.size → HB w g 29 cs → HB w' g 29 cs) := by
  have HC := Lib.hid hc
  have HH := Lib.hid H
  have HI := Lib.hid hI
  have HF := Lib.hid hF
  have HW := Lib.hid (hI 0 w _ hw (new_below w (.cells #[.int .i64 0, .int .i64 0] 29)))
  have HWA := Lib.hid (fun o => hI 0 w _ hw (new_below w o))
  clear hc H hI hF hw
  by_cases h1 : lim < n
  · have HE : Hid (fsC code n lim = 2 ∧ fsA code n lim = 0 ∧ fsK code n lim = 0) := Lib.hid (by unfold fsC fsA fsK; simp only [h1, if_true, and_self])
    go_enter Try.func20, Try.ntmps20
    go_wp2_with fail
    refine bodyPost_ret (v := .agg #[.int .i64 2, .int .i64 0]) (by simp [results, Try.results20, go_sem]) rfl ⟨by rw [HE.out.1, HE.out.2.1], ?_, ?_⟩
    · rw [HE.out.2.2]; exact HWA.out _
    · intro g cs hg h; exact h.alloc _
  · go_enter Try.func20, Try.ntmps20
    go_wp2_with fail
    go_loopw [7, 8, 14] (fun _ _ k wr => ∃ i : Nat, i ≤ n ∧ k = .int .i64 i ∧ Hid (∀ j, j < i → code j = 0) ∧ Hid (I i wr) ∧ Hid (HB wr w.heap.size 29 #[.int .i64 0, .int .i64 0]) ∧ Hid (∀ g cs, g < w.heap.size → HB w g 29 cs → HB wr g 29 cs)) (fun _ _ k _ => n - (intOf k).toNat)
    case atStart => exact ⟨0, by omega, rfl, fun j hj => absurd hj (by omega), HW, HB.new _ _ _, Lib.hid (fun g cs hg h => h.alloc _)⟩
    case round =>
      obtain ⟨i, hi, rfl, HP, HX, HR, HG⟩ := hrel
      obtain ⟨r0, r1, r2, r3⟩ := HR.out.two
      have lr := HR.out.lt
      by_cases hlt : i < n
      · have t3 : decide ((i : Int) < n) = true := by simpa using hlt
        have HL := Lib.hid (show n ≤ lim by omega)
        clear h1
        go_wp2_with fail
        rw [HC.out, Oper.upon_enter]
        refine (HH.out i _ hlt HL.out HX.out).mono ?_
        rintro e w1 ⟨rfl, hx1, hg1⟩
        have X1 := Lib.hid hx1
        have R1 := Lib.hid (hg1 _ _ HR.out)
        have G1 : Hid (∀ g cs, g < w.heap.size → HB w g 29 cs → HB w1 g 29 cs) := Lib.hid (fun g cs hg h => hg1 g cs (HG.out g cs hg h))
        clear hx1 hg1 r0 r1 r2 r3 lr
        obtain ⟨r0, r1, r2, r3⟩ := R1.out.two
        have lr := R1.out.lt
        by_cases hc : code i = 0
        · have HC0 := Lib.hid hc
          rw [hc]
          clear hc
          go_wp2_with fail
          go_round
          case rel => exact ⟨i + 1, by omega, by go_num, fun j hj => by
            rcases Nat.lt_or_ge j i with z | z
            · exact HP.out j z
            · obtain rfl : j = i := by omega
              exact HC0.out, X1, R1, G1⟩
          case measure => simp [intOf]; omega
        · have tc : (code i != 0) = true := by simpa using hc
          have HE : Hid (fsC code n lim = code i ∧ fsA code n lim = i ∧ fsK code n lim = i + 1) := Lib.hid (by
            have := fs_hit hlt HP.out hc
            have h1 := HL.out
            unfold fsC fsA fsK
            rw [this, if_neg (by omega), if_pos hlt, if_neg (by omega), if_pos hlt, if_neg (by omega), if_pos hlt]
            exact ⟨rfl, rfl, rfl⟩)
          clear hc
          generalize code i = ci at *
          go_wp2_with fail
          have RR := hb_set2 (n := .int .i64 ci) (d := .int .i64 i) R1.out
          have FF := far2 w1 w.heap.size (.int .i64 ci) (.int .i64 i)
          obtain ⟨y0, y1, _, _⟩ := RR.two
          refine bodyPost_ret (v := .agg #[.int .i64 ci, .int .i64 i]) (by simp [results, Try.results20, go_sem, y0, y1]) rfl ⟨by rw [HE.out.1, HE.out.2.1], ?_, ?_⟩
          · rw [HE.out.2.2]; exact HF.out _ _ _ _ _ (Nat.le_refl _) R1.out FF X1.out
          · intro g cs hg h; exact (G1.out g cs hg h).far_ (by omega) FF
      · obtain rfl : i = n := by omega
        have t3 : decide ((i : Int) < i) = false := by simp
        have HE : Hid (fsC code i lim = 0 ∧ fsA code i lim = 0 ∧ fsK code i lim = i) := Lib.hid (by
          have := fs_miss HP.out
          unfold fsC fsA fsK
          rw [this, if_neg (by omega), if_neg (by omega), if_neg (by omega), if_neg (by omega), if_neg (by omega), if_neg (by omega)]
          exact ⟨rfl, rfl, rfl⟩)
        clear hlt h1
        go_wp2_with fail
        have RR := hb_set2 (n := .int .i64 0) (d := .int .i64 0) HR.out
        have FF := far2 wr w.heap.size (.int .i64 0) (.int .i64 0)
        obtain ⟨y0, y1, _, _⟩ := RR.two
        refine bodyPost_ret (v := .agg #[.int .i64 0, .int .i64 0]) (by simp [results, Try.results20, go_sem, y0, y1]) rfl ⟨by rw [HE.out.1, HE.out.2.1], ?_, ?_⟩
        · rw [HE.out.2.2]; exact HF.out _ _ _ _ _ (Nat.le_refl _) HR.out FF HX.out
        · intro g cs hg h; exact (HG.out g cs hg h).far_ (by omega) FF
end Go.Proofs.Ytjjjgffpmghfgaa
