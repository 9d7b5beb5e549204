/-
  Words: the law WordsSays.
-/
import Derived.Test.YtibpgcdaommjeaaDoorWorU
namespace Go.Proofs.YtibpgcdaommjeaaDoor
open Go.RowKit

set_option maxRecDepth 100000 in
set_option maxHeartbeats 8000000 in
theorem wordssays_M (op z M n : Int) (xs : List Int) (A : Option Addr) (c : Nat) (hwf : (Lit.int .i64 op).wf = true) (hz : nwB z = false → Wb z M) (hl : xs.length ≤ maxLen) (w : World) (h : Is w A xs) (ht : TabW w) :
    Calls Tryd.prog 3 #[.int .i64 op, .int .i64 z, .slice A xs.length c, .int .i64 n] w fun e w' => e = .returned (.bool true) ∧ Below w.heap.size w w' := by
  have HX := Lib.hid (do_any op z M n xs A c hwf hz hl w h ht)
  have HT := Lib.hid ht
  have HF := Lib.hid (fun W (hW : Below w.heap.size w W) => rfault_any op z M n xs A c hz W (h.below hW))
  have HD := Lib.hid (fun (hc : wfC op z M xs n = 0) W (hW : Below w.heap.size w W) => rdo_any op z M n xs A c hz hc W (h.below hW))
  have HR : Hid (wfC op z M xs n ≠ 0 → doR op z M xs n = 0) := Lib.hid (fun hc => by unfold doR; rw [if_neg hc])
  clear hwf hz hl h ht
  generalize doR op z M xs n = R at *
  generalize wfA op z M xs = a at *
  generalize wfC op z M xs n = C at *
  generalize xs.length = L at *
  by_cases hc : C = 0
  · have HD0 := Lib.hid (HD.out hc)
    subst hc
    clear HD HR
    go_enter Tryd.func3, Tryd.ntmps3
    go_wp2_with fail
    refine HX.out.mono ?_
    rintro e w1 ⟨rfl, hb⟩
    have H1 := Lib.hid hb
    have R1 := Lib.hid (HB.new w1 24 #[.int .i64 0, .int .i64 a])
    have G1 := Lib.hid (H1.out.alloc H1.out.size (.cells #[.int .i64 0, .int .i64 a] 24))
    have T1 := Lib.hid (HT.out.below G1.out)
    clear hb H1
    go_wp2_with fail
    refine (fact_any _ T1.out).mono ?_
    rintro e w2 ⟨rfl, hb⟩
    have R2 := Lib.hid (R1.out.below hb)
    have G2 := Lib.hid (bw_below (Nat.le_refl _) G1.out hb)
    clear hb R1 G1 T1
    go_wp2_with fail
    refine (HF.out _ G2.out).mono ?_
    rintro e w3 ⟨rfl, hb⟩
    have G3' := Lib.hid (bw_below (Nat.le_refl _) G2.out hb)
    have R3 := Lib.hid ((R2.out.below hb).alloc (.cells #[.int .i64 0, .int .i64 a] 24))
    have G3 := Lib.hid (G3'.out.alloc G3'.out.size (.cells #[.int .i64 0, .int .i64 a] 24))
    obtain ⟨r0, r1, _, _⟩ := R3.out.two
    have rl := R3.out.lt
    clear hb R2 G2 G3'
    go_wp2_with fail
    refine (HD0.out _ G3.out).mono ?_
    rintro e w4 ⟨rfl, hb⟩
    have G4 := Lib.hid (bw_below (Nat.le_refl _) G3.out hb)
    clear hb G3
    go_wp2_with fail
    go_ret
    exact ⟨rfl, G4.out⟩
  · have hR := HR.out hc
    subst hR
    have d1 : (C == 0) = false := by simpa using hc
    have d2 : (C != 0) = true := by simpa using hc
    clear HD HR hc
    go_enter Tryd.func3, Tryd.ntmps3
    go_wp2_with fail
    refine HX.out.mono ?_
    rintro e w1 ⟨rfl, hb⟩
    have H1 := Lib.hid hb
    have R1 := Lib.hid (HB.new w1 24 #[.int .i64 C, .int .i64 a])
    have G1 := Lib.hid (H1.out.alloc H1.out.size (.cells #[.int .i64 C, .int .i64 a] 24))
    have T1 := Lib.hid (HT.out.below G1.out)
    clear hb H1
    go_wp2_with fail
    refine (fact_any _ T1.out).mono ?_
    rintro e w2 ⟨rfl, hb⟩
    have R2 := Lib.hid (R1.out.below hb)
    have G2 := Lib.hid (bw_below (Nat.le_refl _) G1.out hb)
    clear hb R1 G1 T1
    go_wp2_with fail
    refine (HF.out _ G2.out).mono ?_
    rintro e w3 ⟨rfl, hb⟩
    have G3' := Lib.hid (bw_below (Nat.le_refl _) G2.out hb)
    have R3 := Lib.hid ((R2.out.below hb).alloc (.cells #[.int .i64 C, .int .i64 a] 24))
    have G3 := Lib.hid (G3'.out.alloc G3'.out.size (.cells #[.int .i64 C, .int .i64 a] 24))
    obtain ⟨r0, r1, _, _⟩ := R3.out.two
    have rl := R3.out.lt
    clear hb R2 G2 G3'
    go_wp2_with fail
    go_ret
    exact ⟨rfl, G3.out⟩
theorem wordssays_any (op z n : Int) (xs : List Int) (A : Option Addr) (c : Nat) (hwf : (Lit.int .i64 op).wf = true) (hl : xs.length ≤ maxLen) (w : World) (h : Is w A xs) (ht : TabW w) :
    Calls Tryd.prog 3 #[.int .i64 op, .int .i64 z, .slice A xs.length c, .int .i64 n] w fun e w' => e = .returned (.bool true) ∧ Below w.heap.size w w' := by
  by_cases hb : nwB z = true
  · exact wordssays_M op z 0 n xs A c hwf (fun h => by rw [hb] at h; cases h) hl w h ht
  · have : ¬ (z < 1 ∨ 8 < z) := fun h => hb (by unfold nwB; simpa using h)
    obtain ⟨M, hM⟩ := wb_of (z := z) (by omega) (by omega)
    exact wordssays_M op z M n xs A c hwf (fun _ => hM) hl w h ht
end Go.Proofs.YtibpgcdaommjeaaDoor
