/-
  Words: the reference's sum, bit by bit, and a move by one.
-/
import Derived.Test.YtibpgcdaommjeaaDoorWorQ
import Derived.Deep.RegionLaw
namespace Go.Proofs.YtibpgcdaommjeaaDoor
open Go.RowKit

theorem bs_cell {w : World} {g o n k : Nat} {b : Nat → Bool} (h : Bs w (some ⟨g, o, none⟩) b n) (hk : k < n) : w.cell? ⟨g, o + k, none⟩ = some (.bool (b k)) ∧ g < w.heap.size := by
  obtain ⟨g', o', e, l, c⟩ := h.at_ hk
  simp only [Option.some.injEq, Addr.mk.injEq, and_true] at e
  obtain ⟨rfl, rfl⟩ := e
  exact ⟨c, l⟩
theorem below_dn' {w w' : World} {B : Nat} (h : Below B w w') (n : Nat) : Below B w (w'.drewN n) := bw_dn h n
set_option maxRecDepth 100000 in
set_option maxHeartbeats 8000000 in
theorem radd_any (A B : Option Addr) (n ca cb : Nat) (a b : Nat → Bool) (h8 : n ≤ 8) (w : World) (ha : Bs w A a n) (hb : Bs w B b n) : Calls Tryd.prog 19 #[.slice A n ca, .slice B n cb] w fun e w' => ∃ C c, e = .returned (.slice C n c) ∧ n ≤ c ∧ Hid (Bs w' C (sm a b) n) ∧ Below w.heap.size w w' := by
  have HA := Lib.hid ha
  have HB' := Lib.hid hb
  have HC : Hid (∀ i, cy a b (i + 1) = ((a i && b i) || (a i && cy a b i) || (b i && cy a b i))) := Lib.hid (fun i => rfl)
  have HS : Hid (∀ i, sm a b i = ((a i != b i) != cy a b i)) := Lib.hid (fun i => rfl)
  have HZ : Hid (cy a b 0 = false) := Lib.hid rfl
  have HV := Lib.hid (boolV_snoc (sm a b))
  clear ha hb
  generalize sm a b = S at *
  generalize cy a b = Y at *
  go_enter Tryd.func19, Tryd.ntmps19
  go_wp2_with fail
  go_loopw [5, 6, 7] (fun s y t wr => ∃ (i : Nat) (C : Option Addr) (c : Nat), i ≤ n ∧ t = .int .i64 i ∧ y = .bool (Y i) ∧ s = .slice C i c ∧ Hid (wr.ownsRow w.heap.size 4 1 (.slice C i c) i (boolV S i)) ∧ Hid (Below w.heap.size w wr)) (fun _ _ t _ => n - (intOf t).toNat)
  case atStart => exact ⟨0, none, 0, by omega, rfl, by rw [HZ.out], rfl, Lib.hid (own_nil _ _ _ _), Lib.hid (Below.refl _ _)⟩
  case round =>
    obtain ⟨i, C, c, hi, rfl, rfl, rfl, HO, G1⟩ := hrel
    by_cases hlt : i < n
    · have t3 : decide ((i : Int) < (n : Int)) = true := by simpa using hlt
      obtain ⟨ga, oa, rfl, la, xa⟩ := (HA.out.below G1.out).at_ hlt
      obtain ⟨gb, ob, rfl, lb, xb⟩ := (HB'.out.below G1.out).at_ hlt
      have e1 := HC.out i
      have e2 := HS.out i
      have e3 := HV.out i
      have lw := G1.out.size
      have XA : Hid (∀ W, Below w.heap.size w W → W.cell? ⟨ga, oa + i, none⟩ = some (.bool (a i)) ∧ ga < W.heap.size) := Lib.hid (fun W hW => bs_cell (HA.out.below hW) hlt)
      have XB : Hid (∀ W, Below w.heap.size w W → W.cell? ⟨gb, ob + i, none⟩ = some (.bool (b i)) ∧ gb < W.heap.size) := Lib.hid (fun W hW => bs_cell (HB'.out.below hW) hlt)
      generalize a i = ai at *
      generalize b i = bi at *
      have E3 := Lib.hid e3
      have E1 := Lib.hid e1
      have E2 := Lib.hid e2
      clear e1 e2 e3
      generalize hy : Y i = yi at *
      clear hy
      go_wp2_with fail
      go_region_law (first
        | (refine step_app 31 4 Tryd.underlying31 (.bool false) 1 1 info_bool rfl (by decide) rfl _ _ rfl w.heap.size (.slice C i c) i (boolV S i) rfl ?_ wr.heap.size #[.bool ((ai != bi) != yi)] rfl ?_ rfl ?_ (by omega) (by unfold maxLen; omega) ?_ ?_; (first | exact own_alloc (own_drewN HO.out 1) _ | exact own_drewN (own_alloc HO.out _) 1); (first | exact HB.new _ _ _ | exact (HB.new _ _ _).drewN 1); (simp [Value.oneCell']); (simp; omega); intro g4 cap4 w4 hown4 hkp4 hbw4; have G4 : Hid (Below w.heap.size w w4) := Lib.hid (hbw4 w (by first | exact Below.alloc (bw_dn G1.out 1) (by simp; omega) _ | exact bw_dn (Below.alloc G1.out (by omega) _) 1)); have O4 : Hid (w4.ownsRow w.heap.size 4 1 (.slice (some ⟨g4, 0, none⟩) (i + 1) cap4) (i + 1) (boolV S (i + 1))) := Lib.hid (by rw [E3.out, E2.out]; exact hown4.out); clear hown4 hkp4 hbw4))
      all_goals
        obtain ⟨za, la4⟩ := XA.out _ G4.out
        obtain ⟨zb, lb4⟩ := XB.out _ G4.out
        clear XA XB HA HB' xa xb la lb HO G1 HC HS HV
        have e1 := E1.out
        cases ai <;> cases bi <;> cases yi
        all_goals
          have E4 := Lib.hid e1
          clear e1
          go_wp2_with fail
          go_round
          case rel => exact ⟨i + 1, some ⟨g4, 0, none⟩, cap4, by omega, by go_num, by rw [E4.out]; rfl, rfl, O4, G4⟩
          case measure => simp [intOf]; omega
    · obtain rfl : i = n := by omega
      have t3 : decide ((i : Int) < (i : Int)) = false := by simp
      have hb := own_bs HO.out
      have HB2 := Lib.hid hb.1
      have hc := hb.2
      clear hb
      go_wp2_with fail
      go_ret
      exact ⟨C, c, rfl, hc, HB2, G1.out⟩
theorem lf_boolV (b : Nat → Bool) (m : Nat) : boolV (lf b) (m + 1) = [.bool false] ++ boolV b m := by
  unfold boolV
  rw [List.range_succ_eq_map, List.map_cons, List.map_map]
  rfl
set_option maxRecDepth 100000 in
set_option maxHeartbeats 4000000 in
theorem rleft_any (A : Option Addr) (m c : Nat) (b : Nat → Bool) (h8 : m ≤ 7) (hc : m + 1 ≤ c) (w : World) (h : Bs w A b (m + 1)) : Calls Tryd.prog 20 #[.slice A ((m + 1 : Nat)) c] w fun e w' => ∃ C c', e = .returned (.slice C (m + 1) c') ∧ m + 1 ≤ c' ∧ Hid (Bs w' C (lf b) (m + 1)) ∧ Below w.heap.size w w' := by
  obtain ⟨g, o, rfl, hg, hcell⟩ := h (by omega)
  have HO : Hid ((w.alloc (.cells #[.bool false] 4)).ownsRow w.heap.size 4 1 (.slice (some ⟨w.heap.size, 0, none⟩) 1 1) 1 [.bool false]) :=
    Lib.hid ⟨rfl, .inr ⟨w.heap.size, 1, #[.bool false], rfl, Nat.le_refl _, heap_alloc_new w _, Nat.le_refl _, by unfold maxLen; omega, rfl, rfl⟩⟩
  have G0 := Lib.hid (new_below w (.cells #[.bool false] 4))
  have HAT : Hid (0 < m → ∃ ad, some (⟨g, o, none⟩ : Addr) = some ad ∧ ∀ j u, (boolV b m)[j]? = some u → (w.alloc (.cells #[.bool false] 4)).cell? (ad.add j) = some u) := Lib.hid (fun _ => ⟨_, rfl, fun j u hu => by
    have hj : j < m := by
      rcases Nat.lt_or_ge j m with y | y
      · exact y
      · rw [List.getElem?_eq_none (by rw [boolV_len]; exact y)] at hu; cases hu
    rw [boolV_get hj] at hu
    injection hu with hu
    rw [show (⟨g, o, none⟩ : Addr).add j = ⟨g, o + j, none⟩ by simp [Addr.add], ← hu, ← hcell j (by omega)]
    exact G0.out.cell (p := ⟨g, o + j, none⟩) hg⟩)
  have HV : Hid (∀ u ∈ boolV b m, u.oneCell' = true) := Lib.hid (fun u hu => by
    unfold boolV at hu
    obtain ⟨k, _, rfl⟩ := List.mem_map.1 hu
    rfl)
  have HL := Lib.hid (lf_boolV b m)
  have q1 : IntKind.i64.wrap (((m + 1 : Nat) : Int) - 1) = (m : Int) := by
    rw [show (((m + 1 : Nat) : Int) - 1) = (m : Int) by omega]
    exact IntWalk.i64_in _ (by omega)
  clear hcell h
  go_enter Tryd.func20, Tryd.ntmps20
  go_wp2_with (at_builtin; refine wpl_gen 31 4 Tryd.underlying31 (.bool false) 1 1 info_bool rfl (by decide) rfl _ _ rfl w.heap.size (.slice (some ⟨w.heap.size, 0, none⟩) 1 1) 1 [.bool false] rfl HO.out (some ⟨g, o, none⟩) c m (boolV b m) rfl (by rw [boolV_len]; simp) HAT.out HV.out (by omega) (by unfold maxLen; omega) (by simp) ?_)
  intro v4 w4 hown4 _ hbw4
  have HW4 : w4.ownsRow w.heap.size 4 1 v4 (m + 1) (boolV (lf b) (m + 1)) := by
    have := hown4.out
    rw [Nat.add_comm 1 m] at this
    rw [HL.out]
    exact this
  obtain ⟨C, c', rfl, hs, hc'⟩ := own_slice HW4
  have HS := Lib.hid hs
  have G4 := Lib.hid (hbw4 w G0.out)
  clear hown4 hbw4 HW4 hs HO HAT HV HL
  go_wp2_with fail
  go_ret
  exact ⟨C, c', rfl, hc', HS, G4.out⟩
theorem rleft_n (A : Option Addr) (n c : Nat) (b : Nat → Bool) (h1 : 1 ≤ n) (h8 : n ≤ 8) (hc : n ≤ c) (w : World) (h : Bs w A b n) : Calls Tryd.prog 20 #[.slice A n c] w fun e w' => ∃ C c', e = .returned (.slice C n c') ∧ n ≤ c' ∧ Hid (Bs w' C (lf b) n) ∧ Below w.heap.size w w' := by
  obtain ⟨m, rfl⟩ : ∃ m, n = m + 1 := ⟨n - 1, by omega⟩
  exact rleft_any A m c b (by omega) hc w h
end Go.Proofs.YtibpgcdaommjeaaDoor
