/-
  Words: words.Do.
-/
import Derived.Test.YtibpgcdaommjeaaGreatDoorWorE
namespace Go.Proofs.YtibpgcdaommjeaaGreatDoor.Wds
open Go.RowKit

theorem bw_dn {B : Nat} {a w : World} (h : Below B a w) (n : Nat) : Below B a (w.drewN n) := ⟨h.os, h.tape, h.output, h.size, h.block⟩
/-- A function value is entered as it stands. -/
def Enters (fid : Nat) : Prop := ∀ (args : Array Value) (w : World), Sem.run Tryz.prog (callFunc fid args) w = .ok (.enter fid args) w
/-- What an operation yields, whole, and as a word. -/
def rawF (op : Int) (xs : List Int) (n : Int) : Int :=
  if op = 15 then n else if op = 16 then -(nth xs 0) - 1 else if op = 17 then bits .and .i64 (nth xs 0) (nth xs 1) else if op = 18 then bits .or .i64 (nth xs 0) (nth xs 1) else if op = 19 then bits .xor .i64 (nth xs 0) (nth xs 1)
  else if op = 20 then nth xs 0 + nth xs 1 else if op = 21 then nth xs 0 * nth xs 1 else if op = 22 then ltI (nth xs 0) (nth xs 1) else nth xs 0 * 2 ^ n.toNat
def doR (op z M : Int) (xs : List Int) (n : Int) : Int := if wfC op z M xs n = 0 then rawF op xs n % M else 0
theorem wfC_none {op z M n : Int} {xs : List Int} (h : op < 15 ∨ 23 < op) : wfC op z M xs n = 4 ∧ wfA op z M xs = 0 ∧ doR op z M xs n = 0 := by
  have h1 : wfC op z M xs n = 4 := by unfold wfC; rw [if_pos h]
  exact ⟨h1, by unfold wfA; rw [if_pos h], by unfold doR; rw [if_neg (by omega)]⟩
/-- Of a sound operation. -/
theorem wfC_zero {op z M n : Int} {xs : List Int} (h : wfC op z M xs n = 0) : (15 ≤ op ∧ op ≤ 23) ∧ nwB z = false ∧ (xs.length : Int) = arF op ∧ (∀ j, j < xs.length → noB M (nth xs j) = false) ∧ 0 ≤ n ∧ n ≤ moF op M ∧ wfA op z M xs = 0 := by
  unfold wfC at h
  by_cases h1 : op < 15 ∨ 23 < op
  · rw [if_pos h1] at h; omega
  · rw [if_neg h1] at h
    by_cases h2 : nwB z = true
    · rw [if_pos h2] at h; omega
    · rw [if_neg h2] at h
      by_cases h3 : (xs.length : Int) ≠ arF op
      · rw [if_pos h3] at h; omega
      · rw [if_neg h3] at h
        by_cases h4 : fsW M xs < xs.length
        · rw [if_pos h4] at h; omega
        · rw [if_neg h4] at h
          by_cases h5 : n < 0 ∨ moF op M < n
          · rw [if_pos h5] at h; omega
          · exact ⟨by omega, by simpa using h2, by simpa using h3, fsW_not h4, by omega, by omega, by unfold wfA; rw [if_neg h1, if_neg h2, if_neg h3, if_neg h4]⟩
theorem noB_bd {M x : Int} (h : noB M x = false) : 0 ≤ x ∧ x < M := by
  unfold noB at h
  simp at h
  omega
set_option maxRecDepth 100000 in
set_option maxHeartbeats 2000000 in
theorem do_none (op z M n : Int) (xs : List Int) (A : Option Addr) (c : Nat) (hop : op < 15 ∨ 23 < op) (hwf : (Lit.int .i64 op).wf = true) (w : World) :
    Calls Tryz.prog 5 #[.int .i64 op, .int .i64 z, .slice A xs.length c, .int .i64 n] w fun e w' => e = .returned (.tuple #[.int .i64 (doR op z M xs n), .agg #[.int .i64 (wfC op z M xs n), .int .i64 (wfA op z M xs)]]) ∧ Below w.heap.size w w' := by
  obtain ⟨e1, e2, e3⟩ := wfC_none (z := z) (M := M) (n := n) (xs := xs) hop
  rw [e1, e2, e3]
  have HN := Lib.hid (ops_none hop)
  have HW := Lib.hid hwf
  clear e1 e2 e3 hop hwf
  generalize xs.length = L at *
  have R0 := Lib.hid (HB.new w 28 #[.int .i64 0, .int .i64 0])
  go_enter Tryz.func5, Tryz.ntmps5
  go_wp2_with fail
  refine (operations_any _).mono ?_
  rintro e w1 ⟨g, rfl, ho, hb⟩
  obtain ⟨v, hr⟩ := nofun_op ho.out op HW.out HN.out
  have R1 := Lib.hid (R0.out.below hb)
  have G1 := Lib.hid (bw_below (by simp) (new_below w (.cells #[.int .i64 0, .int .i64 0] 28)) hb)
  obtain ⟨r0, r1, r2, r3⟩ := R1.out.two
  clear hb ho
  go_wp2_with fail
  exact bodyPost_ret (v := .tuple #[.int .i64 0, .agg #[.int .i64 4, .int .i64 0]]) (by simp [results, Tryz.results5, go_sem, r0, r1]) rfl ⟨rfl, (G1.out.setCell (Nat.le_refl _) _).setCell (Nat.le_refl _) _⟩
set_option maxRecDepth 100000 in
set_option maxHeartbeats 4000000 in
/-- An operation of the table, given what its function yields. -/
theorem do_some (op : Nat) (h1 : 15 ≤ op) (h2 : op ≤ 23) (f : Nat) (hD : opsD.atKey (.int .i64 op) .nil = .lit (.int .i64 f)) (hH : Go.Maps.has opsD (.int .i64 op) = true) (hf : Enters f) (z M n : Int) (xs : List Int) (A : Option Addr) (c : Nat) (hz : nwB z = false → Wb z M) (hl : xs.length ≤ maxLen) (w : World) (h : Is w A xs) (ht : TabW w)
    (HC : wfC op z M xs n = 0 → ∀ W, Below w.heap.size w W → Calls Tryz.prog f #[.slice A xs.length c, .int .i64 n] W fun e w' => e = .returned (.int .i64 (rawF op xs n)) ∧ Below W.heap.size W w') :
    Calls Tryz.prog 5 #[.int .i64 op, .int .i64 z, .slice A xs.length c, .int .i64 n] w fun e w' => e = .returned (.tuple #[.int .i64 (doR op z M xs n), .agg #[.int .i64 (wfC op z M xs n), .int .i64 (wfA op z M xs)]]) ∧ Below w.heap.size w w' := by
  have hwf : (Lit.int .i64 (op : Int)).wf = true := by
    have : op = 15 ∨ op = 16 ∨ op = 17 ∨ op = 18 ∨ op = 19 ∨ op = 20 ∨ op = 21 ∨ op = 22 ∨ op = 23 := by omega
    rcases this with rfl | rfl | rfl | rfl | rfl | rfl | rfl | rfl | rfl <;> rfl
  have R0 := Lib.hid (HB.new w 28 #[.int .i64 0, .int .i64 0])
  have HX := Lib.hid (fun (W : World) (hW : Below w.heap.size w W) => wrong_any op h1 h2 z M n xs A c hz hl W (h.below hW) (ht.below hW))
  have HO := Lib.hid (fun (W : World) g n' (ho : W.ownsMap Tryz.prog 3 fnElem g n' opsD) => fun_op ho op hwf f hD hH)
  have HE := Lib.hid hf
  by_cases hc : wfC op z M xs n = 0
  · have HV := Lib.hid (HC hc)
    obtain ⟨o1, o2, o3, o4, o5, o6, ha⟩ := wfC_zero hc
    have hM := hz o2
    have HM := Lib.hid (fun W => greatest_any z M hM W)
    obtain ⟨k, hk, _, k8, hM2⟩ := wb_pow hM
    have HR : Hid (bits .and .i64 (rawF op xs n) (M - 1) = doR op z M xs n) := Lib.hid (by rw [doR, if_pos hc, hM2, and_mask _ k k8])
    have HX0 : Hid (∀ W, Below w.heap.size w W → Calls Tryz.prog 10 #[.int .i64 op, .int .i64 z, .slice A xs.length c, .int .i64 n] W fun e w' => e = .returned (.agg #[.int .i64 0, .int .i64 0]) ∧ Below W.heap.size W w') := Lib.hid (fun W hW => by
      have := HX.out W hW
      rw [hc, ha] at this
      exact this)
    rw [hc, ha]
    generalize doR op z M xs n = R at *
    generalize rawF op xs n = V at *
    clear hwf hD hH hf hz h ht HC HX hc o1 o2 o3 o4 o5 o6 ha hM hk k8 hM2 hl
    generalize xs.length = L at *
    go_enter Tryz.func5, Tryz.ntmps5
    go_wp2_with fail
    refine (operations_any _).mono ?_
    rintro e w1 ⟨g, rfl, ho, hb⟩
    have hr := HO.out w1 g 9 ho.out
    have R1 := Lib.hid (R0.out.below hb)
    have G1 := Lib.hid (bw_below (by simp) (new_below w (.cells #[.int .i64 0, .int .i64 0] 28)) hb)
    clear hb ho HO R0
    go_wp2_with fail
    refine (HX0.out _ G1.out).mono ?_
    rintro e w2 ⟨rfl, hb⟩
    have R2 := Lib.hid (R1.out.below hb)
    have G2 := Lib.hid (bw_below (Nat.le_refl _) G1.out hb)
    clear hb R1 G1 hr
    go_wp2_with fail
    rw [HE.out, Oper.upon_enter]
    refine (HV.out _ (G2.out.alloc G2.out.size _)).mono ?_
    rintro e w3 ⟨rfl, hb⟩
    have R3 := Lib.hid ((R2.out.alloc (.cells #[.int .i64 0, .int .i64 0] 28)).below hb)
    have G3 := Lib.hid (bw_below (Nat.le_refl _) (G2.out.alloc G2.out.size (.cells #[.int .i64 0, .int .i64 0] 28)) hb)
    obtain ⟨r0, r1, r2, r3⟩ := R3.out.two
    clear hb R2 G2
    go_wp2_with fail
    refine (HM.out _).mono ?_
    rintro e w4 ⟨rfl, rfl⟩
    go_wp2_with fail
    obtain ⟨s0, s1, _, _⟩ := (hb_set2 (n := .int .i64 0) (d := .int .i64 0) R3.out).two
    exact bodyPost_ret (v := .tuple #[.int .i64 R, .agg #[.int .i64 0, .int .i64 0]]) (by simp [results, Tryz.results5, go_sem, HR.out, s0, s1]) rfl ⟨rfl, (G3.out.setCell (Nat.le_refl _) _).setCell (Nat.le_refl _) _⟩
  · have HR : Hid (doR op z M xs n = 0) := Lib.hid (by rw [doR, if_neg hc])
    rw [HR.out]
    generalize wfA op z M xs = a at *
    generalize hcg : wfC op z M xs n = C at *
    have d1 : (C == 0) = false := by simpa using hc
    have hcn : C ≠ 0 := hc
    clear hwf hD hH hf hz h ht HC hl hcg hc HR
    generalize xs.length = L at *
    go_enter Tryz.func5, Tryz.ntmps5
    go_wp2_with fail
    refine (operations_any _).mono ?_
    rintro e w1 ⟨g, rfl, ho, hb⟩
    have hr := HO.out w1 g 9 ho.out
    have R1 := Lib.hid (R0.out.below hb)
    have G1 := Lib.hid (bw_below (by simp) (new_below w (.cells #[.int .i64 0, .int .i64 0] 28)) hb)
    clear hb ho HO R0
    go_wp2_with fail
    refine (HX.out _ G1.out).mono ?_
    rintro e w2 ⟨rfl, hb⟩
    have R2 := Lib.hid (R1.out.below hb)
    have G2 := Lib.hid (bw_below (Nat.le_refl _) G1.out hb)
    obtain ⟨r0, r1, r2, r3⟩ := R2.out.two
    have rl := R2.out.lt
    have R3 := Lib.hid (R2.out.alloc (.cells #[.int .i64 C, .int .i64 a] 28))
    clear hb R1 G1 hr
    go_wp2_with fail
    go_region_with fail
    go_wp2_with fail
    have R4 := (hb_set2 (n := .int .i64 C) (d := .int .i64 a) R2.out).alloc (.cells #[.int .i64 C, .int .i64 a] 28)
    obtain ⟨s0, s1, _, _⟩ := R4.two
    exact bodyPost_ret (v := .tuple #[.int .i64 0, .agg #[.int .i64 C, .int .i64 a]]) (by simp [results, Tryz.results5, go_sem, s0, s1]) rfl ⟨rfl, bw_dn (((G2.out.setCell (Nat.le_refl _) _).setCell (Nat.le_refl _) _).alloc (by simp; exact G2.out.size) _) 1⟩
end Go.Proofs.YtibpgcdaommjeaaGreatDoor.Wds
