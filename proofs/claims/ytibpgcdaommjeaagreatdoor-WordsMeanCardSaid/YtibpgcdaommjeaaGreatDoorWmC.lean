/-
  Words and meanings: the law WordsMean.
-/
import Derived.Test.YtibpgcdaommjeaaGreatDoorWmB
import Derived.Test.YtibpgcdaommjeaaGreatDoorWorJ
namespace Go.Proofs.YtibpgcdaommjeaaGreatDoor.Wds
open Go.RowKit

set_option maxRecDepth 100000 in
theorem two_pow_wrap {k : Nat} (h : k ≤ 8) : IntKind.i64.wrap ((2 : Int) ^ k) = (2 : Int) ^ k := by
  have h8 : (2 : Nat) ^ k ≤ 2 ^ 8 := Nat.pow_le_pow_right (by decide) h
  have h9 : (2 : Int) ^ k ≤ 256 := by exact_mod_cast h8
  have h0 : 0 ≤ (2 : Int) ^ k := Int.pow_nonneg (by decide)
  exact IntWalk.i64_in _ (by omega)
/-- The ask in memory. -/
theorem aw_of {W : World} {g gk kl : Nat} {op k a b n : Int} {ks : List Int} (hl : ks.length = kl) (h8 : kl ≤ 2)
    (hg : HB W g 26 #[.int .i64 15, .slice none 0 0, .int .i64 a, .int .i64 k, .string ⟨#[]⟩, .int .i64 15, .slice none 0 0, .int .i64 b, .int .i64 k, .string ⟨#[]⟩, .int .i64 op, .slice (some ⟨gk, 0, none⟩) kl kl, .int .i64 n, .int .i64 0, .string ⟨#[]⟩]) (hk : Is W (some ⟨gk, 0, none⟩) ks) :
    AwAt W [] [wN a k, wN b k, ⟨op, ks, n, 0, ⟨#[]⟩⟩] [] [] none (some ⟨g, 0, none⟩) none none 0 3 0 0 := by
  subst hl
  have hw : ∀ (x : Int) (o : Nat), W.cell? ⟨g, o, none⟩ = some (.int .i64 15) → W.cell? ⟨g, o + 1, none⟩ = some (.slice none 0 0) → W.cell? ⟨g, o + 2, none⟩ = some (.int .i64 x) → W.cell? ⟨g, o + 3, none⟩ = some (.int .i64 k) → W.cell? ⟨g, o + 4, none⟩ = some (.string ⟨#[]⟩) → (wN x k).In W g o :=
    fun x o h0 h1 h2 h3 h4 => ⟨h0, h2, h3, h4, by simp [wN, ByteArray.size], none, 0, h1, Nat.le_refl _, by unfold maxLen; omega, is_nil _ _⟩
  refine ⟨by simp, by unfold maxLen; omega, by simp, by unfold maxLen; omega, by simp, trivial, by simp, by unfold maxLen; omega, fun z => absurd z (by simp), fun _ => ⟨g, 0, rfl, hg.lt, fun i q hq => ?_⟩, is_nil _ _, fun z => absurd z (by simp), fun q hq => absurd hq (by simp)⟩
  rcases i with _ | _ | _ | i
  · simp only [List.getElem?_cons_zero, Option.some.injEq] at hq
    subst hq
    exact hw a 0 (hg.cell 0) (hg.cell 1) (hg.cell 2) (hg.cell 3) (hg.cell 4)
  · simp only [List.getElem?_cons_succ, List.getElem?_cons_zero, Option.some.injEq] at hq
    subst hq
    exact hw b 5 (hg.cell 5) (hg.cell 6) (hg.cell 7) (hg.cell 8) (hg.cell 9)
  · simp only [List.getElem?_cons_succ, List.getElem?_cons_zero, Option.some.injEq] at hq
    subst hq
    exact ⟨hg.cell 10, hg.cell 12, hg.cell 13, hg.cell 14, by simp [ByteArray.size], some ⟨gk, 0, none⟩, ks.length, hg.cell 11, Nat.le_refl _, by unfold maxLen; omega, hk⟩
  · simp at hq
theorem ask_two {op k a b n : Int} (h : op ≠ 16) (h2 : op ≠ 23) : askN op k a b n = [wN a k, wN b k, ⟨op, [0, 1], 0, 0, ⟨#[]⟩⟩] := by
  unfold askN xN
  rw [if_neg (by omega), if_neg h2]
theorem ask_16 {k a b n : Int} : askN 16 k a b n = [wN a k, wN b k, ⟨16, [0], 0, 0, ⟨#[]⟩⟩] := rfl
theorem ask_23 {k a b n : Int} : askN 23 k a b n = [wN a k, wN b k, ⟨23, [0], n, 0, ⟨#[]⟩⟩] := rfl
theorem is_two_hb {W : World} {g : Nat} {a b : Int} (h : HB W g 3 #[.int .i64 a, .int .i64 b]) : Is W (some ⟨g, 0, none⟩) [a, b] :=
  is_row h (fun k hk => by
    have : k = 0 ∨ k = 1 := by simp at hk; omega
    rcases this with rfl | rfl <;> rfl)
theorem is_one_hb {W : World} {g : Nat} {a : Int} (h : HB W g 3 #[.int .i64 a]) : Is W (some ⟨g, 0, none⟩) [a] :=
  is_row h (fun k hk => by
    have : k = 0 := by simp at hk; omega
    rcases this with rfl; rfl)
theorem get_two {ps : List (Vl × Value)} {x y z : Vl} (h : ps.map (·.1) = [x, y, z]) : ∃ p, ps[2]? = some p ∧ p.1 = z := by
  have := congrArg (·[2]?) h
  simp only [List.getElem?_map, List.getElem?_cons_succ, List.getElem?_cons_zero] at this
  obtain ⟨p, h1, h2⟩ := Option.map_eq_some_iff.1 this
  exact ⟨p, h1, h2⟩
set_option maxRecDepth 100000 in
set_option maxHeartbeats 8000000 in
theorem wm_bad1 (op z a b n : Int) (h : z < 1 ∨ 8 < z) (w : World) (ht : TabW w) : Calls Tryz.prog 3 #[.int .i64 op, .int .i64 z, .int .i64 a, .int .i64 b, .int .i64 n] w fun e w' => e = .returned (.bool true) ∧ Below w.heap.size w w' := by
  have end_ : ∀ (d1 : Bool) (d2 : Bool), decide (z < 1) = d1 → decide (8 < z) = d2 → (d1 || d2) = true := fun d1 d2 h1 h2 => by
    subst h1 h2; simpa using h
  cases d1 : decide (z < 1) with
  | true =>
    clear end_ h
    go_enter Tryz.func3, Tryz.ntmps3
    go_wp2_with fail
    refine (fact_any w ht).mono ?_
    rintro e w1 ⟨rfl, hb⟩
    have G1 := Lib.hid hb
    clear hb
    go_wp2_with fail
    go_ret
    exact ⟨rfl, G1.out⟩
  | false =>
    have d2 : decide (8 < z) = true := by simpa using end_ _ _ d1 rfl
    clear end_ h
    go_enter Tryz.func3, Tryz.ntmps3
    go_wp2_with fail
    refine (fact_any w ht).mono ?_
    rintro e w1 ⟨rfl, hb⟩
    have G1 := Lib.hid hb
    clear hb
    go_wp2_with fail
    go_ret
    exact ⟨rfl, G1.out⟩
set_option maxRecDepth 100000 in
set_option maxHeartbeats 8000000 in
theorem wm_bad2 (k : Nat) (op a b n : Int) (k1 : 1 ≤ k) (k8 : k ≤ 8) (h : a < 0 ∨ b < 0 ∨ 2 ^ k ≤ a ∨ 2 ^ k ≤ b ∨ op ≤ 15 ∨ 23 < op) (w : World) (ht : TabW w) : Calls Tryz.prog 3 #[.int .i64 op, .int .i64 (k : Int), .int .i64 a, .int .i64 b, .int .i64 n] w fun e w' => e = .returned (.bool true) ∧ Below w.heap.size w w' := by
  have d1 : decide ((k : Int) < 1) = false := by simp; omega
  have d2 : decide (8 < (k : Int)) = false := by simp; omega
  have q0 := two_pow_wrap k8
  have q2 : min k 64 = k := by omega
  by_cases e0 : a < 0
  · have f0 : decide (a < 0) = true := by simpa using e0
    clear h e0
    go_enter Tryz.func3, Tryz.ntmps3
    go_wp2_with fail
    refine (fact_any w ht).mono ?_
    rintro e w1 ⟨rfl, hb⟩
    have G1 := Lib.hid hb
    clear hb
    go_wp2_with fail
    go_ret
    exact ⟨rfl, G1.out⟩
  have f0 : decide (a < 0) = false := by simpa using e0
  by_cases e1 : b < 0
  · have f1 : decide (b < 0) = true := by simpa using e1
    clear h e1
    go_enter Tryz.func3, Tryz.ntmps3
    go_wp2_with fail
    refine (fact_any w ht).mono ?_
    rintro e w1 ⟨rfl, hb⟩
    have G1 := Lib.hid hb
    clear hb
    go_wp2_with fail
    go_ret
    exact ⟨rfl, G1.out⟩
  have f1 : decide (b < 0) = false := by simpa using e1
  by_cases e2 : (2 : Int) ^ k ≤ a
  · have f2 : decide ((2 : Int) ^ k ≤ a) = true := by simpa using e2
    clear h e2
    go_enter Tryz.func3, Tryz.ntmps3
    go_wp2_with fail
    refine (fact_any w ht).mono ?_
    rintro e w1 ⟨rfl, hb⟩
    have G1 := Lib.hid hb
    clear hb
    go_wp2_with fail
    go_ret
    exact ⟨rfl, G1.out⟩
  have f2 : decide ((2 : Int) ^ k ≤ a) = false := by simpa using e2
  by_cases e3 : (2 : Int) ^ k ≤ b
  · have f3 : decide ((2 : Int) ^ k ≤ b) = true := by simpa using e3
    clear h e3
    go_enter Tryz.func3, Tryz.ntmps3
    go_wp2_with fail
    refine (fact_any w ht).mono ?_
    rintro e w1 ⟨rfl, hb⟩
    have G1 := Lib.hid hb
    clear hb
    go_wp2_with fail
    go_ret
    exact ⟨rfl, G1.out⟩
  have f3 : decide ((2 : Int) ^ k ≤ b) = false := by simpa using e3
  by_cases e4 : op ≤ 15
  · have f4 : decide (op ≤ 15) = true := by simpa using e4
    clear h e4
    go_enter Tryz.func3, Tryz.ntmps3
    go_wp2_with fail
    refine (fact_any w ht).mono ?_
    rintro e w1 ⟨rfl, hb⟩
    have G1 := Lib.hid hb
    clear hb
    go_wp2_with fail
    go_ret
    exact ⟨rfl, G1.out⟩
  have f4 : decide (op ≤ 15) = false := by simpa using e4
  have f5 : decide (23 < op) = true := by
    have : 23 < op := by
      rcases h with h | h | h | h | h | h
      · exact absurd h e0
      · exact absurd h e1
      · exact absurd h e2
      · exact absurd h e3
      · exact absurd h e4
      · exact h
    simpa using this
  clear h e0 e1 e2 e3 e4
  go_enter Tryz.func3, Tryz.ntmps3
  go_wp2_with fail
  refine (fact_any w ht).mono ?_
  rintro e w1 ⟨rfl, hb⟩
  have G1 := Lib.hid hb
  clear hb
  go_wp2_with fail
  go_ret
  exact ⟨rfl, G1.out⟩
set_option maxRecDepth 100000 in
set_option maxHeartbeats 8000000 in
theorem wm_two (op : Int) (o1 : 17 ≤ op) (o2 : op ≤ 22) (k a b : Nat) (n M : Int) (h : Wb k M) (hM : M = ((2 ^ k : Nat) : Int)) (ha : a < 2 ^ k) (hb : b < 2 ^ k) (w : World) (ht : TabW w) : Calls Tryz.prog 3 #[.int .i64 op, .int .i64 (k : Int), .int .i64 (a : Int), .int .i64 (b : Int), .int .i64 n] w fun e w' => e = .returned (.bool true) ∧ Below w.heap.size w w' := by
  obtain ⟨k', hk', k1, k8, hpM⟩ := wb_pow h
  obtain rfl : k = k' := by omega
  have hp : ((2 ^ k : Nat) : Int) = (2 : Int) ^ k := by push_cast; rfl
  have a2 : (a : Int) < 2 ^ (k : Int).toNat := by rw [Int.toNat_natCast, ← hp]; omega
  have b2 : (b : Int) < 2 ^ (k : Int).toNat := by rw [Int.toNat_natCast, ← hp]; omega
  have hbn : badN op n = false := by unfold badN; simp; omega
  have hwfo : (Lit.int .i64 op).wf = true := by
    have : op = 17 ∨ op = 18 ∨ op = 19 ∨ op = 20 ∨ op = 21 ∨ op = 22 := by omega
    rcases this with rfl | rfl | rfl | rfl | rfl | rfl <;> rfl
  have wA := (wf_two (op := op) h (by omega) (by omega) (by omega : (a : Int) < M) (by omega) (by omega : (b : Int) < M)).2
  obtain ⟨w1, w2⟩ := wm_do (n := n) h hM k8 ha hb (by omega) (by omega) hbn
  rw [if_neg (by omega), if_neg (by omega)] at w1 w2
  have hask := ask_ok (op := op) (n := n) (k := k) (a := a) (b := b) (by omega) (by omega) (by omega) a2 (by omega) b2 (by omega) (by omega) hbn
  rw [ask_two (by omega) (by omega)] at hask
  have HX := Lib.hid (fun W (g : Nat) (hW : Below w.heap.size w W) (hs : Is W (some ⟨g, 0, none⟩) [(a : Int), (b : Int)]) => do_any op k M 0 [(a : Int), (b : Int)] (some ⟨g, 0, none⟩) 2 hwfo (fun _ => h) (by unfold maxLen; simp) W hs (ht.below hW))
  rw [w1, w2, wA, show ([(a : Int), (b : Int)] : List Int).length = 2 from rfl] at HX
  have HV := Lib.hid (fun W (g gk : Nat) (hg : HB W g 26 #[.int .i64 15, .slice none 0 0, .int .i64 (a : Int), .int .i64 (k : Int), .string ⟨#[]⟩, .int .i64 15, .slice none 0 0, .int .i64 (b : Int), .int .i64 (k : Int), .string ⟨#[]⟩, .int .i64 op, .slice (some ⟨gk, 0, none⟩) 2 2, .int .i64 0, .int .i64 0, .string ⟨#[]⟩]) (hk : Is W (some ⟨gk, 0, none⟩) [0, 1]) =>
    (show Calls Tryz.prog 6 #[.agg #[.slice none 0 0, .slice (some ⟨g, 0, none⟩) 3 3, .slice none 0 0], .agg #[.slice none 0 0]] W (ValsQ (mvR [] [wN a k, wN b k, ⟨op, [0, 1], 0, 0, ⟨#[]⟩⟩] [] []) W) from value_any _ _ _ _ _ _ _ _ _ _ _ _ W (aw_of (kl := 2) rfl (by omega) hg hk)))
  rw [hask] at HV
  have HT := Lib.hid ht
  have d1 : decide ((k : Int) < 1) = false := by simp; omega
  have d2 : decide (8 < (k : Int)) = false := by simp; omega
  have f0 : decide ((a : Int) < 0) = false := by simp
  have f1 : decide ((b : Int) < 0) = false := by simp
  have f2 : decide ((2 : Int) ^ k ≤ (a : Int)) = false := by rw [← hp]; simp only [decide_eq_false_iff_not]; omega
  have f3 : decide ((2 : Int) ^ k ≤ (b : Int)) = false := by rw [← hp]; simp only [decide_eq_false_iff_not]; omega
  have q0 := two_pow_wrap k8
  have q2 : min k 64 = k := by omega
  have f4 : decide (op ≤ 15) = false := by simp; omega
  have f5 : decide (23 < op) = false := by simp; omega
  have o3 : (op == 16) = false := by simp; omega
  have o4 : (op == 23) = false := by simp; omega
  clear h hM ha hb k1 hk' hp hpM a2 b2 hask w1 w2 wA ht hbn o1 o2 hwfo
  generalize wmF op k a b n = R at *
  go_enter Tryz.func3, Tryz.ntmps3
  go_wp2_with fail
  refine (fact_any w HT.out).mono ?_
  rintro e w1 ⟨rfl, hb⟩
  have G1 := Lib.hid hb
  clear hb
  go_wp2_with fail
  have GC := Lib.hid (show Below w.heap.size w (((w1.alloc (.cells #[.int .i64 0, .int .i64 1] 3)).alloc (.cells #[.int .i64 op, .slice (some ⟨w1.heap.size, 0, none⟩) 2 2, .int .i64 0, .int .i64 0, .string ⟨#[]⟩] 26)).alloc (.cells #[.int .i64 (a : Int), .int .i64 (b : Int)] 3)) from bw_below (Nat.le_refl _) G1.out (by go_grown))
  have XB := Lib.hid (show HB (((w1.alloc (.cells #[.int .i64 0, .int .i64 1] 3)).alloc (.cells #[.int .i64 op, .slice (some ⟨w1.heap.size, 0, none⟩) 2 2, .int .i64 0, .int .i64 0, .string ⟨#[]⟩] 26)).alloc (.cells #[.int .i64 (a : Int), .int .i64 (b : Int)] 3)) (w1.heap.size + 1) 26 #[.int .i64 op, .slice (some ⟨w1.heap.size, 0, none⟩) 2 2, .int .i64 0, .int .i64 0, .string ⟨#[]⟩] from ((HB.new1 w1 (.cells #[.int .i64 0, .int .i64 1] 3) 26 #[.int .i64 op, .slice (some ⟨w1.heap.size, 0, none⟩) 2 2, .int .i64 0, .int .i64 0, .string ⟨#[]⟩]).alloc (.cells #[.int .i64 (a : Int), .int .i64 (b : Int)] 3)))
  have KB := Lib.hid (show Is (((w1.alloc (.cells #[.int .i64 0, .int .i64 1] 3)).alloc (.cells #[.int .i64 op, .slice (some ⟨w1.heap.size, 0, none⟩) 2 2, .int .i64 0, .int .i64 0, .string ⟨#[]⟩] 26)).alloc (.cells #[.int .i64 (a : Int), .int .i64 (b : Int)] 3)) (some ⟨w1.heap.size, 0, none⟩) [0, 1] from is_two_hb (((HB.new w1 3 #[.int .i64 0, .int .i64 1]).alloc (.cells #[.int .i64 op, .slice (some ⟨w1.heap.size, 0, none⟩) 2 2, .int .i64 0, .int .i64 0, .string ⟨#[]⟩] 26)).alloc (.cells #[.int .i64 (a : Int), .int .i64 (b : Int)] 3)))
  have IB := Lib.hid (show Is (((w1.alloc (.cells #[.int .i64 0, .int .i64 1] 3)).alloc (.cells #[.int .i64 op, .slice (some ⟨w1.heap.size, 0, none⟩) 2 2, .int .i64 0, .int .i64 0, .string ⟨#[]⟩] 26)).alloc (.cells #[.int .i64 (a : Int), .int .i64 (b : Int)] 3)) (some ⟨w1.heap.size + 1 + 1, 0, none⟩) [(a : Int), (b : Int)] from is_two_hb (HB.new2 w1 _ _ 3 #[.int .i64 (a : Int), .int .i64 (b : Int)]))
  refine (HX.out _ _ GC.out IB.out).mono ?_
  rintro e w2 ⟨rfl, hb⟩
  have G2 := Lib.hid (bw_below (Nat.le_refl _) GC.out hb)
  have N2 := Lib.hid (new_below w2 (.cells #[.int .i64 0, .int .i64 0] 28))
  have X2 := Lib.hid ((XB.out.below hb).below N2.out)
  have K2 := Lib.hid ((KB.out.below hb).below N2.out)
  have F2 := Lib.hid (HB.new w2 28 #[.int .i64 0, .int .i64 0])
  have G3 := Lib.hid (G2.out.alloc G2.out.size (.cells #[.int .i64 0, .int .i64 0] 28))
  obtain ⟨x0, x1, x2, x3, x4⟩ := X2.out.five
  have xl := X2.out.lt
  clear hb GC XB KB IB G1 G2 N2
  go_wp2_with fail
  have N3 := Lib.hid (show Below ((w2.alloc (.cells #[.int .i64 0, .int .i64 0] 28))).heap.size ((w2.alloc (.cells #[.int .i64 0, .int .i64 0] 28))) (((w2.alloc (.cells #[.int .i64 0, .int .i64 0] 28))).alloc (.cells #[.int .i64 15, .slice none 0 0, .int .i64 (a : Int), .int .i64 (k : Int), .string ⟨#[]⟩, .int .i64 15, .slice none 0 0, .int .i64 (b : Int), .int .i64 (k : Int), .string ⟨#[]⟩, .int .i64 op, .slice (some ⟨w1.heap.size, 0, none⟩) 2 2, .int .i64 0, .int .i64 0, .string ⟨#[]⟩] 26)) from new_below _ _)
  have HBN := Lib.hid (HB.new1 w2 (.cells #[.int .i64 0, .int .i64 0] 28) 26 #[.int .i64 15, .slice none 0 0, .int .i64 (a : Int), .int .i64 (k : Int), .string ⟨#[]⟩, .int .i64 15, .slice none 0 0, .int .i64 (b : Int), .int .i64 (k : Int), .string ⟨#[]⟩, .int .i64 op, .slice (some ⟨w1.heap.size, 0, none⟩) 2 2, .int .i64 0, .int .i64 0, .string ⟨#[]⟩])
  refine (HV.out _ _ _ HBN.out (K2.out.below N3.out)).mono ?_
  rintro e w3 ⟨A3, c3, ps, he, hvm, hps, hb⟩
  obtain ⟨p, hp2, hpv⟩ := get_two hps
  obtain ⟨gv, rfl, lv, v0, v1, _, _⟩ := vm_at hvm hp2
  rw [hpv] at v0 v1
  have v0' : w3.cell? ⟨gv, 8, none⟩ = some (.int .i64 R) := v0
  have v1' : w3.cell? ⟨gv, 9, none⟩ = some (.int .i64 1) := v1
  have he' : e = .returned (.tuple #[.slice (some ⟨gv, 0, none⟩) 3 c3, .agg #[.int .i64 0, .int .i64 0]]) := he
  subst he'
  have F3 := Lib.hid ((F2.out.below N3.out).below hb)
  have G5 := Lib.hid (bw_below (Nat.le_refl _) (bw_below (Nat.le_refl _) G3.out N3.out) hb)
  obtain ⟨y0, y1, _, _⟩ := F3.out.two
  have yl := F3.out.lt
  clear hb HBN N3 X2 K2 F2 G3 x0 x1 x2 x3 x4 xl v0 v1 hpv hp2 hps hvm he
  go_wp2_with fail
  go_ret
  exact ⟨rfl, G5.out.alloc G5.out.size _⟩
set_option maxRecDepth 100000 in
set_option maxHeartbeats 8000000 in
theorem wm_16 (k a b : Nat) (n M : Int) (h : Wb k M) (hM : M = ((2 ^ k : Nat) : Int)) (ha : a < 2 ^ k) (hb : b < 2 ^ k) (w : World) (ht : TabW w) : Calls Tryz.prog 3 #[.int .i64 16, .int .i64 (k : Int), .int .i64 (a : Int), .int .i64 (b : Int), .int .i64 n] w fun e w' => e = .returned (.bool true) ∧ Below w.heap.size w w' := by
  obtain ⟨k', hk', k1, k8, hpM⟩ := wb_pow h
  obtain rfl : k = k' := by omega
  have hp : ((2 ^ k : Nat) : Int) = (2 : Int) ^ k := by push_cast; rfl
  have a2 : (a : Int) < 2 ^ (k : Int).toNat := by rw [Int.toNat_natCast, ← hp]; omega
  have b2 : (b : Int) < 2 ^ (k : Int).toNat := by rw [Int.toNat_natCast, ← hp]; omega
  have wA := (wf_one (op := 16) (n := 0) h (.inl ⟨rfl, rfl⟩) (by omega) (by omega : (a : Int) < M)).2
  obtain ⟨w1, w2⟩ := wm_do (op := 16) (n := n) h hM k8 ha hb (by omega) (by omega) rfl
  have hask := ask_ok (op := 16) (n := n) (k := k) (a := a) (b := b) (by omega) (by omega) (by omega) a2 (by omega) b2 (by omega) (by omega) rfl
  rw [ask_16] at hask
  change wfC 16 k M [(a : Int)] 0 = 0 at w1
  change doR 16 k M [(a : Int)] 0 = wmF 16 k a b n at w2
  have HX := Lib.hid (fun W (g : Nat) (hW : Below w.heap.size w W) (hs : Is W (some ⟨g, 0, none⟩) [(a : Int)]) => do_any 16 k M 0 [(a : Int)] (some ⟨g, 0, none⟩) 1 rfl (fun _ => h) (by unfold maxLen; simp) W hs (ht.below hW))
  rw [w1, w2, wA, show ([(a : Int)] : List Int).length = 1 from rfl] at HX
  have HV := Lib.hid (fun W (g gk : Nat) (hg : HB W g 26 #[.int .i64 15, .slice none 0 0, .int .i64 (a : Int), .int .i64 (k : Int), .string ⟨#[]⟩, .int .i64 15, .slice none 0 0, .int .i64 (b : Int), .int .i64 (k : Int), .string ⟨#[]⟩, .int .i64 16, .slice (some ⟨gk, 0, none⟩) 1 1, .int .i64 0, .int .i64 0, .string ⟨#[]⟩]) (hk : Is W (some ⟨gk, 0, none⟩) [0]) =>
    (show Calls Tryz.prog 6 #[.agg #[.slice none 0 0, .slice (some ⟨g, 0, none⟩) 3 3, .slice none 0 0], .agg #[.slice none 0 0]] W (ValsQ (mvR [] [wN a k, wN b k, ⟨16, [0], 0, 0, ⟨#[]⟩⟩] [] []) W) from value_any _ _ _ _ _ _ _ _ _ _ _ _ W (aw_of (kl := 1) rfl (by omega) hg hk)))
  rw [hask] at HV
  have HT := Lib.hid ht
  have d1 : decide ((k : Int) < 1) = false := by simp; omega
  have d2 : decide (8 < (k : Int)) = false := by simp; omega
  have f0 : decide ((a : Int) < 0) = false := by simp
  have f1 : decide ((b : Int) < 0) = false := by simp
  have f2 : decide ((2 : Int) ^ k ≤ (a : Int)) = false := by rw [← hp]; simp only [decide_eq_false_iff_not]; omega
  have f3 : decide ((2 : Int) ^ k ≤ (b : Int)) = false := by rw [← hp]; simp only [decide_eq_false_iff_not]; omega
  have q0 := two_pow_wrap k8
  have q2 : min k 64 = k := by omega
  clear h hM ha hb k1 hk' hp hpM a2 b2 hask w1 w2 wA ht
  generalize wmF 16 k a b n = R at *
  go_enter Tryz.func3, Tryz.ntmps3
  go_wp2_with fail
  refine (fact_any w HT.out).mono ?_
  rintro e w1 ⟨rfl, hb⟩
  have G1 := Lib.hid hb
  clear hb
  go_wp2_with fail
  have GC := Lib.hid (show Below w.heap.size w (((((w1.alloc (.cells #[.int .i64 0, .int .i64 1] 3)).alloc (.cells #[.int .i64 16, .slice (some ⟨w1.heap.size + 1 + 1 + 1, 0, none⟩) 1 1, .int .i64 0, .int .i64 0, .string ⟨#[]⟩] 26)).alloc (.cells #[.int .i64 (a : Int), .int .i64 (b : Int)] 3)).alloc (.cells #[.int .i64 0] 3)).alloc (.cells #[.int .i64 (a : Int)] 3)) from bw_below (Nat.le_refl _) G1.out (by go_grown))
  have XB := Lib.hid (show HB (((((w1.alloc (.cells #[.int .i64 0, .int .i64 1] 3)).alloc (.cells #[.int .i64 16, .slice (some ⟨w1.heap.size + 1 + 1 + 1, 0, none⟩) 1 1, .int .i64 0, .int .i64 0, .string ⟨#[]⟩] 26)).alloc (.cells #[.int .i64 (a : Int), .int .i64 (b : Int)] 3)).alloc (.cells #[.int .i64 0] 3)).alloc (.cells #[.int .i64 (a : Int)] 3)) (w1.heap.size + 1) 26 #[.int .i64 16, .slice (some ⟨w1.heap.size + 1 + 1 + 1, 0, none⟩) 1 1, .int .i64 0, .int .i64 0, .string ⟨#[]⟩] from ((((HB.new1 w1 (.cells #[.int .i64 0, .int .i64 1] 3) 26 #[.int .i64 16, .slice (some ⟨w1.heap.size + 1 + 1 + 1, 0, none⟩) 1 1, .int .i64 0, .int .i64 0, .string ⟨#[]⟩]).alloc (.cells #[.int .i64 (a : Int), .int .i64 (b : Int)] 3)).alloc (.cells #[.int .i64 0] 3)).alloc (.cells #[.int .i64 (a : Int)] 3)))
  have KB := Lib.hid (show Is (((((w1.alloc (.cells #[.int .i64 0, .int .i64 1] 3)).alloc (.cells #[.int .i64 16, .slice (some ⟨w1.heap.size + 1 + 1 + 1, 0, none⟩) 1 1, .int .i64 0, .int .i64 0, .string ⟨#[]⟩] 26)).alloc (.cells #[.int .i64 (a : Int), .int .i64 (b : Int)] 3)).alloc (.cells #[.int .i64 0] 3)).alloc (.cells #[.int .i64 (a : Int)] 3)) (some ⟨w1.heap.size + 1 + 1 + 1, 0, none⟩) [0] from is_one_hb ((HB.new3 w1 (.cells #[.int .i64 0, .int .i64 1] 3) (.cells #[.int .i64 16, .slice (some ⟨w1.heap.size + 1 + 1 + 1, 0, none⟩) 1 1, .int .i64 0, .int .i64 0, .string ⟨#[]⟩] 26) (.cells #[.int .i64 (a : Int), .int .i64 (b : Int)] 3) 3 #[.int .i64 0]).alloc (.cells #[.int .i64 (a : Int)] 3)))
  have IB := Lib.hid (show Is (((((w1.alloc (.cells #[.int .i64 0, .int .i64 1] 3)).alloc (.cells #[.int .i64 16, .slice (some ⟨w1.heap.size + 1 + 1 + 1, 0, none⟩) 1 1, .int .i64 0, .int .i64 0, .string ⟨#[]⟩] 26)).alloc (.cells #[.int .i64 (a : Int), .int .i64 (b : Int)] 3)).alloc (.cells #[.int .i64 0] 3)).alloc (.cells #[.int .i64 (a : Int)] 3)) (some ⟨w1.heap.size + 1 + 1 + 1 + 1, 0, none⟩) [(a : Int)] from is_one_hb (by simpa using HB.new ((((w1.alloc (.cells #[.int .i64 0, .int .i64 1] 3)).alloc (.cells #[.int .i64 16, .slice (some ⟨w1.heap.size + 1 + 1 + 1, 0, none⟩) 1 1, .int .i64 0, .int .i64 0, .string ⟨#[]⟩] 26)).alloc (.cells #[.int .i64 (a : Int), .int .i64 (b : Int)] 3)).alloc (.cells #[.int .i64 0] 3)) 3 #[.int .i64 (a : Int)]))
  refine (HX.out _ _ GC.out IB.out).mono ?_
  rintro e w2 ⟨rfl, hb⟩
  have G2 := Lib.hid (bw_below (Nat.le_refl _) GC.out hb)
  have N2 := Lib.hid (new_below w2 (.cells #[.int .i64 0, .int .i64 0] 28))
  have X2 := Lib.hid ((XB.out.below hb).below N2.out)
  have K2 := Lib.hid ((KB.out.below hb).below N2.out)
  have F2 := Lib.hid (HB.new w2 28 #[.int .i64 0, .int .i64 0])
  have G3 := Lib.hid (G2.out.alloc G2.out.size (.cells #[.int .i64 0, .int .i64 0] 28))
  obtain ⟨x0, x1, x2, x3, x4⟩ := X2.out.five
  have xl := X2.out.lt
  clear hb GC XB KB IB G1 G2 N2
  go_wp2_with fail
  have N3 := Lib.hid (show Below ((w2.alloc (.cells #[.int .i64 0, .int .i64 0] 28))).heap.size ((w2.alloc (.cells #[.int .i64 0, .int .i64 0] 28))) (((w2.alloc (.cells #[.int .i64 0, .int .i64 0] 28))).alloc (.cells #[.int .i64 15, .slice none 0 0, .int .i64 (a : Int), .int .i64 (k : Int), .string ⟨#[]⟩, .int .i64 15, .slice none 0 0, .int .i64 (b : Int), .int .i64 (k : Int), .string ⟨#[]⟩, .int .i64 16, .slice (some ⟨w1.heap.size + 1 + 1 + 1, 0, none⟩) 1 1, .int .i64 0, .int .i64 0, .string ⟨#[]⟩] 26)) from new_below _ _)
  have HBN := Lib.hid (HB.new1 w2 (.cells #[.int .i64 0, .int .i64 0] 28) 26 #[.int .i64 15, .slice none 0 0, .int .i64 (a : Int), .int .i64 (k : Int), .string ⟨#[]⟩, .int .i64 15, .slice none 0 0, .int .i64 (b : Int), .int .i64 (k : Int), .string ⟨#[]⟩, .int .i64 16, .slice (some ⟨w1.heap.size + 1 + 1 + 1, 0, none⟩) 1 1, .int .i64 0, .int .i64 0, .string ⟨#[]⟩])
  refine (HV.out _ _ _ HBN.out (K2.out.below N3.out)).mono ?_
  rintro e w3 ⟨A3, c3, ps, he, hvm, hps, hb⟩
  obtain ⟨p, hp2, hpv⟩ := get_two hps
  obtain ⟨gv, rfl, lv, v0, v1, _, _⟩ := vm_at hvm hp2
  rw [hpv] at v0 v1
  have v0' : w3.cell? ⟨gv, 8, none⟩ = some (.int .i64 R) := v0
  have v1' : w3.cell? ⟨gv, 9, none⟩ = some (.int .i64 1) := v1
  have he' : e = .returned (.tuple #[.slice (some ⟨gv, 0, none⟩) 3 c3, .agg #[.int .i64 0, .int .i64 0]]) := he
  subst he'
  have F3 := Lib.hid ((F2.out.below N3.out).below hb)
  have G5 := Lib.hid (bw_below (Nat.le_refl _) (bw_below (Nat.le_refl _) G3.out N3.out) hb)
  obtain ⟨y0, y1, _, _⟩ := F3.out.two
  have yl := F3.out.lt
  clear hb HBN N3 X2 K2 F2 G3 x0 x1 x2 x3 x4 xl v0 v1 hpv hp2 hps hvm he
  go_wp2_with fail
  go_ret
  exact ⟨rfl, G5.out.alloc G5.out.size _⟩
set_option maxRecDepth 100000 in
set_option maxHeartbeats 8000000 in
theorem wm_23 (k a b : Nat) (n M : Int) (h : Wb k M) (hM : M = ((2 ^ k : Nat) : Int)) (ha : a < 2 ^ k) (hb : b < 2 ^ k) (hn : badN 23 n = false) (w : World) (ht : TabW w) : Calls Tryz.prog 3 #[.int .i64 23, .int .i64 (k : Int), .int .i64 (a : Int), .int .i64 (b : Int), .int .i64 n] w fun e w' => e = .returned (.bool true) ∧ Below w.heap.size w w' := by
  obtain ⟨k', hk', k1, k8, hpM⟩ := wb_pow h
  obtain rfl : k = k' := by omega
  have hp : ((2 ^ k : Nat) : Int) = (2 : Int) ^ k := by push_cast; rfl
  have a2 : (a : Int) < 2 ^ (k : Int).toNat := by rw [Int.toNat_natCast, ← hp]; omega
  have b2 : (b : Int) < 2 ^ (k : Int).toNat := by rw [Int.toNat_natCast, ← hp]; omega
  have hn8 : 0 ≤ n ∧ n ≤ 8 := by unfold badN at hn; simp at hn; omega
  have wA := (wf_one (op := 23) (n := n) h (.inr ⟨rfl, hn8.1, hn8.2⟩) (by omega) (by omega : (a : Int) < M)).2
  obtain ⟨w1, w2⟩ := wm_do (op := 23) (n := n) h hM k8 ha hb (by omega) (by omega) hn
  have hask := ask_ok (op := 23) (n := n) (k := k) (a := a) (b := b) (by omega) (by omega) (by omega) a2 (by omega) b2 (by omega) (by omega) hn
  rw [ask_23] at hask
  change wfC 23 k M [(a : Int)] n = 0 at w1
  change doR 23 k M [(a : Int)] n = wmF 23 k a b n at w2
  have HX := Lib.hid (fun W (g : Nat) (hW : Below w.heap.size w W) (hs : Is W (some ⟨g, 0, none⟩) [(a : Int)]) => do_any 23 k M n [(a : Int)] (some ⟨g, 0, none⟩) 1 rfl (fun _ => h) (by unfold maxLen; simp) W hs (ht.below hW))
  rw [w1, w2, wA, show ([(a : Int)] : List Int).length = 1 from rfl] at HX
  have HV := Lib.hid (fun W (g gk : Nat) (hg : HB W g 26 #[.int .i64 15, .slice none 0 0, .int .i64 (a : Int), .int .i64 (k : Int), .string ⟨#[]⟩, .int .i64 15, .slice none 0 0, .int .i64 (b : Int), .int .i64 (k : Int), .string ⟨#[]⟩, .int .i64 23, .slice (some ⟨gk, 0, none⟩) 1 1, .int .i64 n, .int .i64 0, .string ⟨#[]⟩]) (hk : Is W (some ⟨gk, 0, none⟩) [0]) =>
    (show Calls Tryz.prog 6 #[.agg #[.slice none 0 0, .slice (some ⟨g, 0, none⟩) 3 3, .slice none 0 0], .agg #[.slice none 0 0]] W (ValsQ (mvR [] [wN a k, wN b k, ⟨23, [0], n, 0, ⟨#[]⟩⟩] [] []) W) from value_any _ _ _ _ _ _ _ _ _ _ _ _ W (aw_of (kl := 1) rfl (by omega) hg hk)))
  rw [hask] at HV
  have HT := Lib.hid ht
  have d1 : decide ((k : Int) < 1) = false := by simp; omega
  have d2 : decide (8 < (k : Int)) = false := by simp; omega
  have f0 : decide ((a : Int) < 0) = false := by simp
  have f1 : decide ((b : Int) < 0) = false := by simp
  have f2 : decide ((2 : Int) ^ k ≤ (a : Int)) = false := by rw [← hp]; simp only [decide_eq_false_iff_not]; omega
  have f3 : decide ((2 : Int) ^ k ≤ (b : Int)) = false := by rw [← hp]; simp only [decide_eq_false_iff_not]; omega
  have q0 := two_pow_wrap k8
  have q2 : min k 64 = k := by omega
  clear h hM ha hb k1 hk' hp hpM a2 b2 hask w1 w2 wA ht hn hn8
  generalize wmF 23 k a b n = R at *
  go_enter Tryz.func3, Tryz.ntmps3
  go_wp2_with fail
  refine (fact_any w HT.out).mono ?_
  rintro e w1 ⟨rfl, hb⟩
  have G1 := Lib.hid hb
  clear hb
  go_wp2_with fail
  have GC := Lib.hid (show Below w.heap.size w (((((w1.alloc (.cells #[.int .i64 0, .int .i64 1] 3)).alloc (.cells #[.int .i64 23, .slice (some ⟨w1.heap.size + 1 + 1 + 1, 0, none⟩) 1 1, .int .i64 n, .int .i64 0, .string ⟨#[]⟩] 26)).alloc (.cells #[.int .i64 (a : Int), .int .i64 (b : Int)] 3)).alloc (.cells #[.int .i64 0] 3)).alloc (.cells #[.int .i64 (a : Int)] 3)) from bw_below (Nat.le_refl _) G1.out (by go_grown))
  have XB := Lib.hid (show HB (((((w1.alloc (.cells #[.int .i64 0, .int .i64 1] 3)).alloc (.cells #[.int .i64 23, .slice (some ⟨w1.heap.size + 1 + 1 + 1, 0, none⟩) 1 1, .int .i64 n, .int .i64 0, .string ⟨#[]⟩] 26)).alloc (.cells #[.int .i64 (a : Int), .int .i64 (b : Int)] 3)).alloc (.cells #[.int .i64 0] 3)).alloc (.cells #[.int .i64 (a : Int)] 3)) (w1.heap.size + 1) 26 #[.int .i64 23, .slice (some ⟨w1.heap.size + 1 + 1 + 1, 0, none⟩) 1 1, .int .i64 n, .int .i64 0, .string ⟨#[]⟩] from ((((HB.new1 w1 (.cells #[.int .i64 0, .int .i64 1] 3) 26 #[.int .i64 23, .slice (some ⟨w1.heap.size + 1 + 1 + 1, 0, none⟩) 1 1, .int .i64 n, .int .i64 0, .string ⟨#[]⟩]).alloc (.cells #[.int .i64 (a : Int), .int .i64 (b : Int)] 3)).alloc (.cells #[.int .i64 0] 3)).alloc (.cells #[.int .i64 (a : Int)] 3)))
  have KB := Lib.hid (show Is (((((w1.alloc (.cells #[.int .i64 0, .int .i64 1] 3)).alloc (.cells #[.int .i64 23, .slice (some ⟨w1.heap.size + 1 + 1 + 1, 0, none⟩) 1 1, .int .i64 n, .int .i64 0, .string ⟨#[]⟩] 26)).alloc (.cells #[.int .i64 (a : Int), .int .i64 (b : Int)] 3)).alloc (.cells #[.int .i64 0] 3)).alloc (.cells #[.int .i64 (a : Int)] 3)) (some ⟨w1.heap.size + 1 + 1 + 1, 0, none⟩) [0] from is_one_hb ((HB.new3 w1 (.cells #[.int .i64 0, .int .i64 1] 3) (.cells #[.int .i64 23, .slice (some ⟨w1.heap.size + 1 + 1 + 1, 0, none⟩) 1 1, .int .i64 n, .int .i64 0, .string ⟨#[]⟩] 26) (.cells #[.int .i64 (a : Int), .int .i64 (b : Int)] 3) 3 #[.int .i64 0]).alloc (.cells #[.int .i64 (a : Int)] 3)))
  have IB := Lib.hid (show Is (((((w1.alloc (.cells #[.int .i64 0, .int .i64 1] 3)).alloc (.cells #[.int .i64 23, .slice (some ⟨w1.heap.size + 1 + 1 + 1, 0, none⟩) 1 1, .int .i64 n, .int .i64 0, .string ⟨#[]⟩] 26)).alloc (.cells #[.int .i64 (a : Int), .int .i64 (b : Int)] 3)).alloc (.cells #[.int .i64 0] 3)).alloc (.cells #[.int .i64 (a : Int)] 3)) (some ⟨w1.heap.size + 1 + 1 + 1 + 1, 0, none⟩) [(a : Int)] from is_one_hb (by simpa using HB.new ((((w1.alloc (.cells #[.int .i64 0, .int .i64 1] 3)).alloc (.cells #[.int .i64 23, .slice (some ⟨w1.heap.size + 1 + 1 + 1, 0, none⟩) 1 1, .int .i64 n, .int .i64 0, .string ⟨#[]⟩] 26)).alloc (.cells #[.int .i64 (a : Int), .int .i64 (b : Int)] 3)).alloc (.cells #[.int .i64 0] 3)) 3 #[.int .i64 (a : Int)]))
  refine (HX.out _ _ GC.out IB.out).mono ?_
  rintro e w2 ⟨rfl, hb⟩
  have G2 := Lib.hid (bw_below (Nat.le_refl _) GC.out hb)
  have N2 := Lib.hid (new_below w2 (.cells #[.int .i64 0, .int .i64 0] 28))
  have X2 := Lib.hid ((XB.out.below hb).below N2.out)
  have K2 := Lib.hid ((KB.out.below hb).below N2.out)
  have F2 := Lib.hid (HB.new w2 28 #[.int .i64 0, .int .i64 0])
  have G3 := Lib.hid (G2.out.alloc G2.out.size (.cells #[.int .i64 0, .int .i64 0] 28))
  obtain ⟨x0, x1, x2, x3, x4⟩ := X2.out.five
  have xl := X2.out.lt
  clear hb GC XB KB IB G1 G2 N2
  go_wp2_with fail
  have N3 := Lib.hid (show Below ((w2.alloc (.cells #[.int .i64 0, .int .i64 0] 28))).heap.size ((w2.alloc (.cells #[.int .i64 0, .int .i64 0] 28))) (((w2.alloc (.cells #[.int .i64 0, .int .i64 0] 28))).alloc (.cells #[.int .i64 15, .slice none 0 0, .int .i64 (a : Int), .int .i64 (k : Int), .string ⟨#[]⟩, .int .i64 15, .slice none 0 0, .int .i64 (b : Int), .int .i64 (k : Int), .string ⟨#[]⟩, .int .i64 23, .slice (some ⟨w1.heap.size + 1 + 1 + 1, 0, none⟩) 1 1, .int .i64 n, .int .i64 0, .string ⟨#[]⟩] 26)) from new_below _ _)
  have HBN := Lib.hid (HB.new1 w2 (.cells #[.int .i64 0, .int .i64 0] 28) 26 #[.int .i64 15, .slice none 0 0, .int .i64 (a : Int), .int .i64 (k : Int), .string ⟨#[]⟩, .int .i64 15, .slice none 0 0, .int .i64 (b : Int), .int .i64 (k : Int), .string ⟨#[]⟩, .int .i64 23, .slice (some ⟨w1.heap.size + 1 + 1 + 1, 0, none⟩) 1 1, .int .i64 n, .int .i64 0, .string ⟨#[]⟩])
  refine (HV.out _ _ _ HBN.out (K2.out.below N3.out)).mono ?_
  rintro e w3 ⟨A3, c3, ps, he, hvm, hps, hb⟩
  obtain ⟨p, hp2, hpv⟩ := get_two hps
  obtain ⟨gv, rfl, lv, v0, v1, _, _⟩ := vm_at hvm hp2
  rw [hpv] at v0 v1
  have v0' : w3.cell? ⟨gv, 8, none⟩ = some (.int .i64 R) := v0
  have v1' : w3.cell? ⟨gv, 9, none⟩ = some (.int .i64 1) := v1
  have he' : e = .returned (.tuple #[.slice (some ⟨gv, 0, none⟩) 3 c3, .agg #[.int .i64 0, .int .i64 0]]) := he
  subst he'
  have F3 := Lib.hid ((F2.out.below N3.out).below hb)
  have G5 := Lib.hid (bw_below (Nat.le_refl _) (bw_below (Nat.le_refl _) G3.out N3.out) hb)
  obtain ⟨y0, y1, _, _⟩ := F3.out.two
  have yl := F3.out.lt
  clear hb HBN N3 X2 K2 F2 G3 x0 x1 x2 x3 x4 xl v0 v1 hpv hp2 hps hvm he
  go_wp2_with fail
  go_ret
  exact ⟨rfl, G5.out.alloc G5.out.size _⟩
set_option maxRecDepth 100000 in
set_option maxHeartbeats 8000000 in
theorem wm_bad (k a b : Nat) (n M : Int) (h : Wb k M) (hM : M = ((2 ^ k : Nat) : Int)) (ha : a < 2 ^ k) (hb : b < 2 ^ k) (hn : n < 0 ∨ 8 < n) (w : World) (ht : TabW w) : Calls Tryz.prog 3 #[.int .i64 23, .int .i64 (k : Int), .int .i64 (a : Int), .int .i64 (b : Int), .int .i64 n] w fun e w' => e = .returned (.bool true) ∧ Below w.heap.size w w' := by
  obtain ⟨k', hk', k1, k8, hpM⟩ := wb_pow h
  obtain rfl : k = k' := by omega
  have hp : ((2 ^ k : Nat) : Int) = (2 : Int) ^ k := by push_cast; rfl
  have a2 : (a : Int) < 2 ^ (k : Int).toNat := by rw [Int.toNat_natCast, ← hp]; omega
  have b2 : (b : Int) < 2 ^ (k : Int).toNat := by rw [Int.toNat_natCast, ← hp]; omega
  have wA := wf_badA (k := k) (a := a) (M := M) h (by omega)
  have w1 := wf_bad (k := k) (a := a) (M := M) (n := n) h (by omega) hn
  have hask := ask_bad (op := 23) (n := n) (k := k) (a := a) (b := b) (by omega) (by omega) (by omega) a2 (by omega) b2 rfl hn
  rw [ask_23] at hask
  have w2 : doR 23 k M [(a : Int)] n = 0 := by unfold doR; rw [if_neg (by rw [w1]; decide)]
  have HX := Lib.hid (fun W (g : Nat) (hW : Below w.heap.size w W) (hs : Is W (some ⟨g, 0, none⟩) [(a : Int)]) => do_any 23 k M n [(a : Int)] (some ⟨g, 0, none⟩) 1 rfl (fun _ => h) (by unfold maxLen; simp) W hs (ht.below hW))
  rw [w1, w2, wA, show ([(a : Int)] : List Int).length = 1 from rfl] at HX
  have HV := Lib.hid (fun W (g gk : Nat) (hg : HB W g 26 #[.int .i64 15, .slice none 0 0, .int .i64 (a : Int), .int .i64 (k : Int), .string ⟨#[]⟩, .int .i64 15, .slice none 0 0, .int .i64 (b : Int), .int .i64 (k : Int), .string ⟨#[]⟩, .int .i64 23, .slice (some ⟨gk, 0, none⟩) 1 1, .int .i64 n, .int .i64 0, .string ⟨#[]⟩]) (hk : Is W (some ⟨gk, 0, none⟩) [0]) =>
    (show Calls Tryz.prog 6 #[.agg #[.slice none 0 0, .slice (some ⟨g, 0, none⟩) 3 3, .slice none 0 0], .agg #[.slice none 0 0]] W (ValsQ (mvR [] [wN a k, wN b k, ⟨23, [0], n, 0, ⟨#[]⟩⟩] [] []) W) from value_any _ _ _ _ _ _ _ _ _ _ _ _ W (aw_of (kl := 1) rfl (by omega) hg hk)))
  rw [hask] at HV
  have HT := Lib.hid ht
  have d1 : decide ((k : Int) < 1) = false := by simp; omega
  have d2 : decide (8 < (k : Int)) = false := by simp; omega
  have f0 : decide ((a : Int) < 0) = false := by simp
  have f1 : decide ((b : Int) < 0) = false := by simp
  have f2 : decide ((2 : Int) ^ k ≤ (a : Int)) = false := by rw [← hp]; simp only [decide_eq_false_iff_not]; omega
  have f3 : decide ((2 : Int) ^ k ≤ (b : Int)) = false := by rw [← hp]; simp only [decide_eq_false_iff_not]; omega
  have q0 := two_pow_wrap k8
  have q2 : min k 64 = k := by omega
  clear h hM ha hb k1 hk' hp hpM a2 b2 hask w1 w2 wA ht hn
  go_enter Tryz.func3, Tryz.ntmps3
  go_wp2_with fail
  refine (fact_any w HT.out).mono ?_
  rintro e w1 ⟨rfl, hb⟩
  have G1 := Lib.hid hb
  clear hb
  go_wp2_with fail
  have GC := Lib.hid (show Below w.heap.size w (((((w1.alloc (.cells #[.int .i64 0, .int .i64 1] 3)).alloc (.cells #[.int .i64 23, .slice (some ⟨w1.heap.size + 1 + 1 + 1, 0, none⟩) 1 1, .int .i64 n, .int .i64 0, .string ⟨#[]⟩] 26)).alloc (.cells #[.int .i64 (a : Int), .int .i64 (b : Int)] 3)).alloc (.cells #[.int .i64 0] 3)).alloc (.cells #[.int .i64 (a : Int)] 3)) from bw_below (Nat.le_refl _) G1.out (by go_grown))
  have XB := Lib.hid (show HB (((((w1.alloc (.cells #[.int .i64 0, .int .i64 1] 3)).alloc (.cells #[.int .i64 23, .slice (some ⟨w1.heap.size + 1 + 1 + 1, 0, none⟩) 1 1, .int .i64 n, .int .i64 0, .string ⟨#[]⟩] 26)).alloc (.cells #[.int .i64 (a : Int), .int .i64 (b : Int)] 3)).alloc (.cells #[.int .i64 0] 3)).alloc (.cells #[.int .i64 (a : Int)] 3)) (w1.heap.size + 1) 26 #[.int .i64 23, .slice (some ⟨w1.heap.size + 1 + 1 + 1, 0, none⟩) 1 1, .int .i64 n, .int .i64 0, .string ⟨#[]⟩] from ((((HB.new1 w1 (.cells #[.int .i64 0, .int .i64 1] 3) 26 #[.int .i64 23, .slice (some ⟨w1.heap.size + 1 + 1 + 1, 0, none⟩) 1 1, .int .i64 n, .int .i64 0, .string ⟨#[]⟩]).alloc (.cells #[.int .i64 (a : Int), .int .i64 (b : Int)] 3)).alloc (.cells #[.int .i64 0] 3)).alloc (.cells #[.int .i64 (a : Int)] 3)))
  have KB := Lib.hid (show Is (((((w1.alloc (.cells #[.int .i64 0, .int .i64 1] 3)).alloc (.cells #[.int .i64 23, .slice (some ⟨w1.heap.size + 1 + 1 + 1, 0, none⟩) 1 1, .int .i64 n, .int .i64 0, .string ⟨#[]⟩] 26)).alloc (.cells #[.int .i64 (a : Int), .int .i64 (b : Int)] 3)).alloc (.cells #[.int .i64 0] 3)).alloc (.cells #[.int .i64 (a : Int)] 3)) (some ⟨w1.heap.size + 1 + 1 + 1, 0, none⟩) [0] from is_one_hb ((HB.new3 w1 (.cells #[.int .i64 0, .int .i64 1] 3) (.cells #[.int .i64 23, .slice (some ⟨w1.heap.size + 1 + 1 + 1, 0, none⟩) 1 1, .int .i64 n, .int .i64 0, .string ⟨#[]⟩] 26) (.cells #[.int .i64 (a : Int), .int .i64 (b : Int)] 3) 3 #[.int .i64 0]).alloc (.cells #[.int .i64 (a : Int)] 3)))
  have IB := Lib.hid (show Is (((((w1.alloc (.cells #[.int .i64 0, .int .i64 1] 3)).alloc (.cells #[.int .i64 23, .slice (some ⟨w1.heap.size + 1 + 1 + 1, 0, none⟩) 1 1, .int .i64 n, .int .i64 0, .string ⟨#[]⟩] 26)).alloc (.cells #[.int .i64 (a : Int), .int .i64 (b : Int)] 3)).alloc (.cells #[.int .i64 0] 3)).alloc (.cells #[.int .i64 (a : Int)] 3)) (some ⟨w1.heap.size + 1 + 1 + 1 + 1, 0, none⟩) [(a : Int)] from is_one_hb (by simpa using HB.new ((((w1.alloc (.cells #[.int .i64 0, .int .i64 1] 3)).alloc (.cells #[.int .i64 23, .slice (some ⟨w1.heap.size + 1 + 1 + 1, 0, none⟩) 1 1, .int .i64 n, .int .i64 0, .string ⟨#[]⟩] 26)).alloc (.cells #[.int .i64 (a : Int), .int .i64 (b : Int)] 3)).alloc (.cells #[.int .i64 0] 3)) 3 #[.int .i64 (a : Int)]))
  refine (HX.out _ _ GC.out IB.out).mono ?_
  rintro e w2 ⟨rfl, hb⟩
  have G2 := Lib.hid (bw_below (Nat.le_refl _) GC.out hb)
  have N2 := Lib.hid (new_below w2 (.cells #[.int .i64 5, .int .i64 0] 28))
  have X2 := Lib.hid ((XB.out.below hb).below N2.out)
  have K2 := Lib.hid ((KB.out.below hb).below N2.out)
  have F2 := Lib.hid (HB.new w2 28 #[.int .i64 5, .int .i64 0])
  have G3 := Lib.hid (G2.out.alloc G2.out.size (.cells #[.int .i64 5, .int .i64 0] 28))
  obtain ⟨x0, x1, x2, x3, x4⟩ := X2.out.five
  have xl := X2.out.lt
  clear hb GC XB KB IB G1 G2 N2
  go_wp2_with fail
  have N3 := Lib.hid (show Below ((w2.alloc (.cells #[.int .i64 5, .int .i64 0] 28))).heap.size ((w2.alloc (.cells #[.int .i64 5, .int .i64 0] 28))) (((w2.alloc (.cells #[.int .i64 5, .int .i64 0] 28))).alloc (.cells #[.int .i64 15, .slice none 0 0, .int .i64 (a : Int), .int .i64 (k : Int), .string ⟨#[]⟩, .int .i64 15, .slice none 0 0, .int .i64 (b : Int), .int .i64 (k : Int), .string ⟨#[]⟩, .int .i64 23, .slice (some ⟨w1.heap.size + 1 + 1 + 1, 0, none⟩) 1 1, .int .i64 n, .int .i64 0, .string ⟨#[]⟩] 26)) from new_below _ _)
  have HBN := Lib.hid (HB.new1 w2 (.cells #[.int .i64 5, .int .i64 0] 28) 26 #[.int .i64 15, .slice none 0 0, .int .i64 (a : Int), .int .i64 (k : Int), .string ⟨#[]⟩, .int .i64 15, .slice none 0 0, .int .i64 (b : Int), .int .i64 (k : Int), .string ⟨#[]⟩, .int .i64 23, .slice (some ⟨w1.heap.size + 1 + 1 + 1, 0, none⟩) 1 1, .int .i64 n, .int .i64 0, .string ⟨#[]⟩])
  refine (HV.out _ _ _ HBN.out (K2.out.below N3.out)).mono ?_
  rintro e w3 ⟨rfl, hb⟩
  have F3 := Lib.hid ((F2.out.below N3.out).below hb)
  have G5 := Lib.hid (bw_below (Nat.le_refl _) (bw_below (Nat.le_refl _) G3.out N3.out) hb)
  obtain ⟨y0, y1, _, _⟩ := F3.out.two
  have yl := F3.out.lt
  clear hb HBN N3 X2 K2 F2 G3 x0 x1 x2 x3 x4 xl
  go_wp2_with fail
  go_ret
  exact ⟨rfl, G5.out.alloc G5.out.size _⟩
theorem wordsmean_any (op z a b n : Int) (w : World) (ht : TabW w) : Calls Tryz.prog 3 #[.int .i64 op, .int .i64 z, .int .i64 a, .int .i64 b, .int .i64 n] w fun e w' => e = .returned (.bool true) ∧ Below w.heap.size w w' := by
  by_cases h : z < 1 ∨ 8 < z
  · exact wm_bad1 op z a b n h w ht
  · obtain ⟨M, hM⟩ := wb_of (z := z) (by omega) (by omega)
    obtain ⟨k, rfl, k1, k8, hp⟩ := wb_pow hM
    by_cases h2 : a < 0 ∨ b < 0 ∨ 2 ^ k ≤ a ∨ 2 ^ k ≤ b ∨ op ≤ 15 ∨ 23 < op
    · exact wm_bad2 k op a b n k1 k8 h2 w ht
    · obtain ⟨a', rfl⟩ := Int.eq_ofNat_of_zero_le (a := a) (by omega)
      obtain ⟨b', rfl⟩ := Int.eq_ofNat_of_zero_le (a := b) (by omega)
      have e : ((2 ^ k : Nat) : Int) = (2 : Int) ^ k := by push_cast; rfl
      have hM2 : M = ((2 ^ k : Nat) : Int) := by rw [hp, e]
      have cs : op = 16 ∨ op = 23 ∨ 17 ≤ op ∧ op ≤ 22 := by omega
      rcases cs with rfl | rfl | ⟨o1, o2⟩
      · exact wm_16 k a' b' n M hM hM2 (by omega) (by omega) w ht
      · by_cases hn : n < 0 ∨ 8 < n
        · exact wm_bad k a' b' n M hM hM2 (by omega) (by omega) hn w ht
        · exact wm_23 k a' b' n M hM hM2 (by omega) (by omega) (by unfold badN; simp; omega) w ht
      · exact wm_two op o1 o2 k a' b' n M hM hM2 (by omega) (by omega) w ht
end Go.Proofs.YtibpgcdaommjeaaGreatDoor.Wds
