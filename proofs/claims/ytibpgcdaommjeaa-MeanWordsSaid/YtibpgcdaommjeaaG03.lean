/-
  Sums, products and the order of valid fractions.
  Worlds: the first row of a table, the first number, of which a function value tells true.
  Values of nodes: true and false, whole numbers, a choice, the order, Booleans.
-/
import Derived.Test.YtibpgcdaommjeaaG02
namespace Go.Proofs.Ytibpgcdaommjeaa
open Go.RowKit
set_option maxRecDepth 100000

/-- The way in which a call that yields a Bool and a fault ends. -/
def GivesB (r : Bool) (c i : Int) (w : World) (e : Ending) (w' : World) : Prop := e = .returned (.tuple #[.bool r, .agg #[.int .i64 c, .int .i64 i]]) ∧ Below w.heap.size w w'
theorem below_more {A b C d : World} (G : Below A.heap.size A b) (hb : Below C.heap.size C d) (hm : Below b.heap.size b C) : Below A.heap.size A d := below_after (below_after G hm) hb
set_option maxHeartbeats 400000 in
theorem of_bool_good (an ad bn bd : Int) (w : World) (k : FuncId) (p q : Value) (r : Bool) (ek : ∀ args w, (callFunc k args).run Try.prog w = .ok (.enter k args) w) (ha : fvalid an ad = true) (hb : fvalid bn bd = true)
    (hk : ∀ w1, Below w.heap.size w w1 → Calls Try.prog k #[p, q] w1 (GivesB r 0 0 w1)) :
    Calls Try.prog 100 #[.agg #[.int .i64 an, .int .i64 ad], .agg #[.int .i64 bn, .int .i64 bd], .func (.func k) #[] #[p, q]] w (GivesB r 0 0 w) := by
  have HK : Hid (∀ w1, Below w.heap.size w w1 → Calls Try.prog k #[p, q] w1 (GivesB r 0 0 w1)) := hk
  clear hk
  have i0 : ∀ w, (Instr.index 123 (.agg #[.int .i64 an, .int .i64 ad, .int .i64 bn, .int .i64 bd]) (.int .i64 0)).run Try.prog w = .ok (.agg #[.int .i64 an, .int .i64 ad]) w := fun _ => by kernel_rfl
  have i1 : ∀ w, (Instr.index 123 (.agg #[.int .i64 an, .int .i64 ad, .int .i64 bn, .int .i64 bd]) (.int .i64 1)).run Try.prog w = .ok (.agg #[.int .i64 bn, .int .i64 bd]) w := fun _ => by kernel_rfl
  go_enter Try.func100, Try.ntmps100
  go_wp2_with fail
  refine wp_loop_rounds 3 ?_
  rw [rounds_succ]
  go_wp2_with fail
  refine (valid_any _ _ _).mono ?_
  rw [ha]
  rintro e w1 ⟨rfl, hb1⟩
  obtain ⟨hc1, hf1, hl1, hm1⟩ := bfour hb1
  have g1 : Below w.heap.size w w1 := below_after (by go_grown) hb1
  go_wp2_with fail
  rw [rounds_succ]
  go_wp2_with fail
  refine (valid_any _ _ _).mono ?_
  rw [hb]
  rintro e w2 ⟨rfl, hb2⟩
  have hb21 := below_more hb1 hb2 (by go_grown)
  obtain ⟨hc2, hf2, hl2, hm2⟩ := bfour hb2
  obtain ⟨hc21, hf21, hl21, hm21⟩ := bfour hb21
  have g2 : Below w.heap.size w w2 := below_more g1 hb2 (by go_grown)
  clear g1 hc1 hf1 hl1 hm1
  go_wp2_with fail
  rw [rounds_succ]
  go_wp2_with fail
  refine (HK.out _ g2).mono ?_
  rintro e w3 ⟨rfl, hb3⟩
  have hb31 := below_more hb21 hb3 (by go_grown)
  obtain ⟨hc31, hf31, hl31, hm31⟩ := bfour hb31
  have g3 : Below w.heap.size w w3 := below_after g2 hb3
  clear g2 hc2 hf2 hl2 hm2 hc21 hf21 hl21 hm21
  go_wp2_with fail
  refine bodyPost_ret (v := .tuple #[.bool r, .agg #[.int .i64 0, .int .i64 0]]) (by simp [results, Try.results100, go_sem, hc31]) rfl ⟨rfl, ?_⟩
  go_grown
set_option maxHeartbeats 400000 in
theorem of_frac_good (an ad bn bd : Int) (w : World) (k : FuncId) (p q : Value) (n d c i : Int) (ek : ∀ args w, (callFunc k args).run Try.prog w = .ok (.enter k args) w) (ha : fvalid an ad = true) (hb : fvalid bn bd = true)
    (hk : ∀ w1, Below w.heap.size w w1 → Calls Try.prog k #[p, q] w1 (Gives n d c i w1)) :
    Calls Try.prog 83 #[.agg #[.int .i64 an, .int .i64 ad], .agg #[.int .i64 bn, .int .i64 bd], .func (.func k) #[] #[p, q]] w (Gives n d c i w) := by
  have HK : Hid (∀ w1, Below w.heap.size w w1 → Calls Try.prog k #[p, q] w1 (Gives n d c i w1)) := hk
  clear hk
  have i0 : ∀ w, (Instr.index 123 (.agg #[.int .i64 an, .int .i64 ad, .int .i64 bn, .int .i64 bd]) (.int .i64 0)).run Try.prog w = .ok (.agg #[.int .i64 an, .int .i64 ad]) w := fun _ => by kernel_rfl
  have i1 : ∀ w, (Instr.index 123 (.agg #[.int .i64 an, .int .i64 ad, .int .i64 bn, .int .i64 bd]) (.int .i64 1)).run Try.prog w = .ok (.agg #[.int .i64 bn, .int .i64 bd]) w := fun _ => by kernel_rfl
  go_enter Try.func83, Try.ntmps83
  go_wp2_with fail
  refine wp_loop_rounds 3 ?_
  rw [rounds_succ]
  go_wp2_with fail
  refine (valid_any _ _ _).mono ?_
  rw [ha]
  rintro e w1 ⟨rfl, hb1⟩
  obtain ⟨hc1, hf1, hl1, hm1⟩ := bfour hb1
  have g1 : Below w.heap.size w w1 := below_after (by go_grown) hb1
  go_wp2_with fail
  rw [rounds_succ]
  go_wp2_with fail
  refine (valid_any _ _ _).mono ?_
  rw [hb]
  rintro e w2 ⟨rfl, hb2⟩
  have hb21 := below_more hb1 hb2 (by go_grown)
  obtain ⟨hc2, hf2, hl2, hm2⟩ := bfour hb2
  obtain ⟨hc21, hf21, hl21, hm21⟩ := bfour hb21
  have g2 : Below w.heap.size w w2 := below_more g1 hb2 (by go_grown)
  clear g1 hc1 hf1 hl1 hm1
  go_wp2_with fail
  rw [rounds_succ]
  go_wp2_with fail
  refine (HK.out _ g2).mono ?_
  rintro e w3 ⟨rfl, hb3⟩
  have hb31 := below_more hb21 hb3 (by go_grown)
  obtain ⟨hc31, hf31, hl31, hm31⟩ := bfour hb31
  have g3 : Below w.heap.size w w3 := below_after g2 hb3
  clear g2 hc2 hf2 hl2 hm2 hc21 hf21 hl21 hm21
  go_wp2_with fail
  refine bodyPost_ret (v := .tuple #[.agg #[.int .i64 n, .int .i64 d], .agg #[.int .i64 c, .int .i64 i]]) (by simp [results, Try.results83, go_sem, hc31]) rfl ⟨rfl, ?_⟩
  go_grown
theorem lt_two (n : Nat) : n < n + 1 + 1 := by omega
theorem mul_bd (x y : Int) (a : -1073741824 ≤ x) (b : x ≤ 1073741824) (c : -1073741824 ≤ y) (d : y ≤ 1073741824) : -1152921504606846976 ≤ x * y ∧ x * y ≤ 1152921504606846976 := by
  have h : (x * y).natAbs ≤ 1073741824 * 1073741824 := by
    rw [Int.natAbs_mul]; exact Nat.mul_le_mul (by omega) (by omega)
  omega
theorem fvalid_bd {n d : Int} (h : fvalid n d = true) : 1 ≤ d ∧ d ≤ 1073741824 ∧ -1073741824 ≤ n ∧ n ≤ 1073741824 ∧ Nat.gcd (mag n) (mag d) = 1 := by
  unfold fvalid at h; exact of_decide_eq_true h
set_option maxHeartbeats 400000 in
theorem add_in (an ad bn bd : Int) (p q : Nat) (w : World) (a1 : -1073741824 ≤ an) (a2 : an ≤ 1073741824) (a3 : -1073741824 ≤ ad) (a4 : ad ≤ 1073741824) (b1 : -1073741824 ≤ bn) (b2 : bn ≤ 1073741824) (b3 : -1073741824 ≤ bd) (b4 : bd ≤ 1073741824)
    (p1 : p < w.heap.size) (q1 : q < w.heap.size) (c1 : w.cell? ⟨p, 0, none⟩ = some (.int .i64 an)) (c2 : w.cell? ⟨p, 1, none⟩ = some (.int .i64 ad)) (c3 : w.cell? ⟨q, 0, none⟩ = some (.int .i64 bn)) (c4 : w.cell? ⟨q, 1, none⟩ = some (.int .i64 bd)) :
    Calls Try.prog 86 #[.pointer (some ⟨p, 0, none⟩), .pointer (some ⟨q, 0, none⟩)] w (Gives (madeN (an * bd + bn * ad) (ad * bd)) (madeD (an * bd + bn * ad) (ad * bd)) (madeC (an * bd + bn * ad) (ad * bd)) 0 w) := by
  have p2 : p ≤ w.heap.size := by omega
  have q2 : q ≤ w.heap.size := by omega
  obtain ⟨m0, m1⟩ := mul_bd an bd a1 a2 b3 b4
  obtain ⟨m2, m3⟩ := mul_bd bn ad b1 b2 a3 a4
  obtain ⟨m4, m5⟩ := mul_bd ad bd a3 a4 b3 b4
  go_enter Try.func86, Try.ntmps86
  go_wp2_with fail
  refine (make_any (an * bd + bn * ad) (ad * bd) (by omega) (by omega) (by omega) (by omega) _).mono ?_
  rintro e w1 ⟨rfl, hb1⟩
  obtain ⟨hc1, hf1, hl1, hm1⟩ := bfour hb1
  have g1 : Below w.heap.size w w1 := below_after (by go_grown) hb1
  go_wp2_with fail
  refine bodyPost_ret (v := .tuple #[.agg #[.int .i64 (madeN (an * bd + bn * ad) (ad * bd)), .int .i64 (madeD (an * bd + bn * ad) (ad * bd))], .agg #[.int .i64 (madeC (an * bd + bn * ad) (ad * bd)), .int .i64 0]]) (by simp [results, Try.results86, go_sem, hc1, lt_two]) rfl ⟨rfl, ?_⟩
  have z := g1.size
  go_grown
theorem enter26 (args : Array Value) (w : World) : (callFunc 86 args).run Try.prog w = .ok (.enter 86 args) w := by kernel_rfl
set_option maxHeartbeats 400000 in
theorem add_good (an ad bn bd : Int) (w : World) (ha : fvalid an ad = true) (hb : fvalid bn bd = true) :
    Calls Try.prog 62 #[.agg #[.int .i64 an, .int .i64 ad], .agg #[.int .i64 bn, .int .i64 bd]] w (Gives (madeN (an * bd + bn * ad) (ad * bd)) (madeD (an * bd + bn * ad) (ad * bd)) (madeC (an * bd + bn * ad) (ad * bd)) 0 w) := by
  go_enter Try.func62, Try.ntmps62
  go_wp2_with fail
  have A := fvalid_bd ha
  have B := fvalid_bd hb
  refine (of_frac_good an ad bn bd _ 86 _ _ (madeN (an * bd + bn * ad) (ad * bd)) (madeD (an * bd + bn * ad) (ad * bd)) (madeC (an * bd + bn * ad) (ad * bd)) 0 enter26 ha hb (fun w1 g => add_in an ad bn bd _ _ w1 (by omega) (by omega) (by omega) (by omega) (by omega) (by omega) (by omega) (by omega) (Nat.lt_of_lt_of_le (by simp; omega) g.size) (Nat.lt_of_lt_of_le (by simp) g.size) (by rw [(bcell g).1 _ _ (by simp; omega)]; simp [go_sem]) (by rw [(bcell g).1 _ _ (by simp; omega)]; simp [go_sem]) (by rw [(bcell g).1 _ _ (by simp)]; simp [go_sem]) (by rw [(bcell g).1 _ _ (by simp)]; simp [go_sem]))).mono ?_
  clear A B ha hb
  rintro e w1 ⟨rfl, hb1⟩
  obtain ⟨hc1, hf1, hl1, hm1⟩ := bfour hb1
  have g1 : Below w.heap.size w w1 := below_after (by go_grown) hb1
  go_wp2_with fail
  refine bodyPost_ret (v := .tuple #[.agg #[.int .i64 (madeN (an * bd + bn * ad) (ad * bd)), .int .i64 (madeD (an * bd + bn * ad) (ad * bd))], .agg #[.int .i64 (madeC (an * bd + bn * ad) (ad * bd)), .int .i64 0]]) (by simp [results, Try.results62, go_sem, hc1]) rfl ⟨rfl, ?_⟩
  have z := g1.size
  go_grown
set_option maxHeartbeats 400000 in
theorem times_in (an ad bn bd : Int) (p q : Nat) (w : World) (a1 : -1073741824 ≤ an) (a2 : an ≤ 1073741824) (a3 : -1073741824 ≤ ad) (a4 : ad ≤ 1073741824) (b1 : -1073741824 ≤ bn) (b2 : bn ≤ 1073741824) (b3 : -1073741824 ≤ bd) (b4 : bd ≤ 1073741824)
    (p1 : p < w.heap.size) (q1 : q < w.heap.size) (c1 : w.cell? ⟨p, 0, none⟩ = some (.int .i64 an)) (c2 : w.cell? ⟨p, 1, none⟩ = some (.int .i64 ad)) (c3 : w.cell? ⟨q, 0, none⟩ = some (.int .i64 bn)) (c4 : w.cell? ⟨q, 1, none⟩ = some (.int .i64 bd)) :
    Calls Try.prog 84 #[.pointer (some ⟨p, 0, none⟩), .pointer (some ⟨q, 0, none⟩)] w (Gives (madeN (an * bn) (ad * bd)) (madeD (an * bn) (ad * bd)) (madeC (an * bn) (ad * bd)) 0 w) := by
  have p2 : p ≤ w.heap.size := by omega
  have q2 : q ≤ w.heap.size := by omega
  obtain ⟨m0, m1⟩ := mul_bd an bn a1 a2 b1 b2
  obtain ⟨m2, m3⟩ := mul_bd ad bd a3 a4 b3 b4
  go_enter Try.func84, Try.ntmps84
  go_wp2_with fail
  refine (make_any (an * bn) (ad * bd) (by omega) (by omega) (by omega) (by omega) _).mono ?_
  rintro e w1 ⟨rfl, hb1⟩
  obtain ⟨hc1, hf1, hl1, hm1⟩ := bfour hb1
  have g1 : Below w.heap.size w w1 := below_after (by go_grown) hb1
  go_wp2_with fail
  refine bodyPost_ret (v := .tuple #[.agg #[.int .i64 (madeN (an * bn) (ad * bd)), .int .i64 (madeD (an * bn) (ad * bd))], .agg #[.int .i64 (madeC (an * bn) (ad * bd)), .int .i64 0]]) (by simp [results, Try.results84, go_sem, hc1, lt_two]) rfl ⟨rfl, ?_⟩
  have z := g1.size
  go_grown
theorem enter28 (args : Array Value) (w : World) : (callFunc 84 args).run Try.prog w = .ok (.enter 84 args) w := by kernel_rfl
set_option maxHeartbeats 400000 in
theorem times_good (an ad bn bd : Int) (w : World) (ha : fvalid an ad = true) (hb : fvalid bn bd = true) :
    Calls Try.prog 61 #[.agg #[.int .i64 an, .int .i64 ad], .agg #[.int .i64 bn, .int .i64 bd]] w (Gives (madeN (an * bn) (ad * bd)) (madeD (an * bn) (ad * bd)) (madeC (an * bn) (ad * bd)) 0 w) := by
  go_enter Try.func61, Try.ntmps61
  go_wp2_with fail
  have A := fvalid_bd ha
  have B := fvalid_bd hb
  refine (of_frac_good an ad bn bd _ 84 _ _ (madeN (an * bn) (ad * bd)) (madeD (an * bn) (ad * bd)) (madeC (an * bn) (ad * bd)) 0 enter28 ha hb (fun w1 g => times_in an ad bn bd _ _ w1 (by omega) (by omega) (by omega) (by omega) (by omega) (by omega) (by omega) (by omega) (Nat.lt_of_lt_of_le (by simp; omega) g.size) (Nat.lt_of_lt_of_le (by simp) g.size) (by rw [(bcell g).1 _ _ (by simp; omega)]; simp [go_sem]) (by rw [(bcell g).1 _ _ (by simp; omega)]; simp [go_sem]) (by rw [(bcell g).1 _ _ (by simp)]; simp [go_sem]) (by rw [(bcell g).1 _ _ (by simp)]; simp [go_sem]))).mono ?_
  clear A B ha hb
  rintro e w1 ⟨rfl, hb1⟩
  obtain ⟨hc1, hf1, hl1, hm1⟩ := bfour hb1
  have g1 : Below w.heap.size w w1 := below_after (by go_grown) hb1
  go_wp2_with fail
  refine bodyPost_ret (v := .tuple #[.agg #[.int .i64 (madeN (an * bn) (ad * bd)), .int .i64 (madeD (an * bn) (ad * bd))], .agg #[.int .i64 (madeC (an * bn) (ad * bd)), .int .i64 0]]) (by simp [results, Try.results61, go_sem, hc1]) rfl ⟨rfl, ?_⟩
  have z := g1.size
  go_grown
set_option maxHeartbeats 400000 in
theorem less_in (an ad bn bd : Int) (p q : Nat) (w : World) (a1 : -1073741824 ≤ an) (a2 : an ≤ 1073741824) (a3 : -1073741824 ≤ ad) (a4 : ad ≤ 1073741824) (b1 : -1073741824 ≤ bn) (b2 : bn ≤ 1073741824) (b3 : -1073741824 ≤ bd) (b4 : bd ≤ 1073741824)
    (p1 : p < w.heap.size) (q1 : q < w.heap.size) (c1 : w.cell? ⟨p, 0, none⟩ = some (.int .i64 an)) (c2 : w.cell? ⟨p, 1, none⟩ = some (.int .i64 ad)) (c3 : w.cell? ⟨q, 0, none⟩ = some (.int .i64 bn)) (c4 : w.cell? ⟨q, 1, none⟩ = some (.int .i64 bd)) :
    Calls Try.prog 101 #[.pointer (some ⟨p, 0, none⟩), .pointer (some ⟨q, 0, none⟩)] w (GivesB (decide (an * bd < bn * ad)) 0 0 w) := by
  obtain ⟨m0, m1⟩ := mul_bd an bd a1 a2 b3 b4
  obtain ⟨m2, m3⟩ := mul_bd bn ad b1 b2 a3 a4
  by_cases hlt : an * bd < bn * ad
  · have hd : decide (an * bd < bn * ad) = true := by simpa using hlt
    rw [hd]
    go_enter Try.func101, Try.ntmps101
    go_wp2
    refine bodyPost_ret (v := .tuple #[.bool true, .agg #[.int .i64 0, .int .i64 0]]) (by simp [results, Try.results101, go_sem]) rfl ⟨rfl, ?_⟩
    go_grown
  · have hd : decide (an * bd < bn * ad) = false := by simpa using hlt
    rw [hd]
    go_enter Try.func101, Try.ntmps101
    go_wp2
    refine bodyPost_ret (v := .tuple #[.bool false, .agg #[.int .i64 0, .int .i64 0]]) (by simp [results, Try.results101, go_sem]) rfl ⟨rfl, ?_⟩
    go_grown
theorem enter31 (args : Array Value) (w : World) : (callFunc 101 args).run Try.prog w = .ok (.enter 101 args) w := by kernel_rfl
set_option maxHeartbeats 400000 in
theorem less_good' (an ad bn bd : Int) (w : World) (r : Bool) (hr : decide (an * bd < bn * ad) = r) (ha : fvalid an ad = true) (hb : fvalid bn bd = true) :
    Calls Try.prog 91 #[.agg #[.int .i64 an, .int .i64 ad], .agg #[.int .i64 bn, .int .i64 bd]] w (GivesB r 0 0 w) := by
  have A := fvalid_bd ha
  have B := fvalid_bd hb
  go_enter Try.func91, Try.ntmps91
  go_wp2_with fail
  refine (of_bool_good an ad bn bd _ 101 _ _ r enter31 ha hb (fun w1 g => hr ▸ less_in an ad bn bd _ _ w1 (by omega) (by omega) (by omega) (by omega) (by omega) (by omega) (by omega) (by omega) (Nat.lt_of_lt_of_le (by simp; omega) g.size) (Nat.lt_of_lt_of_le (by simp) g.size) (by rw [(bcell g).1 _ _ (by simp; omega)]; simp [go_sem]) (by rw [(bcell g).1 _ _ (by simp; omega)]; simp [go_sem]) (by rw [(bcell g).1 _ _ (by simp)]; simp [go_sem]) (by rw [(bcell g).1 _ _ (by simp)]; simp [go_sem]))).mono ?_
  clear A B ha hb hr
  rintro e w1 ⟨rfl, hb1⟩
  obtain ⟨hc1, hf1, hl1, hm1⟩ := bfour hb1
  have g1 : Below w.heap.size w w1 := below_after (by go_grown) hb1
  go_wp2_with fail
  refine bodyPost_ret (v := .tuple #[.bool r, .agg #[.int .i64 0, .int .i64 0]]) (by simp [results, Try.results91, go_sem, hc1]) rfl ⟨rfl, ?_⟩
  have z := g1.size
  go_grown
theorem less_good (an ad bn bd : Int) (w : World) (ha : fvalid an ad = true) (hb : fvalid bn bd = true) :
    Calls Try.prog 91 #[.agg #[.int .i64 an, .int .i64 ad], .agg #[.int .i64 bn, .int .i64 bd]] w (GivesB (decide (an * bd < bn * ad)) 0 0 w) := less_good' an ad bn bd w _ rfl ha hb
end Go.Proofs.Ytibpgcdaommjeaa
namespace Go.Proofs.Ytibpgcdaommjeaa
open Go.RowKit

/-- A row as an argument. -/
def enV (q : En) (Aa : Option Addr) (ca : Nat) (Ac : Option Addr) (cc : Nat) : Value := .agg #[.slice Aa q.args.length ca, .int .i64 q.too.num, .int .i64 q.too.den, .slice Ac q.too.cells.length cc, .int .i64 q.too.rest]
/-- What a row leads to in memory. -/
def enI (w : World) (q : En) (Aa : Option Addr) (ca : Nat) (Ac : Option Addr) (cc : Nat) : Prop := (q.args.length ≤ ca ∧ ca ≤ maxLen ∧ Is w Aa q.args) ∧ q.too.cells.length ≤ cc ∧ cc ≤ maxLen ∧ CsAt w Ac q.too.cells
theorem enI.below {w w' : World} {q : En} {Aa Ac : Option Addr} {ca cc : Nat} (h : enI w q Aa ca Ac cc) (hb : Below w.heap.size w w') : enI w' q Aa ca Ac cc := ⟨⟨h.1.1, h.1.2.1, h.1.2.2.below hb⟩, h.2.1, h.2.2.1, h.2.2.2.below hb⟩
/-- What a search through a list yields. -/
def Found (n : Nat) (p : Nat → Bool) (I : Nat → World → Prop) (k : Int) (w : World) : Prop :=
  (∃ i, i < n ∧ p i = true ∧ (∀ j, j < i → p j = false) ∧ k = i ∧ I (i + 1) w) ∨ ((∀ j, j < n → p j = false) ∧ k = -1 ∧ I n w)
set_option maxRecDepth 100000 in
set_option maxHeartbeats 2000000 in
theorem indexen_any {fid : Nat} (hc : Enters fid) (es : List En) (A : Option Addr) (c : Nat) (caps : Array Value) (p : Nat → Bool) (I : Nat → World → Prop) (hl : es.length ≤ maxLen) (hA : ∀ i W, I i W → EsAt W A es)
    (H : ∀ i W Aa ca Ac cc, i < es.length → I i W → enI W (en es i) Aa ca Ac cc → Calls Try.prog fid (#[enV (en es i) Aa ca Ac cc] ++ caps) W fun e w' => e = .returned (.bool (p i)) ∧ I (i + 1) w')
    (w : World) (hw : I 0 w) :
    Calls Try.prog 59 #[.slice A es.length c, .func (.func fid) #[] caps] w fun e w' => ∃ k : Int, e = .returned (.int .i64 k) ∧ Hid (Found es.length p I k w') := by
  have HA := Lib.hid hA
  have HH := Lib.hid H
  have HC := Lib.hid hc
  have HW := Lib.hid hw
  unfold maxLen at hl
  generalize hL : es.length = L at *
  have HL := Lib.hid hL
  clear hA H hc hw hL
  go_enter Try.func59, Try.ntmps59
  go_wp2_with fail
  go_loopw [5, 8] (fun _ k wr => ∃ i : Nat, i ≤ L ∧ k = .int .i64 i ∧ Hid (∀ j, j < i → p j = false) ∧ Hid (I i wr)) (fun _ k _ => L - (intOf k).toNat)
  case atStart => exact ⟨0, by omega, rfl, Lib.hid (fun j hj => absurd hj (by omega)), HW⟩
  case round =>
    obtain ⟨i, hi, rfl, HP, HX⟩ := hrel
    by_cases hlt : i < L
    · obtain ⟨b, o, rfl, hb, ⟨⟨Aa, ca, c0, ha1, ha2, ha3⟩, c1, c2, c4, Ac, cc, c3, hc1, hc2, hc3⟩⟩ := es_at (i := i) (HA.out _ _ HX.out) (by rw [HL.out]; exact hlt)
      have t3 : decide ((i : Int) < L) = true := by simpa using hlt
      have HX2 := Lib.hid (HH.out i wr Aa ca Ac cc hlt HX.out ⟨⟨ha1, ha2, ha3⟩, hc1, hc2, hc3⟩)
      unfold enV at HX2
      clear ha1 ha2 ha3 hc1 hc2 hc3
      generalize (en es i).args.length = al at *
      generalize (en es i).too.cells.length = cl at *
      generalize (en es i).too.num = vn at *
      generalize (en es i).too.den = vd at *
      generalize (en es i).too.rest = vr at *
      go_wp2_with fail
      rw [HC.out, Oper.upon_enter]
      refine HX2.out.mono ?_
      rintro e w1 ⟨rfl, hx1⟩
      have X1 := Lib.hid hx1
      clear hx1
      cases hq : p i with
      | false =>
        have HQ := Lib.hid hq
        clear hq
        go_wp2_with fail
        go_round
        case rel => exact ⟨i + 1, by omega, by go_num, Lib.hid (fun j hj => by
          rcases Nat.lt_or_ge j i with z | z
          · exact HP.out j z
          · obtain rfl : j = i := by omega
            exact HQ.out), X1⟩
        case measure => simp [intOf]; omega
      | true =>
        have HQ := Lib.hid hq
        clear hq
        go_wp2_with fail
        go_ret
        exact ⟨i, rfl, Lib.hid (.inl ⟨i, hlt, HQ.out, HP.out, rfl, X1.out⟩)⟩
    · obtain rfl : i = L := by omega
      have t3 : decide ((i : Int) < i) = false := by simp
      go_wp2_with fail
      go_ret
      exact ⟨-1, rfl, Lib.hid (.inr ⟨HP.out, rfl, HX.out⟩)⟩
/-- Is there one? -/
def Held (n : Nat) (p : Nat → Bool) (I : Nat → World → Prop) (r : Bool) (w : World) : Prop :=
  (∃ i, i < n ∧ p i = true ∧ (∀ j, j < i → p j = false) ∧ r = true ∧ I (i + 1) w) ∨ ((∀ j, j < n → p j = false) ∧ r = false ∧ I n w)
theorem conten_any {fid : Nat} (hc : Enters fid) (es : List En) (A : Option Addr) (c : Nat) (caps : Array Value) (p : Nat → Bool) (I : Nat → World → Prop) (hl : es.length ≤ maxLen) (hA : ∀ i W, I i W → EsAt W A es)
    (H : ∀ i W Aa ca Ac cc, i < es.length → I i W → enI W (en es i) Aa ca Ac cc → Calls Try.prog fid (#[enV (en es i) Aa ca Ac cc] ++ caps) W fun e w' => e = .returned (.bool (p i)) ∧ I (i + 1) w')
    (w : World) (hw : I 0 w) :
    Calls Try.prog 39 #[.slice A es.length c, .func (.func fid) #[] caps] w fun e w' => ∃ r : Bool, e = .returned (.bool r) ∧ Hid (Held es.length p I r w') := by
  have HX := Lib.hid (indexen_any hc es A c caps p I hl hA H w hw)
  clear hc hl hA H hw
  generalize es.length = L at *
  go_enter Try.func39, Try.ntmps39
  go_wp2_with fail
  refine HX.out.mono ?_
  rintro e w1 ⟨k, rfl, hk⟩
  have HK : Hid (Held L p I (decide (0 ≤ k)) w1) := Lib.hid (by
    rcases hk.out with ⟨i, h1, h2, h3, h4, h5⟩ | ⟨h1, h2, h3⟩
    · exact .inl ⟨i, h1, h2, h3, by subst h4; simp, h5⟩
    · exact .inr ⟨h1, by subst h2; rfl, h3⟩)
  clear hk
  go_wp2_with fail
  go_ret
  exact ⟨_, rfl, HK⟩
set_option maxRecDepth 100000 in
set_option maxHeartbeats 2000000 in
theorem indexint_any {fid : Nat} (hc : Enters fid) (xs : List Int) (A : Option Addr) (c : Nat) (caps : Array Value) (p : Int → Bool) (C : World → Prop) (hC : ∀ W W', C W → Below W.heap.size W W' → C W') (hl : xs.length ≤ maxLen)
    (H : ∀ i W, i < xs.length → C W → Calls Try.prog fid (#[.int .i64 (nth xs i)] ++ caps) W fun e w' => e = .returned (.bool (p (nth xs i))) ∧ Below W.heap.size W w')
    (w : World) (h : Is w A xs) (hw : C w) :
    Calls Try.prog 68 #[.slice A xs.length c, .func (.func fid) #[] caps] w fun e w' => ∃ k : Int, e = .returned (.int .i64 k) ∧ Hid (decide (0 ≤ k) = xs.any p) ∧ Below w.heap.size w w' := by
  have HA := Lib.hid h
  have HH := Lib.hid H
  have HC := Lib.hid hC
  have HW := Lib.hid hw
  have HCC := Lib.hid hc
  unfold maxLen at hl
  generalize hL : xs.length = L at *
  have HL := Lib.hid hL
  clear h H hC hw hL hc
  go_enter Try.func68, Try.ntmps68
  go_wp2_with fail
  go_loopw [5, 8] (fun _ k wr => ∃ i : Nat, i ≤ L ∧ k = .int .i64 i ∧ Hid (∀ j, j < i → p (nth xs j) = false) ∧ Hid (C wr) ∧ Hid (Below w.heap.size w wr)) (fun _ k _ => L - (intOf k).toNat)
  case atStart => exact ⟨0, by omega, rfl, Lib.hid (fun j hj => absurd hj (by omega)), HW, Lib.hid (Below.refl _ _)⟩
  case round =>
    obtain ⟨i, hi, rfl, HP, HX, HB⟩ := hrel
    by_cases hlt : i < L
    · obtain ⟨b, o, rfl, hb, c0⟩ := is_at (i := i) (HA.out.below HB.out) (by rw [HL.out]; exact hlt)
      have t3 : decide ((i : Int) < L) = true := by simpa using hlt
      have HX2 := Lib.hid (HH.out i wr hlt HX.out)
      have HXI : Hid (nth xs i = nth xs i) := Lib.hid rfl
      go_wp2_with fail
      rw [HCC.out, Oper.upon_enter]
      refine HX2.out.mono ?_
      rintro e w1 ⟨rfl, hb1⟩
      have G1 : Hid (Below w.heap.size w w1) := bw_below (Nat.le_refl _) HB.out hb1
      have X1 : Hid (C w1) := HC.out _ _ HX.out hb1
      clear hb1
      cases hq : p (nth xs i) with
      | false =>
        have HQ := Lib.hid hq
        clear hq
        go_wp2_with fail
        go_round
        case rel => exact ⟨i + 1, by omega, by go_num, Lib.hid (fun j hj => by
          rcases Nat.lt_or_ge j i with z | z
          · exact HP.out j z
          · obtain rfl : j = i := by omega
            exact HQ.out), X1, G1⟩
        case measure => simp [intOf]; omega
      | true =>
        have HQ := Lib.hid hq
        clear hq
        go_wp2_with fail
        go_ret
        exact ⟨_, rfl, Lib.hid (by
          have : xs.any p = true := List.any_eq_true.2 ⟨nth xs i, by rw [nth_of (by rw [HL.out]; exact hlt)]; exact List.getElem_mem _, HQ.out⟩
          rw [this]; simp), G1.out⟩
    · obtain rfl : i = L := by omega
      have t3 : decide ((i : Int) < i) = false := by simp
      go_wp2_with fail
      go_ret
      exact ⟨_, rfl, Lib.hid (by
        have : xs.any p = false := List.any_eq_false.2 (fun x hx => by
          obtain ⟨j, hj, rfl⟩ := List.getElem_of_mem hx
          rw [← nth_of hj, HP.out j (by rw [← HL.out]; exact hj)]
          simp)
        rw [this]; simp), HB.out⟩
theorem contint_any {fid : Nat} (hc : Enters fid) (xs : List Int) (A : Option Addr) (c : Nat) (caps : Array Value) (p : Int → Bool) (C : World → Prop) (hC : ∀ W W', C W → Below W.heap.size W W' → C W') (hl : xs.length ≤ maxLen)
    (H : ∀ i W, i < xs.length → C W → Calls Try.prog fid (#[.int .i64 (nth xs i)] ++ caps) W fun e w' => e = .returned (.bool (p (nth xs i))) ∧ Below W.heap.size W w')
    (w : World) (h : Is w A xs) (hw : C w) :
    Calls Try.prog 42 #[.slice A xs.length c, .func (.func fid) #[] caps] w fun e w' => e = .returned (.bool (xs.any p)) ∧ Below w.heap.size w w' := by
  have HX := Lib.hid (indexint_any hc xs A c caps p C hC hl H w h hw)
  clear h H hC hw hl hc
  generalize xs.length = L at *
  go_enter Try.func42, Try.ntmps42
  go_wp2_with fail
  refine HX.out.mono ?_
  rintro e w1 ⟨k, rfl, hk, hb1⟩
  have HB1 := Lib.hid hb1
  clear hb1
  go_wp2_with fail
  rw [hk.out]
  go_ret
  exact ⟨rfl, HB1.out⟩
end Go.Proofs.Ytibpgcdaommjeaa
namespace Go.Proofs.Ytibpgcdaommjeaa
open Go.RowKit

/-- A fraction as an argument. -/
def frV (q : Int × Int) : Value := .agg #[.int .i64 q.1, .int .i64 q.2]
theorem cs_two {w : World} {A : Option Addr} {cs : List (Int × Int)} (h : CsAt w A cs) (hi : 2 ≤ cs.length) : ∃ b o, A = some ⟨b, o, none⟩ ∧ b < w.heap.size ∧ w.cell? ⟨b, o, none⟩ = some (.int .i64 (cn cs 0).1) ∧ w.cell? ⟨b, o + 1, none⟩ = some (.int .i64 (cn cs 0).2) ∧ w.cell? ⟨b, o + 2, none⟩ = some (.int .i64 (cn cs 1).1) ∧ w.cell? ⟨b, o + 2 + 1, none⟩ = some (.int .i64 (cn cs 1).2) ∧ w.cell? ⟨b, o + 3, none⟩ = some (.int .i64 (cn cs 1).2) := by
  obtain ⟨b, o, e, l, q⟩ := h (by omega)
  obtain ⟨x0, y0⟩ := q 0 _ (getD_of (l := cs) (d := (0, 0)) (by omega))
  obtain ⟨x1, y1⟩ := q 1 _ (getD_of (l := cs) (d := (0, 0)) (by omega))
  exact ⟨b, o, e, l, x0, y0, x1, y1, y1⟩
theorem cs_three {w : World} {A : Option Addr} {cs : List (Int × Int)} (h : CsAt w A cs) (hi : 3 ≤ cs.length) : ∃ b o, A = some ⟨b, o, none⟩ ∧ b < w.heap.size ∧ w.cell? ⟨b, o, none⟩ = some (.int .i64 (cn cs 0).1) ∧ w.cell? ⟨b, o + 1, none⟩ = some (.int .i64 (cn cs 0).2) ∧ w.cell? ⟨b, o + 2, none⟩ = some (.int .i64 (cn cs 1).1) ∧ w.cell? ⟨b, o + 2 + 1, none⟩ = some (.int .i64 (cn cs 1).2) ∧ w.cell? ⟨b, o + 3, none⟩ = some (.int .i64 (cn cs 1).2) ∧ w.cell? ⟨b, o + 4, none⟩ = some (.int .i64 (cn cs 2).1) ∧ w.cell? ⟨b, o + 4 + 1, none⟩ = some (.int .i64 (cn cs 2).2) ∧ w.cell? ⟨b, o + 5, none⟩ = some (.int .i64 (cn cs 2).2) := by
  obtain ⟨b, o, e, l, q⟩ := h (by omega)
  obtain ⟨x0, y0⟩ := q 0 _ (getD_of (l := cs) (d := (0, 0)) (by omega))
  obtain ⟨x1, y1⟩ := q 1 _ (getD_of (l := cs) (d := (0, 0)) (by omega))
  obtain ⟨x2, y2⟩ := q 2 _ (getD_of (l := cs) (d := (0, 0)) (by omega))
  exact ⟨b, o, e, l, x0, y0, x1, y1, y1, x2, y2, y2⟩
theorem istrue_any (n d : Int) (w : World) : Calls Try.prog 60 #[.agg #[.int .i64 n, .int .i64 d]] w fun e w' => e = .returned (.bool (n == 1)) ∧ Below w.heap.size w w' := by
  go_enter Try.func60, Try.ntmps60
  go_wp2_with fail
  go_ret
  exact ⟨rfl, by go_grown⟩
theorem isfalse_any (n d : Int) (w : World) : Calls Try.prog 64 #[.agg #[.int .i64 n, .int .i64 d]] w fun e w' => e = .returned (.bool (n == 0)) ∧ Below w.heap.size w w' := by
  go_enter Try.func64, Try.ntmps64
  go_wp2_with fail
  go_ret
  exact ⟨rfl, by go_grown⟩
theorem asnumber_any (b : Bool) (w : World) : Calls Try.prog 34 #[.bool b] w fun e w' => e = .returned (.int .i64 (if b then 1 else 0)) ∧ w' = w := by
  cases b
  all_goals
    go_enter Try.func34, Try.ntmps34
    go_wp2_with fail
    go_ret
    exact ⟨rfl, rfl⟩
theorem whole_any (n : Int) (w : World) : Calls Try.prog 31 #[.int .i64 n] w fun e w' => e = .returned (.agg #[.int .i64 n, .int .i64 1, .slice none 0 0, .int .i64 0]) ∧ Below w.heap.size w w' := by
  go_enter Try.func31, Try.ntmps31
  go_wp2_with fail
  refine bodyPost_ret (v := .agg #[.int .i64 n, .int .i64 1, .slice none 0 0, .int .i64 0]) (by simp [results, Try.results31, go_sem]) rfl ⟨rfl, ?_⟩
  go_grown
/-- A choice. -/
def pickF (fs : List (Int × Int)) : Int × Int := if (cn fs 0).1 == 1 then cn fs 1 else cn fs 2
set_option maxHeartbeats 1000000 in
theorem pick_any' (fs : List (Int × Int)) (A : Option Addr) (c : Nat) (h3 : 3 ≤ fs.length) (hm : fs.length ≤ maxLen) (w : World) (h : CsAt w A fs) :
    Calls Try.prog 29 #[.slice A fs.length c] w fun e w' => e = .returned (.agg #[.int .i64 (pickF fs).1, .int .i64 (pickF fs).2]) ∧ Below w.heap.size w w' := by
  obtain ⟨b, o, rfl, hb, x0, y0, x1, y1, z1, x2, y2, z2⟩ := cs_three h h3
  have HS : Hid (∀ W, Below w.heap.size w W → W.cell? ⟨b, o, none⟩ = some (.int .i64 (cn fs 0).1) ∧ W.cell? ⟨b, o + 1, none⟩ = some (.int .i64 (cn fs 0).2) ∧ W.cell? ⟨b, o + 2, none⟩ = some (.int .i64 (cn fs 1).1) ∧ W.cell? ⟨b, o + 2 + 1, none⟩ = some (.int .i64 (cn fs 1).2) ∧ W.cell? ⟨b, o + 3, none⟩ = some (.int .i64 (cn fs 1).2) ∧ W.cell? ⟨b, o + 4, none⟩ = some (.int .i64 (cn fs 2).1) ∧ W.cell? ⟨b, o + 4 + 1, none⟩ = some (.int .i64 (cn fs 2).2) ∧ W.cell? ⟨b, o + 5, none⟩ = some (.int .i64 (cn fs 2).2)) := Lib.hid (fun W k =>
    ⟨(k.cell (p := ⟨b, o, none⟩) hb).trans x0, (k.cell (p := ⟨b, o + 1, none⟩) hb).trans y0, (k.cell (p := ⟨b, o + 2, none⟩) hb).trans x1, (k.cell (p := ⟨b, o + 2 + 1, none⟩) hb).trans y1, (k.cell (p := ⟨b, o + 3, none⟩) hb).trans z1, (k.cell (p := ⟨b, o + 4, none⟩) hb).trans x2, (k.cell (p := ⟨b, o + 4 + 1, none⟩) hb).trans y2, (k.cell (p := ⟨b, o + 5, none⟩) hb).trans z2⟩)
  unfold pickF
  unfold maxLen at hm
  clear h x0 y0 x1 y1 z1 x2 y2 z2
  generalize fs.length = L at *
  generalize cn fs 0 = q0 at *
  generalize cn fs 1 = q1 at *
  generalize cn fs 2 = q2 at *
  obtain ⟨n0, d0⟩ := q0
  obtain ⟨n1, d1⟩ := q1
  obtain ⟨n2, d2⟩ := q2
  dsimp only at HS ⊢
  have l0 : (0 : Int) < L := by omega
  have l1 : (1 : Int) < L := by omega
  have l2 : (2 : Int) < L := by omega
  obtain ⟨x0, y0, -, -, -, -, -, -⟩ := HS.out w (Below.refl _ _)
  have G0 := Lib.hid (HB.new w 39 #[.int .i64 0, .int .i64 0])
  go_enter Try.func29, Try.ntmps29
  go_wp2_with fail
  refine (istrue_any _ _ _).mono ?_
  rintro e w1 ⟨rfl, hb1⟩
  have B1 : Hid (Below w.heap.size w w1) := Lib.hid (below_after (by go_grown) hb1)
  have G1 := Lib.hid (G0.out.below hb1)
  obtain ⟨x0', y0', x1, y1, z1, x2, y2, z2⟩ := HS.out w1 B1.out
  obtain ⟨g0, g1, gf0, gf1⟩ := G1.out.two
  clear hb1 x0 y0 x0' y0'
  have T := G1.out.set_ 0
  cases hq : n0 == 1 with
  | true =>
    go_wp2_with fail
    refine bodyPost_ret (v := .agg #[.int .i64 n1, .int .i64 d1]) (by
      obtain ⟨v0, v1, _⟩ := (hb_set2 (n := .int .i64 n1) (d := .int .i64 d1) G1.out).two
      simp [results, Try.results29, go_sem, v0, v1]) rfl ⟨rfl, ?_⟩
    exact bw_far B1.out (Nat.le_refl _) (far2 _ _ _ _)
  | false =>
    go_wp2_with fail
    refine bodyPost_ret (v := .agg #[.int .i64 n2, .int .i64 d2]) (by
      obtain ⟨v0, v1, _⟩ := (hb_set2 (n := .int .i64 n2) (d := .int .i64 d2) G1.out).two
      simp [results, Try.results29, go_sem, v0, v1]) rfl ⟨rfl, ?_⟩
    exact bw_far B1.out (Nat.le_refl _) (far2 _ _ _ _)
/-- Is a fraction less? -/
def ltF (p q : Int × Int) : Bool := decide (p.1 * q.2 < q.1 * p.2)
theorem lessv_any (p q : Int × Int) (w : World) (hp : fvalid p.1 p.2 = true) (hq : fvalid q.1 q.2 = true) : Calls Try.prog 66 #[.agg #[.int .i64 p.1, .int .i64 p.2], .agg #[.int .i64 q.1, .int .i64 q.2]] w fun e w' => e = .returned (.bool (ltF p q)) ∧ Below w.heap.size w w' := by
  have HL := Lib.hid (fun W => less_good p.1 p.2 q.1 q.2 W hp hq)
  unfold GivesB at HL
  unfold ltF
  generalize decide (p.1 * q.2 < q.1 * p.2) = r at *
  generalize p.1 = a at *
  generalize p.2 = b at *
  generalize q.1 = x at *
  generalize q.2 = y at *
  clear hp hq
  go_enter Try.func66, Try.ntmps66
  go_wp2_with fail
  refine (HL.out _).mono ?_
  rintro e w1 ⟨rfl, hb1⟩
  have B1 : Hid (Below w.heap.size w w1) := Lib.hid (below_after (by go_grown) hb1)
  clear hb1
  go_wp2_with fail
  go_ret
  have z1 := B1.out
  have z2 := z1.size
  exact ⟨rfl, by go_grown⟩
theorem cn_of {fs : List (Int × Int)} {i : Nat} (h : i < fs.length) : cn fs i = fs[i] := by simp [cn, List.getD, h]
theorem cn_mem {fs : List (Int × Int)} {i : Nat} (h : i < fs.length) : cn fs i ∈ fs := by rw [cn_of h]; exact List.getElem_mem _
set_option maxRecDepth 100000 in
set_option maxHeartbeats 2000000 in
theorem indexfr_any {fid : Nat} (hc : Enters fid) (fs : List (Int × Int)) (A : Option Addr) (c : Nat) (caps : Array Value) (p : Int × Int → Bool) (hl : fs.length ≤ maxLen)
    (H : ∀ i W, i < fs.length → Calls Try.prog fid (#[.agg #[.int .i64 (cn fs i).1, .int .i64 (cn fs i).2]] ++ caps) W fun e w' => e = .returned (.bool (p (cn fs i))) ∧ Below W.heap.size W w')
    (w : World) (h : CsAt w A fs) :
    Calls Try.prog 90 #[.slice A fs.length c, .func (.func fid) #[] caps] w fun e w' => ∃ k : Int, e = .returned (.int .i64 k) ∧ Hid (decide (0 ≤ k) = fs.any p) ∧ Below w.heap.size w w' := by
  have HA := Lib.hid h
  have HH := Lib.hid H
  have HCC := Lib.hid hc
  unfold maxLen at hl
  generalize hL : fs.length = L at *
  have HL := Lib.hid hL
  clear h H hL hc
  go_enter Try.func90, Try.ntmps90
  go_wp2_with fail
  go_loopw [5, 8] (fun _ k wr => ∃ i : Nat, i ≤ L ∧ k = .int .i64 i ∧ Hid (∀ j, j < i → p (cn fs j) = false) ∧ Hid (Below w.heap.size w wr)) (fun _ k _ => L - (intOf k).toNat)
  case atStart => exact ⟨0, by omega, rfl, Lib.hid (fun j hj => absurd hj (by omega)), Lib.hid (Below.refl _ _)⟩
  case round =>
    obtain ⟨i, hi, rfl, HP, HB⟩ := hrel
    by_cases hlt : i < L
    · obtain ⟨b, o, rfl, hb, c0, c1⟩ := cs_at (i := i) (HA.out.below HB.out) (by rw [HL.out]; exact hlt)
      have t3 : decide ((i : Int) < L) = true := by simpa using hlt
      have HX2 := Lib.hid (HH.out i wr hlt)
      generalize hcn : cn fs i = q at *
      have HCN := Lib.hid hcn
      clear hcn
      obtain ⟨qn, qd⟩ := q
      dsimp only at c0 c1 HX2
      go_wp2_with fail
      rw [HCC.out, Oper.upon_enter]
      refine HX2.out.mono ?_
      rintro e w1 ⟨rfl, hb1⟩
      have G1 : Hid (Below w.heap.size w w1) := bw_below (Nat.le_refl _) HB.out hb1
      clear hb1
      cases hq : p (qn, qd) with
      | false =>
        have HQ := Lib.hid hq
        clear hq
        go_wp2_with fail
        go_round
        case rel => exact ⟨i + 1, by omega, by go_num, Lib.hid (fun j hj => by
          rcases Nat.lt_or_ge j i with z | z
          · exact HP.out j z
          · obtain rfl : j = i := by omega
            rw [HCN.out]
            exact HQ.out), G1⟩
        case measure => simp [intOf]; omega
      | true =>
        have HQ := Lib.hid hq
        clear hq
        go_wp2_with fail
        go_ret
        exact ⟨_, rfl, Lib.hid (by
          have : fs.any p = true := List.any_eq_true.2 ⟨cn fs i, cn_mem (by rw [HL.out]; exact hlt), by rw [HCN.out]; exact HQ.out⟩
          rw [this]; simp), G1.out⟩
    · obtain rfl : i = L := by omega
      have t3 : decide ((i : Int) < i) = false := by simp
      go_wp2_with fail
      go_ret
      exact ⟨_, rfl, Lib.hid (by
        have : fs.any p = false := List.any_eq_false.2 (fun x hx => by
          obtain ⟨j, hj, rfl⟩ := List.getElem_of_mem hx
          have := HP.out j (by rw [← HL.out]; exact hj)
          rw [cn_of hj] at this
          rw [this]
          simp)
        rw [this]; simp), HB.out⟩
theorem contfr_any {fid : Nat} (hc : Enters fid) (fs : List (Int × Int)) (A : Option Addr) (c : Nat) (caps : Array Value) (p : Int × Int → Bool) (hl : fs.length ≤ maxLen)
    (H : ∀ i W, i < fs.length → Calls Try.prog fid (#[.agg #[.int .i64 (cn fs i).1, .int .i64 (cn fs i).2]] ++ caps) W fun e w' => e = .returned (.bool (p (cn fs i))) ∧ Below W.heap.size W w')
    (w : World) (h : CsAt w A fs) :
    Calls Try.prog 65 #[.slice A fs.length c, .func (.func fid) #[] caps] w fun e w' => e = .returned (.bool (fs.any p)) ∧ Below w.heap.size w w' := by
  have HX := Lib.hid (indexfr_any hc fs A c caps p hl H w h)
  clear h H hl hc
  generalize fs.length = L at *
  go_enter Try.func65, Try.ntmps65
  go_wp2_with fail
  refine HX.out.mono ?_
  rintro e w1 ⟨k, rfl, hk, hb1⟩
  have HB1 := Lib.hid hb1
  clear hb1
  go_wp2_with fail
  rw [hk.out]
  go_ret
  exact ⟨rfl, HB1.out⟩
end Go.Proofs.Ytibpgcdaommjeaa
