/-
  The contracts of frac.ofValid and of the closures that it is given; of Add, Sub, Times, Over, Less and Floor.
-/
import Derived.Test.YtapaggpkoelamaaFracB
namespace Go.Proofs.Ytapaggpkoelamaa
open Go.RowKit

/-- The way in which a call that yields a Bool and a fault ends. -/
def GivesB (r : Bool) (c i : Int) (w : World) (e : Ending) (w' : World) : Prop := e = .returned (.tuple #[.bool r, .agg #[.int .i64 c, .int .i64 i]]) ∧ Below w.heap.size w w'

theorem below_more {A b C d : World} (G : Below A.heap.size A b) (hb : Below C.heap.size C d) (hm : Below b.heap.size b C) : Below A.heap.size A d := below_after (below_after G hm) hb

set_option maxHeartbeats 400000 in
theorem of_bool_good (an ad bn bd : Int) (w : World) (k : FuncId) (p q : Value) (r : Bool) (ek : ∀ args w, (callFunc k args).run Try.prog w = .ok (.enter k args) w) (ha : fvalid an ad = true) (hb : fvalid bn bd = true)
    (hk : ∀ w1, Below w.heap.size w w1 → Calls Try.prog k #[p, q] w1 (GivesB r 0 0 w1)) :
    Calls Try.prog 30 #[.agg #[.int .i64 an, .int .i64 ad], .agg #[.int .i64 bn, .int .i64 bd], .func (.func k) #[] #[p, q]] w (GivesB r 0 0 w) := by
  have HK : Hid (∀ w1, Below w.heap.size w w1 → Calls Try.prog k #[p, q] w1 (GivesB r 0 0 w1)) := hk
  clear hk
  have i0 : ∀ w, (Instr.index 71 (.agg #[.int .i64 an, .int .i64 ad, .int .i64 bn, .int .i64 bd]) (.int .i64 0)).run Try.prog w = .ok (.agg #[.int .i64 an, .int .i64 ad]) w := fun _ => by kernel_rfl
  have i1 : ∀ w, (Instr.index 71 (.agg #[.int .i64 an, .int .i64 ad, .int .i64 bn, .int .i64 bd]) (.int .i64 1)).run Try.prog w = .ok (.agg #[.int .i64 bn, .int .i64 bd]) w := fun _ => by kernel_rfl
  go_enter Try.func30, Try.ntmps30
  go_wp2_with fail
  refine wp_loop_rounds 3 ?_
  rw [rounds_succ]
  go_wp2_with fail
  refine (valid_any _ _ _).mono ?_
  rw [ha]
  rintro e w1 ⟨rfl, hb1⟩
  obtain ⟨hc1, hf1, hl1, hm1⟩ := bfour hb1
  have g1 : Below w.heap.size w w1 := below_after (by go_grown) hb1
  go_wp2_with fail
  rw [rounds_succ]
  go_wp2_with fail
  refine (valid_any _ _ _).mono ?_
  rw [hb]
  rintro e w2 ⟨rfl, hb2⟩
  have hb21 := below_more hb1 hb2 (by go_grown)
  obtain ⟨hc2, hf2, hl2, hm2⟩ := bfour hb2
  obtain ⟨hc21, hf21, hl21, hm21⟩ := bfour hb21
  have g2 : Below w.heap.size w w2 := below_more g1 hb2 (by go_grown)
  clear g1 hc1 hf1 hl1 hm1
  go_wp2_with fail
  rw [rounds_succ]
  go_wp2_with fail
  refine (HK.out _ g2).mono ?_
  rintro e w3 ⟨rfl, hb3⟩
  have hb31 := below_more hb21 hb3 (by go_grown)
  obtain ⟨hc31, hf31, hl31, hm31⟩ := bfour hb31
  have g3 : Below w.heap.size w w3 := below_after g2 hb3
  clear g2 hc2 hf2 hl2 hm2 hc21 hf21 hl21 hm21
  go_wp2_with fail
  refine bodyPost_ret (v := .tuple #[.bool r, .agg #[.int .i64 0, .int .i64 0]]) (by simp [results, Try.results30, go_sem, hc31]) rfl ⟨rfl, ?_⟩
  go_grown

set_option maxHeartbeats 400000 in
theorem of_frac_good (an ad bn bd : Int) (w : World) (k : FuncId) (p q : Value) (n d c i : Int) (ek : ∀ args w, (callFunc k args).run Try.prog w = .ok (.enter k args) w) (ha : fvalid an ad = true) (hb : fvalid bn bd = true)
    (hk : ∀ w1, Below w.heap.size w w1 → Calls Try.prog k #[p, q] w1 (Gives n d c i w1)) :
    Calls Try.prog 25 #[.agg #[.int .i64 an, .int .i64 ad], .agg #[.int .i64 bn, .int .i64 bd], .func (.func k) #[] #[p, q]] w (Gives n d c i w) := by
  have HK : Hid (∀ w1, Below w.heap.size w w1 → Calls Try.prog k #[p, q] w1 (Gives n d c i w1)) := hk
  clear hk
  have i0 : ∀ w, (Instr.index 71 (.agg #[.int .i64 an, .int .i64 ad, .int .i64 bn, .int .i64 bd]) (.int .i64 0)).run Try.prog w = .ok (.agg #[.int .i64 an, .int .i64 ad]) w := fun _ => by kernel_rfl
  have i1 : ∀ w, (Instr.index 71 (.agg #[.int .i64 an, .int .i64 ad, .int .i64 bn, .int .i64 bd]) (.int .i64 1)).run Try.prog w = .ok (.agg #[.int .i64 bn, .int .i64 bd]) w := fun _ => by kernel_rfl
  go_enter Try.func25, Try.ntmps25
  go_wp2_with fail
  refine wp_loop_rounds 3 ?_
  rw [rounds_succ]
  go_wp2_with fail
  refine (valid_any _ _ _).mono ?_
  rw [ha]
  rintro e w1 ⟨rfl, hb1⟩
  obtain ⟨hc1, hf1, hl1, hm1⟩ := bfour hb1
  have g1 : Below w.heap.size w w1 := below_after (by go_grown) hb1
  go_wp2_with fail
  rw [rounds_succ]
  go_wp2_with fail
  refine (valid_any _ _ _).mono ?_
  rw [hb]
  rintro e w2 ⟨rfl, hb2⟩
  have hb21 := below_more hb1 hb2 (by go_grown)
  obtain ⟨hc2, hf2, hl2, hm2⟩ := bfour hb2
  obtain ⟨hc21, hf21, hl21, hm21⟩ := bfour hb21
  have g2 : Below w.heap.size w w2 := below_more g1 hb2 (by go_grown)
  clear g1 hc1 hf1 hl1 hm1
  go_wp2_with fail
  rw [rounds_succ]
  go_wp2_with fail
  refine (HK.out _ g2).mono ?_
  rintro e w3 ⟨rfl, hb3⟩
  have hb31 := below_more hb21 hb3 (by go_grown)
  obtain ⟨hc31, hf31, hl31, hm31⟩ := bfour hb31
  have g3 : Below w.heap.size w w3 := below_after g2 hb3
  clear g2 hc2 hf2 hl2 hm2 hc21 hf21 hl21 hm21
  go_wp2_with fail
  refine bodyPost_ret (v := .tuple #[.agg #[.int .i64 n, .int .i64 d], .agg #[.int .i64 c, .int .i64 i]]) (by simp [results, Try.results25, go_sem, hc31]) rfl ⟨rfl, ?_⟩
  go_grown

set_option maxHeartbeats 400000 in
theorem of_bool_bad0 (an ad bn bd : Int) (w : World) (k : FuncId) (p q : Value) (ha : fvalid an ad = false) :
    Calls Try.prog 30 #[.agg #[.int .i64 an, .int .i64 ad], .agg #[.int .i64 bn, .int .i64 bd], .func (.func k) #[] #[p, q]] w (GivesB false 3 0 w) := by
  have i0 : ∀ w, (Instr.index 71 (.agg #[.int .i64 an, .int .i64 ad, .int .i64 bn, .int .i64 bd]) (.int .i64 0)).run Try.prog w = .ok (.agg #[.int .i64 an, .int .i64 ad]) w := fun _ => by kernel_rfl
  go_enter Try.func30, Try.ntmps30
  go_wp2_with fail
  refine wp_loop_rounds 3 ?_
  rw [rounds_succ]
  go_wp2_with fail
  refine (valid_any _ _ _).mono ?_
  rw [ha]
  rintro e w1 ⟨rfl, hb1⟩
  obtain ⟨hc1, hf1, hl1, hm1⟩ := bfour hb1
  have g1 : Below w.heap.size w w1 := below_after (by go_grown) hb1
  go_wp2_with fail
  refine bodyPost_ret (v := .tuple #[.bool false, .agg #[.int .i64 3, .int .i64 0]]) (by simp [results, Try.results30, go_sem, hc1]) rfl ⟨rfl, ?_⟩
  go_grown

set_option maxHeartbeats 400000 in
theorem of_bool_bad1 (an ad bn bd : Int) (w : World) (k : FuncId) (p q : Value) (ha : fvalid an ad = true) (hb : fvalid bn bd = false) :
    Calls Try.prog 30 #[.agg #[.int .i64 an, .int .i64 ad], .agg #[.int .i64 bn, .int .i64 bd], .func (.func k) #[] #[p, q]] w (GivesB false 3 1 w) := by
  have i0 : ∀ w, (Instr.index 71 (.agg #[.int .i64 an, .int .i64 ad, .int .i64 bn, .int .i64 bd]) (.int .i64 0)).run Try.prog w = .ok (.agg #[.int .i64 an, .int .i64 ad]) w := fun _ => by kernel_rfl
  have i1 : ∀ w, (Instr.index 71 (.agg #[.int .i64 an, .int .i64 ad, .int .i64 bn, .int .i64 bd]) (.int .i64 1)).run Try.prog w = .ok (.agg #[.int .i64 bn, .int .i64 bd]) w := fun _ => by kernel_rfl
  go_enter Try.func30, Try.ntmps30
  go_wp2_with fail
  refine wp_loop_rounds 3 ?_
  rw [rounds_succ]
  go_wp2_with fail
  refine (valid_any _ _ _).mono ?_
  rw [ha]
  rintro e w1 ⟨rfl, hb1⟩
  obtain ⟨hc1, hf1, hl1, hm1⟩ := bfour hb1
  have g1 : Below w.heap.size w w1 := below_after (by go_grown) hb1
  go_wp2_with fail
  rw [rounds_succ]
  go_wp2_with fail
  refine (valid_any _ _ _).mono ?_
  rw [hb]
  rintro e w2 ⟨rfl, hb2⟩
  have hb21 := below_more hb1 hb2 (by go_grown)
  obtain ⟨hc2, hf2, hl2, hm2⟩ := bfour hb2
  obtain ⟨hc21, hf21, hl21, hm21⟩ := bfour hb21
  have g2 : Below w.heap.size w w2 := below_more g1 hb2 (by go_grown)
  clear hc1 hf1 hl1 hm1
  go_wp2_with fail
  refine bodyPost_ret (v := .tuple #[.bool false, .agg #[.int .i64 3, .int .i64 1]]) (by simp [results, Try.results30, go_sem, hc21]) rfl ⟨rfl, ?_⟩
  go_grown

set_option maxHeartbeats 400000 in
theorem of_frac_bad0 (an ad bn bd : Int) (w : World) (k : FuncId) (p q : Value) (ha : fvalid an ad = false) :
    Calls Try.prog 25 #[.agg #[.int .i64 an, .int .i64 ad], .agg #[.int .i64 bn, .int .i64 bd], .func (.func k) #[] #[p, q]] w (Gives 0 0 3 0 w) := by
  have i0 : ∀ w, (Instr.index 71 (.agg #[.int .i64 an, .int .i64 ad, .int .i64 bn, .int .i64 bd]) (.int .i64 0)).run Try.prog w = .ok (.agg #[.int .i64 an, .int .i64 ad]) w := fun _ => by kernel_rfl
  go_enter Try.func25, Try.ntmps25
  go_wp2_with fail
  refine wp_loop_rounds 3 ?_
  rw [rounds_succ]
  go_wp2_with fail
  refine (valid_any _ _ _).mono ?_
  rw [ha]
  rintro e w1 ⟨rfl, hb1⟩
  obtain ⟨hc1, hf1, hl1, hm1⟩ := bfour hb1
  have g1 : Below w.heap.size w w1 := below_after (by go_grown) hb1
  go_wp2_with fail
  refine bodyPost_ret (v := .tuple #[.agg #[.int .i64 0, .int .i64 0], .agg #[.int .i64 3, .int .i64 0]]) (by simp [results, Try.results25, go_sem, hc1, hl1]) rfl ⟨rfl, ?_⟩
  have z := g1.size
  go_grown

set_option maxHeartbeats 400000 in
theorem of_frac_bad1 (an ad bn bd : Int) (w : World) (k : FuncId) (p q : Value) (ha : fvalid an ad = true) (hb : fvalid bn bd = false) :
    Calls Try.prog 25 #[.agg #[.int .i64 an, .int .i64 ad], .agg #[.int .i64 bn, .int .i64 bd], .func (.func k) #[] #[p, q]] w (Gives 0 0 3 1 w) := by
  have i0 : ∀ w, (Instr.index 71 (.agg #[.int .i64 an, .int .i64 ad, .int .i64 bn, .int .i64 bd]) (.int .i64 0)).run Try.prog w = .ok (.agg #[.int .i64 an, .int .i64 ad]) w := fun _ => by kernel_rfl
  have i1 : ∀ w, (Instr.index 71 (.agg #[.int .i64 an, .int .i64 ad, .int .i64 bn, .int .i64 bd]) (.int .i64 1)).run Try.prog w = .ok (.agg #[.int .i64 bn, .int .i64 bd]) w := fun _ => by kernel_rfl
  go_enter Try.func25, Try.ntmps25
  go_wp2_with fail
  refine wp_loop_rounds 3 ?_
  rw [rounds_succ]
  go_wp2_with fail
  refine (valid_any _ _ _).mono ?_
  rw [ha]
  rintro e w1 ⟨rfl, hb1⟩
  obtain ⟨hc1, hf1, hl1, hm1⟩ := bfour hb1
  have g1 : Below w.heap.size w w1 := below_after (by go_grown) hb1
  go_wp2_with fail
  rw [rounds_succ]
  go_wp2_with fail
  refine (valid_any _ _ _).mono ?_
  rw [hb]
  rintro e w2 ⟨rfl, hb2⟩
  have hb21 := below_more hb1 hb2 (by go_grown)
  obtain ⟨hc2, hf2, hl2, hm2⟩ := bfour hb2
  obtain ⟨hc21, hf21, hl21, hm21⟩ := bfour hb21
  have g2 : Below w.heap.size w w2 := below_more g1 hb2 (by go_grown)
  clear hc1 hf1 hl1 hm1
  go_wp2_with fail
  refine bodyPost_ret (v := .tuple #[.agg #[.int .i64 0, .int .i64 0], .agg #[.int .i64 3, .int .i64 1]]) (by simp [results, Try.results25, go_sem, hc21, hl21]) rfl ⟨rfl, ?_⟩
  have z := g2.size
  go_grown

end Go.Proofs.Ytapaggpkoelamaa
