/-
  Fits, and an append of one whole number to a row of the call's own.
-/
import Derived.Test.YtkjollifghmkbaaRowD
import Derived.Test.YtkjollifghmkbaaRowL
namespace Go.Proofs.Ytkjollifghmkbaa
open Go.RowKit

theorem fits_any (n : Int) (w : World) : Calls Try.prog 27 #[.int .i64 n] w fun e w' => e = .returned (.bool (inB n)) ∧ w = w' := by
  by_cases h1 : n ≤ 1000000
  · have e : inB n = decide (-1000000 ≤ n) := by simp [inB, h1]
    rw [e]
    have d : decide (n ≤ 1000000) = true := by simpa using h1
    clear e
    go_enter Try.func27, Try.ntmps27
    go_wp2
    go_ret
    exact ⟨rfl, rfl⟩
  · have e : inB n = false := by simp [inB, h1]
    rw [e]
    have d : decide (n ≤ 1000000) = false := by simpa using h1
    clear e
    go_enter Try.func27, Try.ntmps27
    go_wp2
    go_ret
    exact ⟨rfl, rfl⟩
/-- What an append to a row of whole numbers leaves as it was. -/
theorem step_int {w : World} {ops : Array Oper} {o : Oper} {a : Act} {K : Act → World → Prop} {Q : Exit → Act → World → Prop} {E : Prop} (hgd : o.guard = none) (s x : Operand)
    (ho : o.op = .call { callee := .builtin .append, args := #[s, x], argTypes := #[22, 22] })
    (base : Nat) (v : Value) (n : Nat) (xs : List Value) (hs : a.eval s = v) (hown : w.ownsRow base 3 1 v n xs) (gb : Nat) (u : Value) (hx : a.eval x = .slice (some ⟨gb, 0, none⟩) 1 1) (hnews : HB w gb 3 #[u]) (h1 : u.oneCell' = true)
    (hn : (n + 1) * 8 ≤ 140737488355328) (hbase : base ≤ w.heap.size)
    (h : ∀ g cap w', Hid (w'.ownsRow base 3 1 (.slice (some ⟨g, 0, none⟩) (n + 1) cap) (n + 1) (xs ++ [u])) → Keep3 w w' → (∀ W, Below base W w → Below base W w') → K (a.put o.dst (.slice (some ⟨g, 0, none⟩) (n + 1) cap)) w') :
    if Region.wanted o (yielded ops a.tmps) = true then Oper.wp Try.prog o a w K Q else E := by
  obtain ⟨i0, hi0, hz0, hz1, hz2⟩ := info_parts int_info
  refine step_append_lies w hgd s x 22 ho base 3 i0 (.int .i64 0) 1 8 Try.underlying22 hi0 hz0 hz1 hz2 rfl (by omega) v n xs hs hown ⟨gb, 0, none⟩ 1 1 [u] hx rfl (World.news_of_block (cs := #[u]) hnews) (by simpa using h1) (by omega) (by unfold maxLen; omega) (by omega) hbase _ rfl ?_
  intro g cap w' hown' hg _ _
  refine h g cap w' (Lib.hid hown') (keep3_grown hown hg) (fun W hW => ?_)
  refine hW.grown hg hbase (fun j hj => ?_)
  rcases hown.2 with ⟨rfl, _⟩ | ⟨g', cp, cur, rfl, hb', _⟩
  · simp [Value.ownBlock] at hj
  · simp [Value.ownBlock] at hj; omega
/-- The values of whole numbers. -/
def intsV (f : Nat → Int) (n : Nat) : List Value := (List.range n).map fun j => .int .i64 (f j)
theorem intsV_succ (f : Nat → Int) (n : Nat) : intsV f (n + 1) = intsV f n ++ [.int .i64 (f n)] := by simp [intsV, List.range_succ]
theorem own_cap {w : World} {base n c : Nat} {e : TypeId} {A : Option Addr} {xs : List Value} (h : w.ownsRow base e 1 (.slice A n c) n xs) : n ≤ c := by
  rcases h.2 with ⟨e, z⟩ | ⟨g, cap, cur, e, _, _, hc, _⟩
  · omega
  · injection e with _ _ e; omega
theorem own_is {w : World} {base c : Nat} {A : Option Addr} {f : Nat → Int} {n : Nat} {ys : List Int} (h : w.ownsRow base 3 1 (.slice A n c) n (intsV f n)) (hl : ys.length = n) (hy : ∀ j, j < n → nth ys j = f j) : Is w A ys := fun z => by
  rcases h.2 with ⟨_, e⟩ | ⟨g, cap, cur, e, _, hh, hc, _, hsz, htk⟩
  · omega
  · injection e with e _ _
    refine ⟨g, 0, e, ?_, fun k hk => ?_⟩
    · rcases Nat.lt_or_ge g w.heap.size with l | l
      · exact l
      · rw [Array.getElem?_eq_none l] at hh; cases hh
    · have hkn : k < n := by omega
      have e1 : (intsV f n)[k]? = some (.int .i64 (f k)) := by simp [intsV, hkn]
      rw [← htk, Nat.mul_one, List.getElem?_take_of_lt hkn] at e1
      rw [Nat.zero_add, cell_of_row w g k cur 3 (0, 0) hh, hy k hkn]
      simpa using e1
end Go.Proofs.Ytkjollifghmkbaa
