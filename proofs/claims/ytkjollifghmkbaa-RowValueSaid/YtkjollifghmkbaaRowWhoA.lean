/-
  An append of one fraction to a row of the call's own; the mathematics of row.Whole.
-/
import Derived.Test.YtkjollifghmkbaaRowY
import Derived.Test.YtkjollifghmkbaaRowW
import Derived.Test.YtkjollifghmkbaaRowS
namespace Go.Proofs.Ytkjollifghmkbaa
open Go.RowKit

theorem frac_info : (Try.prog.info? 27).map (fun i => (i.zero, i.size, i.bytes)) = some (some (.agg #[.int .i64 0, .int .i64 0]), 2, 16) := by kernel_rfl
theorem own_ne2 {w : World} {base m g : Nat} {e t : TypeId} {sz : Nat} {cs : Array Value} {v : Value} {xs : List Value} (h : w.ownsRow base e sz v m xs) (k : HB w g t cs) (ht : t ≠ e) : some g ≠ v.ownBlock := by
  rcases h.2 with ⟨rfl, _⟩ | ⟨g', cap, cur, rfl, _, hh, _⟩
  · simp [Value.ownBlock]
  · simp [Value.ownBlock]
    rintro rfl
    unfold HB at k
    rw [hh] at k
    injection k with k
    injection k with _ k
    exact ht k.symm
theorem wpl_frac (w : World) {ops : Array Oper} {rest : List Oper} {o : Oper} {a : Act} {Q : Exit → Act → World → Prop} (hgd : o.guard = none) (s x : Operand)
    (ho : o.op = .call { callee := .builtin .append, args := #[s, x], argTypes := #[25, 25] })
    (base : Nat) (v : Value) (n : Nat) (xs : List Value) (hs : a.eval s = v) (hown : w.ownsRow base 27 2 v n xs) (gb : Nat) (u1 u2 : Value) (hx : a.eval x = .slice (some ⟨gb, 0, none⟩) 1 1) (hnews : HB w gb 27 #[u1, u2]) (h1 : u1.oneCell' = true) (h2 : u2.oneCell' = true)
    (hn : (n + 1) * 16 ≤ 140737488355328) (hbase : base ≤ w.heap.size)
    (h : ∀ g cap w', Hid (w'.ownsRow base 27 2 (.slice (some ⟨g, 0, none⟩) (n + 1) cap) (n + 1) (xs ++ [u1, u2])) → (∀ g t cs, t ≠ 27 → HB w g t cs → HB w' g t cs) → (∀ W, Below base W w → Below base W w') → wpList Try.prog ops Q rest (a.put o.dst (.slice (some ⟨g, 0, none⟩) (n + 1) cap)) w') :
    wpList Try.prog ops Q (o :: rest) a w := by
  obtain ⟨i0, hi0, hz0, hz1, hz2⟩ := info_parts frac_info
  refine wpList_append_lies w hgd s x 25 ho base 27 i0 (.agg #[.int .i64 0, .int .i64 0]) 2 16 Try.underlying25 hi0 hz0 hz1 hz2 rfl (by omega) v n xs hs hown ⟨gb, 0, none⟩ 1 1 [u1, u2] hx rfl (World.news_of_block (cs := #[u1, u2]) hnews) (by simpa using ⟨h1, h2⟩) (by omega) (by unfold maxLen; omega) (by omega) hbase _ rfl ?_
  intro g cap w' hown' hg _ _
  refine h g cap w' (Lib.hid hown') (fun g' t cs ht hb => hb.grown hg (own_ne2 hown hb ht)) (fun W hW => ?_)
  refine hW.grown hg hbase (fun j hj => ?_)
  rcases hown.2 with ⟨rfl, _⟩ | ⟨g', cp, cur, rfl, hb', _⟩
  · simp [Value.ownBlock] at hj
  · simp [Value.ownBlock] at hj; omega
/-- The values of fractions. -/
def fracV (f : Nat → Int × Int) : Nat → List Value
  | 0 => []
  | n + 1 => fracV f n ++ [.int .i64 (f n).1, .int .i64 (f n).2]
theorem fracV_len (f : Nat → Int × Int) (n : Nat) : (fracV f n).length = n * 2 := by
  induction n with
  | zero => rfl
  | succ n ih => simp [fracV, ih]; omega
theorem fracV_get (f : Nat → Int × Int) (n k : Nat) (h : k < n) : (fracV f n)[k * 2]? = some (.int .i64 (f k).1) ∧ (fracV f n)[k * 2 + 1]? = some (.int .i64 (f k).2) := by
  induction n with
  | zero => omega
  | succ n ih =>
    have l := fracV_len f n
    unfold fracV
    rcases Nat.lt_or_ge k n with h1 | h1
    · rw [List.getElem?_append_left (by omega), List.getElem?_append_left (by omega)]
      exact ih h1
    · obtain rfl : k = n := by omega
      rw [List.getElem?_append_right (by omega), List.getElem?_append_right (by omega), l]
      simp
theorem own_nil2 (w : World) (base : Nat) (e : TypeId) (sz : Nat) : w.ownsRow base e sz (.slice none 0 0) 0 [] := ⟨by simp, .inl ⟨rfl, rfl⟩⟩
theorem own_fs {w : World} {base c : Nat} {A : Option Addr} {f : Nat → Int × Int} {n : Nat} {ps : List (Int × Int)} (h : w.ownsRow base 27 2 (.slice A n c) n (fracV f n)) (hl : ps.length = n) (hy : ∀ j, j < n → fnum ps j = (f j).1 ∧ fden ps j = (f j).2) : Fs w A ps := fun z => by
  rcases h.2 with ⟨_, e⟩ | ⟨g, cap, cur, e, _, hh, hc, _, hsz, htk⟩
  · omega
  · injection e with e _ _
    refine ⟨g, 0, e, ?_, fun k hk => ?_⟩
    · rcases Nat.lt_or_ge g w.heap.size with l | l
      · exact l
      · rw [Array.getElem?_eq_none l] at hh; cases hh
    · have hkn : k < n := by omega
      obtain ⟨e1, e2⟩ := fracV_get f n k hkn
      obtain ⟨y1, y2⟩ := hy k hkn
      rw [← htk, List.getElem?_take_of_lt (by omega)] at e1 e2
      rw [Nat.zero_add, cell_of_row w g (k * 2) cur 27 (0, 0) hh, cell_of_row w g (k * 2 + 1) cur 27 (0, 0) hh, y1, y2]
      exact ⟨by simpa using e1, by simpa using e2⟩
/-- Whole numbers as a point. -/
def intsP (zs : List Int) : List (Int × Int) := zs.map fun z => (z, 1)
theorem intsP_len (zs : List Int) : (intsP zs).length = zs.length := by simp [intsP]
theorem intsP_num (zs : List Int) (j : Nat) (h : j < zs.length) : fnum (intsP zs) j = nth zs j ∧ fden (intsP zs) j = 1 := by
  simp [fnum, fden, intsP, nth, List.getD, h]
theorem dD_one (zs : List Int) (k : Nat) (h : k ≤ zs.length) : dD (intsP zs) k = 1 := by
  induction k with
  | zero => rfl
  | succ k ih => unfold dD; rw [ih (by omega), (intsP_num zs k (by omega)).2]; rfl
theorem EN_int (tt : Int) (xs zs : List Int) : EN tt xs (intsP zs) = EN 0 xs (intsP zs) - tt := by
  unfold EN
  rw [intsP_len, dD_one zs _ (Nat.le_refl _)]
  omega
theorem whole_chk {kind tt n : Int} {xs : List Int} (h : chkC kind tt xs n = 0) (hc : whC kind tt xs = 0) (h12 : chkC kind tt xs 12 = 0) :
    chkC (whKk kind tt xs) (whTt kind tt xs) (whL kind tt xs) n = 0 ∧ chkI (whKk kind tt xs) (whTt kind tt xs) (whL kind tt xs) n = 0 ∧ (whKk kind tt xs = 1 ∨ whKk kind tt xs = 3) ∧ (whL kind tt xs).length ≤ xs.length := by
  obtain ⟨_, h1, h2, hk, hl, hb, ht⟩ := chk_zero h
  have hall := bad_all hb
  have kle := rK_le xs
  obtain ⟨t1, t2⟩ := inB_iff.1 ht
  have hw : whW kind tt xs ≠ 2 := by
    intro e
    unfold whC at hc
    rw [if_pos h12, if_pos e] at hc
    cases hc
  have hK : whKk kind tt xs = whK kind := by unfold whKk; rw [if_pos h12, if_neg hw]
  have hk' : whK kind = 1 ∨ whK kind = 3 := by
    unfold whK
    rcases hk with rfl | rfl | rfl
    · left; rfl
    · left; rfl
    · right; rfl
  rw [hK]
  by_cases w3 : whW kind tt xs = 3
  · have eL : whL kind tt xs = upL (whK kind) (quotL xs (whG xs)) := by unfold whL; rw [if_pos h12, if_pos w3]
    have eT : whTt kind tt xs = upT (whK kind) (quotL xs (whG xs)) (whT kind tt / whG xs) := by unfold whTt; rw [if_pos h12, if_neg (by omega), if_neg (by omega), if_neg hw]
    have hz : rK xs ≠ 0 := by
      intro z
      unfold whW at w3
      rw [if_pos z] at w3
      cases w3
    have hm : ¬ whT kind tt / whG xs < -1000000 := by
      intro z
      unfold whW at w3
      rw [if_neg hz] at w3
      by_cases hr : kind = 3 ∧ tt.tmod (whG xs) ≠ 0
      · rw [if_pos hr] at w3; cases w3
      · rw [if_neg hr, if_pos z] at w3; cases w3
    have g1 : 1 ≤ whG xs := by have := gcdK_pos xs (by omega); unfold whG; omega
    have tb : whT kind tt ≤ 1000000 := by unfold whT; split <;> omega
    have fb := floor_bd (n := whT kind tt) g1 tb
    rw [eL, eT]
    have len : (upL (whK kind) (quotL xs (whG xs))).length = rK xs := by rw [upL_len, quotL_len]
    obtain ⟨c1, c2⟩ := chk_of (kind := whK kind) (tt := upT (whK kind) (quotL xs (whG xs)) (whT kind tt / whG xs)) (n := n) (xs := upL (whK kind) (quotL xs (whG xs))) h1 h2 (by omega) (by omega)
      (fun j hj => inB_up (inB_quot (by omega) (hall j (by omega)))) (inB_upT (inB_iff.2 ⟨by omega, fb⟩))
    exact ⟨c1, c2, hk', by omega⟩
  · have eL : whL kind tt xs = [] := by unfold whL; rw [if_pos h12, if_neg w3]
    have hT : inB (whTt kind tt xs) = true := by
      unfold whTt
      rw [if_pos h12]
      split
      · exact inB_bareT _ _
      · split
        · rfl
        · exfalso
          have : whW kind tt xs = 0 ∨ whW kind tt xs = 1 ∨ whW kind tt xs = 2 ∨ whW kind tt xs = 3 := by
            unfold whW
            split
            · omega
            · split
              · omega
              · split <;> omega
          omega
    rw [eL]
    obtain ⟨c1, c2⟩ := chk_of (kind := whK kind) (tt := whTt kind tt xs) (n := n) (xs := []) h1 h2 (by omega) (by simpa using h1) (fun j hj => absurd hj (by simp)) hT
    exact ⟨c1, c2, hk', by simp⟩
theorem whole_at {kind tt : Int} {xs : List Int} {ps : List (Int × Int)} (h : atC kind tt xs ps = 0) (hc : whC kind tt xs = 0) (h12 : chkC kind tt xs 12 = 0) : atC (whKk kind tt xs) (whTt kind tt xs) (whL kind tt xs) ps = 0 ∧ atI (whKk kind tt xs) (whTt kind tt xs) (whL kind tt xs) ps = 0 := by
  obtain ⟨_, h1, h2⟩ := at_zero h
  obtain ⟨c1, c2, _⟩ := whole_chk h1 hc h12
  unfold atC atI
  rw [if_pos c1, if_pos c1]
  exact ⟨h2, (pt_zero h2).1⟩
theorem kind_two {S tt : Int} {kind : Int} (hk : kind = 1 ∨ kind = 2 ∨ kind = 3) : kindV kind (S - tt) = kindV (whK kind) (S - whT kind tt) := by
  rcases hk with rfl | rfl | rfl
  · rfl
  · unfold kindV whK whT
    simp
    omega
  · rfl
theorem holds_whole {kind tt : Int} {xs zs : List Int} (h : atC kind tt xs (intsP zs) = 0) (hc : whC kind tt xs = 0) (h12 : chkC kind tt xs 12 = 0) : holdsV (whKk kind tt xs) (whTt kind tt xs) (whL kind tt xs) (intsP zs) = holdsV kind tt xs (intsP zs) := by
  obtain ⟨l1, _, l2⟩ := at_pos h
  obtain ⟨_, c1, _⟩ := at_zero h
  obtain ⟨_, _, _, hk, _⟩ := chk_zero c1
  obtain ⟨_, _, hk', hlen⟩ := whole_chk c1 hc h12
  rw [holds_EN (by omega) l2, holds_EN l1 l2]
  show kindV (whKk kind tt xs) (EN _ _ _) = kindV kind (EN tt xs _)
  have hw : whW kind tt xs ≠ 2 := by
    intro e
    unfold whC at hc
    rw [if_pos h12, if_pos e] at hc
    cases hc
  have hK : whKk kind tt xs = whK kind := by unfold whKk; rw [if_pos h12, if_neg hw]
  rw [EN_int tt xs zs, kind_two hk, hK]
  by_cases hz : rK xs = 0
  · have w0 : whW kind tt xs = 0 := by unfold whW; rw [if_pos hz]
    have eL : whL kind tt xs = [] := by unfold whL; rw [if_pos h12, if_neg (by omega)]
    have eT : whTt kind tt xs = bareT (whK kind) (whT kind tt) := by unfold whTt; rw [if_pos h12, if_pos w0]
    have e3 : EN 0 xs (intsP zs) = 0 := by
      have := EN_mul (ps := intsP zs) (xs := []) (zs := xs) (a := 1) (t1 := 0) (t := 0) (fun j _ => by rw [nth_past (by omega)]; rfl) (by omega)
      rw [this, EN_nil]
      omega
    rw [eL, eT, e3, EN_nil, intsP_len, dD_one zs _ (Nat.le_refl _)]
    have := bare_holds (kind := whK kind) (tt := whT kind tt) (D := 1) (by unfold whK; rcases hk with rfl | rfl | rfl <;> simp) (by omega)
    rw [this]
    congr 1
    omega
  · have g1 : 1 ≤ whG xs := by have := gcdK_pos xs (by omega); unfold whG; omega
    have eS : EN 0 xs (intsP zs) = whG xs * EN 0 (quotL xs (whG xs)) (intsP zs) := EN_mul (fun j _ => by
      rcases Nat.lt_or_ge j (rK xs) with h1 | h1
      · rw [nth_quotL _ _ _ h1]
        exact (Int.mul_tdiv_cancel' (gcdK_dvd xs _ j h1)).symm
      · rw [nth_past h1, nth_out (by rw [quotL_len]; exact h1)]
        omega) (by omega)
    generalize hS : EN 0 (quotL xs (whG xs)) (intsP zs) = S' at *
    by_cases hr : kind = 3 ∧ tt.tmod (whG xs) ≠ 0
    · have w1 : whW kind tt xs = 1 := by unfold whW; rw [if_neg hz, if_pos hr]
      have eL : whL kind tt xs = [] := by unfold whL; rw [if_pos h12, if_neg (by omega)]
      have eT : whTt kind tt xs = 1 := by unfold whTt; rw [if_pos h12, if_neg (by omega), if_pos w1]
      rw [eL, eT, EN_nil, intsP_len, dD_one zs _ (Nat.le_refl _), eS]
      obtain ⟨rfl, hr⟩ := hr
      unfold kindV whK whT
      simp
      intro e
      apply hr
      have : tt = whG xs * S' := by omega
      rw [this, Int.mul_comm]
      exact Int.mul_tmod_left _ _
    · have w3 : whW kind tt xs = 3 := by
        unfold whW at hw ⊢
        rw [if_neg hz, if_neg hr] at hw ⊢
        split at hw
        · exact absurd rfl hw
        · rename_i hm; rw [if_neg hm]
      have eL : whL kind tt xs = upL (whK kind) (quotL xs (whG xs)) := by unfold whL; rw [if_pos h12, if_pos w3]
      have eT : whTt kind tt xs = upT (whK kind) (quotL xs (whG xs)) (whT kind tt / whG xs) := by unfold whTt; rw [if_pos h12, if_neg (by omega), if_neg (by omega), if_neg hw]
      rw [eL, eT, EN_up, EN_int, hS, eS]
      have hfl : S' ≤ whT kind tt / whG xs ↔ whG xs * S' ≤ whT kind tt := by
        rw [Int.le_ediv_iff_mul_le (by omega), Int.mul_comm]
      rcases hk with rfl | rfl | rfl
      · unfold kindV whK
        simp
        omega
      · unfold kindV whK
        simp
        omega
      · have hd : tt.tmod (whG xs) = 0 := by
          rcases Int.decEq (tt.tmod (whG xs)) 0 with q | q
          · exact absurd ⟨rfl, q⟩ hr
          · exact q
        have e1 : whG xs * (tt / whG xs) = tt := by
          have dv : whG xs ∣ tt := Int.dvd_of_tmod_eq_zero hd
          exact Int.mul_ediv_cancel' dv
        unfold kindV whK whT
        simp
        constructor
        · intro q
          have : S' = tt / whG xs := by omega
          rw [this, e1]
          omega
        · intro q
          have q2 : whG xs * S' = whG xs * (tt / whG xs) := by rw [e1]; omega
          have := Int.eq_of_mul_eq_mul_left (by omega) q2
          omega
end Go.Proofs.Ytkjollifghmkbaa
