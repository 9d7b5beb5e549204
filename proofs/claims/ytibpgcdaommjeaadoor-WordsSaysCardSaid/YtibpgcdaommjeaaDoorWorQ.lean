/-
  Words: the reference's bits of a word, the word of bits.
-/
import Derived.Test.YtibpgcdaommjeaaDoorWorI
import Derived.Deep.AppendLies
namespace Go.Proofs.YtibpgcdaommjeaaDoor
open Go.RowKit

/-- Nothing is put behind a row: it stays, wherever the empty slice lies. -/
theorem app_zero {P : Program} (w : World) (base : Nat) (t ty e : TypeId) (i : TypeInfo) (sz : Nat) (ht : P.underlying t = some (.slice e)) (hi : P.info? e = some i)
    (v : Value) (n : Nat) (xs : List Value) (h : w.ownsRow base e sz v n xs) (A : Option Addr) (c : Nat) : (Builtin.append_ #[t, t] ty #[v, .slice A 0 c]).run P w = .ok v w := by
  rcases h.2 with ⟨rfl, rfl⟩ | ⟨g, cap, cur, rfl, _, _, hc, _⟩
  · cases A <;> simp [Builtin.append_, run_underlying ht, sizeOf, typeInfo, hi, Builtin.lenOf, Builtin.firstCells, loadCells, loadCellsFrom]
  · cases A <;> simp [Builtin.append_, run_underlying ht, sizeOf, typeInfo, hi, Builtin.lenOf, Builtin.firstCells, hc, loadCells, loadCellsFrom, storeCells]
section
variable {P : Program} {w : World} {ops : Array Oper} {rest : List Oper} {o : Oper} {a : Act} {Q : Exit → Act → World → Prop}
/-- Elements, none or some, are put behind a row of the call's own. -/
theorem wpl_gen (t e : TypeId) (hut : P.underlying t = some (.slice e)) (z : Value) (sz by_ : Nat) (hinfo : (P.info? e).map (fun i => (i.zero, i.size, i.bytes)) = some (some z, sz, by_)) (hzs : z.cells.size = sz) (hsz : 0 < sz)
    (hgd : o.guard = none) (s x : Operand) (ho : o.op = .call { callee := .builtin .append, args := #[s, x], argTypes := #[t, t] })
    (base : Nat) (v : Value) (n : Nat) (xs : List Value) (hs : a.eval s = v) (hown : w.ownsRow base e sz v n xs) (A : Option Addr) (c m : Nat) (news : List Value) (hx : a.eval x = .slice A m c) (hl : news.length = m * sz)
    (hat : 0 < m → ∃ ad, A = some ad ∧ ∀ j u, news[j]? = some u → w.cell? (ad.add j) = some u) (h1 : ∀ u ∈ news, u.oneCell' = true) (hb : (n + m) * by_ ≤ 140737488355328) (hb2 : n + m ≤ maxLen) (hbase : base ≤ w.heap.size)
    (h : ∀ v' w', Hid (w'.ownsRow base e sz v' (n + m) (xs ++ news)) → (∀ g t cs, some g ≠ v.ownBlock → HB w g t cs → HB w' g t cs) → (∀ W, Below base W w → Below base W w') → wpList P ops Q rest (a.put o.dst v') w') :
    wpList P ops Q (o :: rest) a w := by
  obtain ⟨i0, hi0, hz0, hz1, hz2⟩ := info_parts hinfo
  rcases Nat.eq_zero_or_pos m with h0 | h0
  · subst h0
    have e0 : news = [] := List.eq_nil_of_length_eq_zero (by rw [hl]; simp)
    subst e0
    refine wpList_plain hgd fun K hK => ?_
    have hrun := app_zero (P := P) w base t o.type e i0 sz hut hi0 v n xs hown A c
    unfold Oper.wp
    simp [execOp, ho, resolve, invoke, builtin, hs, hx, hrun, Result.andThen]
    exact hK _ _ (h v w (Lib.hid (by simpa using hown)) (fun _ _ _ _ k => k) (fun _ k => k))
  · obtain ⟨ad, rfl, hq⟩ := hat h0
    refine wpList_append_lies w hgd s x t ho base e i0 z sz by_ hut hi0 hz0 hz1 hz2 hzs hsz v n xs hs hown ad m c news hx hl hq h1 h0 hb2 hb hbase _ rfl ?_
    intro g cap w' hown' hg hf _
    exact h _ w' (Lib.hid hown') (fun g' t cs hne hb => hb.grown hg hne) (fun W hW => bw_grown hbase hW hown hg)
end
theorem own_slice {w : World} {base n : Nat} {v : Value} {b : Nat → Bool} (h : w.ownsRow base 4 1 v n (boolV b n)) : ∃ A c, v = .slice A n c ∧ Bs w A b n ∧ n ≤ c := by
  have h' := h
  rcases h.2 with ⟨rfl, rfl⟩ | ⟨g, cap, cur, rfl, _⟩
  · exact ⟨_, _, rfl, (own_bs h').1, (own_bs h').2⟩
  · exact ⟨_, _, rfl, (own_bs h').1, (own_bs h').2⟩
theorem div_two (a i : Nat) : a / 2 ^ i / 2 = a / 2 ^ (i + 1) := by rw [Nat.div_div_eq_div_mul, Nat.pow_succ]
theorem bit_mod (a i : Nat) : (((a / 2 ^ i : Nat) : Int) % 2 == 1) = a.testBit i := by
  rw [bit_is]
  have : a / 2 ^ i % 2 = 0 ∨ a / 2 ^ i % 2 = 1 := by omega
  have e : (((a / 2 ^ i : Nat) : Int) % 2) = ((a / 2 ^ i % 2 : Nat) : Int) := by omega
  rw [e]
  rcases this with h | h <;> rw [h] <;> rfl
set_option maxRecDepth 100000 in
set_option maxHeartbeats 4000000 in
theorem rbits_any (a k : Nat) (hk : k ≤ 8) (ha : a ≤ 1000) (w : World) : Calls Tryd.prog 18 #[.int .i64 a, .int .i64 k] w fun e w' => ∃ A c, e = .returned (.slice A k c) ∧ k ≤ c ∧ Hid (Bs w' A (fun j => a.testBit j) k) ∧ Below w.heap.size w w' := by
  have HY : ∃ Y : Nat → Nat, (∀ i, (((Y i : Nat) : Int) % 2 == 1) = a.testBit i) ∧ (∀ i, Y i / 2 = Y (i + 1)) ∧ Y 0 = a ∧ ∀ i, Y i ≤ 1000 := ⟨fun i => a / 2 ^ i, bit_mod a, div_two a, by simp, fun i => Nat.le_trans (Nat.div_le_self _ _) ha⟩
  obtain ⟨Y, y1, y2, y3, y4⟩ := HY
  have Y1 := Lib.hid y1
  have Y2 := Lib.hid y2
  have Y3 := Lib.hid y3
  have Y4 := Lib.hid y4
  clear y1 y2 y3 y4 ha
  generalize hT : (fun j => a.testBit j) = T at *
  have Y5 : Hid (∀ i, (((Y i : Nat) : Int) % 2 == 1) = T i) := Lib.hid (fun i => by rw [Y1.out, ← hT])
  clear Y1 hT
  rw [← Y3.out]
  clear Y3
  go_enter Tryd.func18, Tryd.ntmps18
  go_wp2_with fail
  go_loopw [0, 5, 6] (fun x s t wr => ∃ (i : Nat) (A : Option Addr) (c : Nat), i ≤ k ∧ t = .int .i64 i ∧ x = .int .i64 (Y i) ∧ s = .slice A i c ∧ Hid (wr.ownsRow w.heap.size 4 1 (.slice A i c) i (boolV T i)) ∧ Hid (Below w.heap.size w wr)) (fun _ _ t _ => k - (intOf t).toNat)
  case atStart => exact ⟨0, none, 0, by omega, rfl, rfl, rfl, Lib.hid (own_nil _ _ _ _), Lib.hid (Below.refl _ _)⟩
  case round =>
    obtain ⟨i, A, c, hi, rfl, rfl, rfl, HO, G1⟩ := hrel
    by_cases hlt : i < k
    · have t3 : decide ((i : Int) < (k : Int)) = true := by simpa using hlt
      have e1 := Y5.out i
      have e2 := Lib.hid (Y2.out i)
      have e4 := Y4.out i
      have lw := G1.out.size
      have e3 := Lib.hid (boolV_snoc T i)
      generalize T i = ti at e1 e3
      generalize Y i = y at *
      go_wp2_with (at_builtin; refine wpl_app 31 4 Tryd.underlying31 (.bool false) 1 1 info_bool rfl (by decide) rfl _ _ rfl w.heap.size (.slice A i c) i (boolV T i) rfl (own_alloc HO.out _) wr.heap.size #[.bool ti] rfl (HB.new _ _ _) rfl (by simp [Value.oneCell']) (by omega) (by unfold maxLen; omega) (by simp; omega) ?_)
      intro g4 cap4 w4 hown4 hkp4 hbw4
      have O4 : Hid (w4.ownsRow w.heap.size 4 1 (.slice (some ⟨g4, 0, none⟩) (i + 1) cap4) (i + 1) (boolV T (i + 1))) := Lib.hid (by rw [e3.out]; exact hown4.out)
      have G4 : Hid (Below w.heap.size w w4) := Lib.hid (hbw4 w (Below.alloc G1.out (by omega) _))
      clear hown4 hkp4 hbw4
      go_wp2_with fail
      go_round
      case rel => exact ⟨i + 1, some ⟨g4, 0, none⟩, cap4, by omega, by go_num, by rw [← e2.out]; rfl, rfl, O4, G4⟩
      case measure => simp [intOf]; omega
    · obtain rfl : i = k := by omega
      have t3 : decide ((i : Int) < (i : Int)) = false := by simp
      have hb := own_bs HO.out
      have HB' := Lib.hid hb.1
      have hc := hb.2
      clear hb
      go_wp2_with fail
      go_ret
      exact ⟨A, c, rfl, hc, HB', G1.out⟩
theorem vl_down (b : Nat → Bool) (n : Nat) : ∃ F : Nat → Nat, F n = 0 ∧ F 0 = vl b n ∧ (∀ i, i < n → F i = 2 * F (i + 1) + (if b i then 1 else 0)) ∧ ∀ i, i ≤ n → F i ≤ 2 ^ n := by
  refine ⟨fun i => vl b n / 2 ^ i, Nat.div_eq_of_lt (vl_lt b n), by simp, fun i hi => ?_, fun i _ => Nat.le_trans (Nat.div_le_self _ _) (Nat.le_of_lt (vl_lt b n))⟩
  have h1 := bit_vl (b := b) hi
  rw [bit_is] at h1
  have h2 := div_two (vl b n) i
  dsimp only
  rw [← h2]
  cases hb : b i
  · rw [hb] at h1; simp at h1; simp; omega
  · rw [hb] at h1; simp at h1; simp; omega
set_option maxRecDepth 100000 in
set_option maxHeartbeats 4000000 in
theorem rof_any (A : Option Addr) (n c : Nat) (b : Nat → Bool) (h8 : n ≤ 8) (w : World) (h : Bs w A b n) : Calls Tryd.prog 21 #[.slice A n c] w fun e w' => e = .returned (.int .i64 (vl b n)) ∧ w = w' := by
  obtain ⟨F, f1, f2, f3, f4⟩ := vl_down b n
  rw [← f2]
  have p8 : 2 ^ n ≤ 2 ^ 8 := Nat.pow_le_pow_right (by decide) h8
  have F1 := Lib.hid f1
  have F3 := Lib.hid f3
  have F4 : Hid (∀ i, i ≤ n → F i ≤ 256) := Lib.hid (fun i hi => by have := f4 i hi; omega)
  have HA := Lib.hid h
  clear f1 f2 f3 f4 p8 h
  go_enter Tryd.func21, Tryd.ntmps21
  go_wp2_with fail
  go_loopw [3, 4] (fun x t wr => ∃ i : Nat, i ≤ n ∧ t = .int .i64 ((i : Int) - 1) ∧ x = .int .i64 (F i) ∧ wr = w) (fun _ t _ => (intOf t + 1).toNat)
  case atStart => exact ⟨n, by omega, rfl, by rw [F1.out]; rfl, rfl⟩
  case round =>
    obtain ⟨i, hi, rfl, rfl, rfl⟩ := hrel
    by_cases hlt : 0 < i
    · obtain ⟨j, rfl⟩ : ∃ j, i = j + 1 := ⟨i - 1, by omega⟩
      rw [show (((j + 1 : Nat) : Int) - 1) = (j : Int) by omega]
      have t3 : decide ((0 : Int) ≤ (j : Int)) = true := by simp
      obtain ⟨g, o, rfl, hg, hc⟩ := HA.out.at_ (k := j) (by omega)
      have e1 := F3.out j (by omega)
      have e4 := F4.out (j + 1) (by omega)
      have q1 : IntKind.i64.wrap ((j : Int) - 1) = (j : Int) - 1 := IntWalk.i64_in _ (by omega)
      cases hb : b j with
      | true =>
        rw [hb] at hc e1
        rw [if_pos rfl] at e1
        have E1 := Lib.hid e1
        clear e1 hb
        generalize F (j + 1) = y at *
        go_wp2_with fail
        go_round
        case rel => exact ⟨j, by omega, rfl, by rw [E1.out]; push_cast; rfl, trivial⟩
        case measure => simp [intOf]
      | false =>
        rw [hb] at hc e1
        rw [if_neg (by decide)] at e1
        have E1 := Lib.hid e1
        clear e1 hb
        generalize F (j + 1) = y at *
        go_wp2_with fail
        go_round
        case rel => exact ⟨j, by omega, rfl, by rw [E1.out]; push_cast; rfl, trivial⟩
        case measure => simp [intOf]
    · obtain rfl : i = 0 := by omega
      rw [show (((0 : Nat) : Int) - 1) = (-1 : Int) from rfl]
      go_wp2_with fail
      go_ret
      exact ⟨rfl, rfl⟩
end Go.Proofs.YtibpgcdaommjeaaDoor
