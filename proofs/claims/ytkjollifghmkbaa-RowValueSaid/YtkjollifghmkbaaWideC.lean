/-
  The contract of Set: another number's digits in a row of their own.
-/
import Derived.Test.YtkjollifghmkbaaWideB
import Derived.Deep.AppendLies
import Derived.Deep.RegionLaw
import Derived.Deep.DrawnRows
namespace Go.Proofs.Ytkjollifghmkbaa
open Go.RowKit
attribute [local go_sem ↓] Go.wp_at_zero Go.wp_at_succ
theorem u32_info : (Try.prog.info? 87).map (fun i => (i.zero, i.size, i.bytes)) = some (some (.int .u32 0), 1, 4) := by kernel_rfl
theorem take_all (cs : Array Value) (L n : Nat) (f : ∀ k, k < L → cs[k]? = some (.int .u32 (dig n k))) : ∀ k, k < L → (cs.toList.take L)[k]? = some (.int .u32 (dig n k)) := fun k hk => by
  rw [List.getElem?_take_of_lt hk, ← f k hk]; simp
/-- append of a number's digits to an empty row that is the call's own. -/
theorem run_app (w : World) (g0 n : Nat) (v : Value) (hg : w.heap[g0]? = some (.cells #[] 87 (0, 0))) (d : Digs w v n) (M : Nat) (hM : M ≤ 1073741824) (hn : n < 4294967296 ^ M) :
    ∃ r w', (Builtin.append_ #[53, 53] 53 #[.slice (some ⟨g0, 0, none⟩) 0 0, v]).run Try.prog w = .ok r w' ∧ Digs w' r n ∧ Below g0 w w' ∧ g0 < w'.heap.size := by
  obtain ⟨i0, hi0, hz0, hz1, hz2⟩ := info_parts u32_info
  have hlt : g0 < w.heap.size := by
    rcases Nat.lt_or_ge g0 w.heap.size with h | h
    · exact h
    · rw [Array.getElem?_eq_none h] at hg; cases hg
  obtain ⟨L, c, h1, h2, h3, ⟨rfl, rfl⟩ | ⟨g, rfl, cs, e, f⟩⟩ := d
  · refine ⟨.slice (some ⟨g0, 0, none⟩) 0 0, w, ?_, ⟨0, 0, h1, h2, Nat.le_refl _, .inr ⟨g0, rfl, #[], hg, fun k hk => by omega⟩⟩, Below.refl _ _, hlt⟩
    simp [Builtin.append_, run_underlying Try.underlying53, sizeOf, typeInfo, hi0, Builtin.lenOf, Builtin.firstCells, storeCells]
  · have hL : L ≤ M := by
      rcases Nat.eq_zero_or_pos L with z | z
      · omega
      · have : L - 1 < M := (Nat.pow_lt_pow_iff_right (a := 4294967296) (by omega)).1 (Nat.lt_of_le_of_lt (h2 z) hn)
        omega
    have hcs : L ≤ cs.size := by
      rcases Nat.eq_zero_or_pos L with z | z
      · omega
      · have := f (L - 1) (by omega)
        have := (Array.getElem?_eq_some_iff.1 this).1
        omega
    have hlen : (cs.toList.take L).length = L * 1 := by rw [List.length_take]; simp; omega
    have hget := take_all cs L n f
    obtain ⟨r, w', hrun, hown, hgr, _, hat⟩ := run_append_own_at (P := Try.prog) w g0 53 53 87 i0 (.int .u32 0) 1 4 Try.underlying53 hi0 hz0 hz1 hz2 rfl (by omega) (.slice (some ⟨g0, 0, none⟩) 0 0) 0 []
      ⟨rfl, .inr ⟨g0, 0, #[], rfl, Nat.le_refl _, hg, Nat.le_refl _, Nat.zero_le _, rfl, rfl⟩⟩ ⟨g, 0, none⟩ L c (cs.toList.take L) hlen
      (fun j u hu => by
        have hj : j < L := by have := (List.getElem?_eq_some_iff.1 hu).1; omega
        have hadd : (⟨g, 0, none⟩ : Addr).add j = ⟨g, j, none⟩ := by unfold Addr.add; split <;> simp_all
        rw [hadd, cell_of_row w g j cs 87 (0, 0) e, f j hj, ← hu, hget j hj])
      (fun u hu => by
        obtain ⟨j, hj⟩ := List.getElem?_of_mem hu
        have hj' : j < L := by have := (List.getElem?_eq_some_iff.1 hj).1; omega
        rw [hget j hj'] at hj
        rw [← Option.some.inj hj]; rfl)
      (by unfold maxLen; omega) (by omega) (by omega)
    have hb : Below g0 w w' := (Below.refl _ _).grown hgr (by omega) (fun k hk => by simp [Value.ownBlock] at hk; omega)
    refine ⟨r, w', hrun, ?_, hb, Nat.lt_of_lt_of_le hlt hb.size⟩
    rw [Nat.zero_add, List.nil_append] at hown
    rcases hown.2 with ⟨rfl, hz⟩ | ⟨g', cap, cur, rfl, hgb, hh, hcap, _, hsz, htk⟩
    · exact ⟨L, 0, h1, h2, by omega, .inl ⟨hz, rfl⟩⟩
    · refine ⟨L, cap, h1, h2, hcap, .inr ⟨g', rfl, cur, hh, fun k hk => ?_⟩⟩
      have := hget k hk
      rw [← htk, Nat.mul_one, List.getElem?_take_of_lt hk] at this
      simpa using this
theorem step_app {w : World} {ops : Array Oper} {o : Oper} {a : Act} {K : Act → World → Prop} {Q : Exit → Act → World → Prop} {E : Prop} (hgd : o.guard = none) (s x : Operand)
    (ho : o.op = .call { callee := .builtin .append, args := #[s, x], argTypes := #[53, 53] }) (hty : o.type = 53) (g0 : Nat) (hs : a.eval s = .slice (some ⟨g0, 0, none⟩) 0 0) (hg : w.heap[g0]? = some (.cells #[] 87 (0, 0)))
    (v : Value) (n : Nat) (hx : a.eval x = v) (d : Digs w v n) (M : Nat) (hM : M ≤ 1073741824) (hn : Hid (n < 4294967296 ^ M))
    (h : ∀ A L c w', Hid (Digs w' (.slice A L c) n) → Below g0 w w' → g0 < w'.heap.size → K (a.put o.dst (.slice A L c)) w') :
    if Region.wanted o (yielded ops a.tmps) = true then Oper.wp Try.prog o a w K Q else E := by
  have hw : Region.wanted o (yielded ops a.tmps) = true := by simp [Region.wanted, hgd]
  rw [if_pos hw]
  obtain ⟨r, w', hrun, h2, h3, h4⟩ := run_app w g0 n v hg d M hM hn.out
  unfold Oper.wp execOp
  simp only [ho, resolve, invoke, builtin, Sem.run_bind, Sem.run_pure, Result.andThen_ok, List.map_toArray, List.map_cons, List.map_nil, hs, hx, hty, hrun]
  obtain ⟨A, L, c, rfl⟩ : ∃ A L c, r = .slice A L c := by
    obtain ⟨L, c, _, _, _, ⟨_, e⟩ | ⟨g, e, _⟩⟩ := id h2
    · exact ⟨_, _, _, e⟩
    · exact ⟨_, _, _, e⟩
  exact h A L c w' (Lib.hid h2) h3 h4
theorem brules {B : Nat} {w w1 : World} (hb : Below B w w1) : (∀ b o, b < B → w1.cell? ⟨b, o, none⟩ = w.cell? ⟨b, o, none⟩) ∧ (∀ b o, b < B → w1.frozen? ⟨b, o, none⟩ = w.frozen? ⟨b, o, none⟩) :=
  ⟨fun b o h => hb.cell (p := ⟨b, o, none⟩) h, fun b o h => hb.frozen (p := ⟨b, o, none⟩) h⟩
set_option maxHeartbeats 1000000 in
theorem set_any (b o n b' o' : Nat) (s : Bool) (M : Nat) (hM : M ≤ 1073741824) (hn : n < 4294967296 ^ M) (w : World) (h : Hdr w b o) (hx : IntAt w b' o' s n) :
    Calls Try.prog 76 #[.pointer (some ⟨b, o, none⟩), .pointer (some ⟨b', o', none⟩)] w (GivesInt b o s n w) := by
  obtain ⟨h1, h2, h3, h4, ⟨u, h5⟩, ⟨v, h6⟩⟩ := id h
  obtain ⟨k1, k2, k3, k4, k5, ⟨v', k6, kd⟩, kz⟩ := id hx
  have H2 := Lib.hid h2
  have H := Lib.hid h
  have K2 := Lib.hid k2
  have HX := Lib.hid hx
  have KD := Lib.hid kd
  have KZ := Lib.hid kz
  have HN := Lib.hid hn
  clear h2 h k2 hx kd kz hn
  go_enter Try.func76, Try.ntmps76
  go_wp2_with fail
  go_region_law ((refine step_app rfl (.tmp 11) (.tmp 15) rfl rfl _ rfl (heap_alloc_new _ _) _ n rfl (KD.out.below (by go_grown)) M hM HN ?_; intro A1 L1 z1 w1 hd1 hb1 hs1; obtain ⟨hc1, hf1⟩ := brules hb1))
  all_goals
    go_wp2
    go_ret
    have hb : Below w.heap.size w w1 := Below.trans (by go_grown) hb1
    exact ⟨rfl, int_set01 s (H.out.below hb) hd1.out KZ.out, (((Chg.refl H.out).below hb (Nat.le_refl _)).set0 _).set1 _⟩
end Go.Proofs.Ytkjollifghmkbaa
