/-
  The reference: words: not, sum, product, moved to the left.
  Worlds: a set of rows of numbers in a map.
  Worlds: do two rows of a table have the same arguments?
  Worlds: what is wrong with a meaning.
  Asks: ask.Check; lists that are the same; the laws that compare.
  Asks: the first fault, stage by stage.
  Worlds: mean.Check.
  Values of nodes: which meaning a name has.
-/
import Derived.Test.YtaodebpogibimaaGreatG09
import Derived.Test.YtaodebpogibimaaGreatG01
import Derived.Maps.OwnOps
import Derived.Maps.Views
import Derived.WideKeyPair
import Derived.Laws.CopyOwn
import Derived.Deep.RegionLaw
import Derived.Test.YtaodebpogibimaaGreatG07
import Derived.Test.YtaodebpogibimaaGreatG08
import Derived.StillTailTactics
import Derived.Test.YtaodebpogibimaaGreatMeaV
namespace Go.Proofs.YtaodebpogibimaaGreat
open Go.RowKit

/-- So many bits, so many words. -/
def Wb (z M : Int) : Prop := z = 1 ∧ M = 2 ∨ z = 2 ∧ M = 4 ∨ z = 3 ∧ M = 8 ∨ z = 4 ∧ M = 16 ∨ z = 5 ∧ M = 32 ∨ z = 6 ∧ M = 64 ∨ z = 7 ∧ M = 128 ∨ z = 8 ∧ M = 256
set_option maxHeartbeats 2000000 in
theorem wordop_not (z M a b n : Int) (hz : Wb z M) (ha : 0 ≤ a ∧ a < M) (w : World) :
    Calls Tryz.prog 55 #[.int .i64 16, .int .i64 z, .int .i64 a, .int .i64 b, .int .i64 n] w fun e w' => e = .returned (.int .i64 (M - 1 - a)) ∧ Below w.heap.size w w' := by
  obtain ⟨h1, h2⟩ := ha
  rcases hz with ⟨rfl, rfl⟩ | ⟨rfl, rfl⟩ | ⟨rfl, rfl⟩ | ⟨rfl, rfl⟩ | ⟨rfl, rfl⟩ | ⟨rfl, rfl⟩ | ⟨rfl, rfl⟩ | ⟨rfl, rfl⟩
  all_goals
    go_enter Tryz.func55, Tryz.ntmps55
    go_wp2_with fail
    go_ret
    exact ⟨rfl, Below.refl _ _⟩
set_option maxHeartbeats 2000000 in
theorem wordop_add (z M a b n : Int) (hz : Wb z M) (ha : 0 ≤ a ∧ a < M) (hb : 0 ≤ b ∧ b < M) (w : World) :
    Calls Tryz.prog 55 #[.int .i64 20, .int .i64 z, .int .i64 a, .int .i64 b, .int .i64 n] w fun e w' => e = .returned (.int .i64 ((a + b) % M)) ∧ Below w.heap.size w w' := by
  obtain ⟨h1, h2⟩ := ha
  obtain ⟨h3, h4⟩ := hb
  rcases hz with ⟨rfl, rfl⟩ | ⟨rfl, rfl⟩ | ⟨rfl, rfl⟩ | ⟨rfl, rfl⟩ | ⟨rfl, rfl⟩ | ⟨rfl, rfl⟩ | ⟨rfl, rfl⟩ | ⟨rfl, rfl⟩
  all_goals
    go_enter Tryz.func55, Tryz.ntmps55
    go_wp2_with fail
    go_ret
    exact ⟨rfl, Below.refl _ _⟩
set_option maxHeartbeats 2000000 in
theorem wordop_times (z M a b n : Int) (hz : Wb z M) (ha : 0 ≤ a ∧ a < M) (hb : 0 ≤ b ∧ b < M) (w : World) :
    Calls Tryz.prog 55 #[.int .i64 21, .int .i64 z, .int .i64 a, .int .i64 b, .int .i64 n] w fun e w' => e = .returned (.int .i64 ((a * b) % M)) ∧ Below w.heap.size w w' := by
  have m := mul_bd a b (by rcases hz with h | h | h | h | h | h | h | h <;> omega) (by rcases hz with h | h | h | h | h | h | h | h <;> omega) (by rcases hz with h | h | h | h | h | h | h | h <;> omega) (by rcases hz with h | h | h | h | h | h | h | h <;> omega)
  have m0 : 0 ≤ a * b := Int.mul_nonneg ha.1 hb.1
  have w1 : IntKind.i64.wrap (a * b) = a * b := IntWalk.i64_in _ (by omega)
  rcases hz with ⟨rfl, rfl⟩ | ⟨rfl, rfl⟩ | ⟨rfl, rfl⟩ | ⟨rfl, rfl⟩ | ⟨rfl, rfl⟩ | ⟨rfl, rfl⟩ | ⟨rfl, rfl⟩ | ⟨rfl, rfl⟩
  all_goals
    go_enter Tryz.func55, Tryz.ntmps55
    go_wp2_with fail
    go_ret
    exact ⟨rfl, Below.refl _ _⟩
theorem left_step (a M : Int) (i : Nat) : (2 * ((a * 2 ^ i) % M)) % M = (a * 2 ^ (i + 1)) % M := by
  rw [Int.mul_emod 2 ((a * 2 ^ i) % M) M, Int.emod_emod_of_dvd _ (Int.dvd_refl M), ← Int.mul_emod]
  congr 1
  rw [Int.pow_succ, ← Int.mul_assoc a, Int.mul_comm 2]
set_option maxHeartbeats 4000000 in
theorem wordop_left (z M a b : Int) (n : Nat) (hz : Wb z M) (ha : 0 ≤ a ∧ a < M) (hn : n ≤ 8) (w : World) :
    Calls Tryz.prog 55 #[.int .i64 23, .int .i64 z, .int .i64 a, .int .i64 b, .int .i64 n] w fun e w' => e = .returned (.int .i64 ((a * 2 ^ n) % M)) ∧ Below w.heap.size w w' := by
  have H0 : Hid ((a * 2 ^ 0) % M = a) := Lib.hid (by rw [Int.pow_zero, Int.mul_one]; exact Int.emod_eq_of_lt ha.1 ha.2)
  have HS := Lib.hid (left_step a M)
  obtain ⟨h1, h2⟩ := ha
  have HF : ∃ F : Nat → Int, ∀ i, (a * 2 ^ i) % M = F i := ⟨fun i => (a * 2 ^ i) % M, fun i => rfl⟩
  obtain ⟨F, HF⟩ := HF
  have HG : Hid (∀ i, 0 ≤ F i ∧ F i < M) := Lib.hid (fun i => by
    rw [← HF i]
    have hM : 0 < M := by rcases hz with h | h | h | h | h | h | h | h <;> omega
    exact ⟨Int.emod_nonneg _ (by omega), Int.emod_lt_of_pos _ hM⟩)
  have HS2 : Hid (∀ i, (2 * F i) % M = F (i + 1)) := Lib.hid (fun i => by rw [← HF, ← HF]; exact HS.out i)
  have F0 : Hid (F 0 = a) := Lib.hid (by rw [← HF]; exact H0.out)
  rw [HF n]
  clear HS H0 HF
  rcases hz with ⟨rfl, rfl⟩ | ⟨rfl, rfl⟩ | ⟨rfl, rfl⟩ | ⟨rfl, rfl⟩ | ⟨rfl, rfl⟩ | ⟨rfl, rfl⟩ | ⟨rfl, rfl⟩ | ⟨rfl, rfl⟩
  all_goals
    go_enter Tryz.func55, Tryz.ntmps55
    go_wp2_with fail
    go_loopw [2, 12] (fun x k wr => ∃ i : Nat, i ≤ n ∧ k = .int .i64 i ∧ x = .int .i64 (F i) ∧ wr = w) (fun _ k _ => n - (intOf k).toNat)
    case atStart => exact ⟨0, by omega, rfl, by rw [F0.out], rfl⟩
    case round =>
      obtain ⟨i, hi, rfl, rfl, rfl⟩ := hrel
      obtain ⟨g1, g2⟩ := HG.out i
      by_cases hlt : i < n
      · have t3 : decide ((i : Int) < n) = true := by simpa using hlt
        have hs := Lib.hid (HS2.out i)
        go_wp2_with fail
        go_round
        case rel => exact ⟨i + 1, by omega, by go_num, by first | (rw [hs.out]; done) | (rw [← hs.out]; congr 1; omega), trivial⟩
        case measure => simp [intOf]; omega
      · obtain rfl : i = n := by omega
        have t3 : decide ((i : Int) < i) = false := by simp
        go_wp2_with fail
        go_ret
        exact ⟨rfl, Below.refl _ _⟩
end Go.Proofs.YtaodebpogibimaaGreat
namespace Go.Proofs.YtaodebpogibimaaGreat
open Go.RowKit

/-- A row of at most eight numbers as a key. -/
def kyV (zs : List Int) : Value := .agg #[.int .i64 (nth zs 0), .int .i64 (nth zs 1), .int .i64 (nth zs 2), .int .i64 (nth zs 3), .int .i64 (nth zs 4), .int .i64 (nth zs 5), .int .i64 (nth zs 6), .int .i64 (nth zs 7)]
def kyL (zs : List Int) : Lit := .string (keyBytes [.int .i64 (nth zs 0), .int .i64 (nth zs 1), .int .i64 (nth zs 2), .int .i64 (nth zs 3), .int .i64 (nth zs 4), .int .i64 (nth zs 5), .int .i64 (nth zs 6), .int .i64 (nth zs 7)])
theorem arrK : WideMaps.ArrKey Tryz.prog 118 3 8 := ⟨Tryz.underlying118, by kernel_rfl, by kernel_rfl, by kernel_rfl⟩
theorem keyK : Go.Maps.Keyed Tryz.prog 118 := Go.Maps.Keyed.of_law arrK.law
theorem some_types : ∃ m, Tryz.prog.types.size = m + 1 := ⟨Tryz.prog.types.size - 1, by
  have : 0 < Tryz.prog.types.size := by decide +kernel
  omega⟩
theorem nth_wf {zs : List Int} (h : ∀ z ∈ zs, wf64 z) (i : Nat) : (Lit.int .i64 (nth zs i)).wf = true := by
  by_cases hi : i < zs.length
  · rw [nth_of hi]; exact h _ (List.getElem_mem hi)
  · rw [nth_past (by omega)]; rfl
theorem keyOf_eight {P : Program} {k e : TypeId} {q : IntKind} (A : WideMaps.ArrKey P k e 8) (he : P.underlying e = some (.int q)) (hsz : ∃ m, P.types.size = m + 1) {a0 a1 a2 a3 a4 a5 a6 a7 : Int} (w0 : (Lit.int q a0).wf = true) (w1 : (Lit.int q a1).wf = true) (w2 : (Lit.int q a2).wf = true) (w3 : (Lit.int q a3).wf = true) (w4 : (Lit.int q a4).wf = true) (w5 : (Lit.int q a5).wf = true) (w6 : (Lit.int q a6).wf = true) (w7 : (Lit.int q a7).wf = true) :
    keyOf P k (.agg #[.int q a0, .int q a1, .int q a2, .int q a3, .int q a4, .int q a5, .int q a6, .int q a7]) = some (.string (keyBytes [.int q a0, .int q a1, .int q a2, .int q a3, .int q a4, .int q a5, .int q a6, .int q a7])) := by
  have hkt := A.keyType hsz
  obtain ⟨m, hm⟩ := hsz
  unfold keyOf
  simp only [A.hu]
  rw [if_pos (by simp [hkt, Value.formed, A.hu, A.size]), hm]
  unfold Program.keyLits
  simp only [A.hu, Value.cells]
  rw [if_pos (by rw [A.size]; rfl), show List.range 8 = [0, 1, 2, 3, 4, 5, 6, 7] from rfl, List.mapM_cons, List.mapM_cons, List.mapM_cons, List.mapM_cons, List.mapM_cons, List.mapM_cons, List.mapM_cons, List.mapM_cons, List.mapM_nil]
  simp [A.one, Program.keyLits, he, w0, w1, w2, w3, w4, w5, w6, w7]
theorem key_of {zs : List Int} (h : ∀ z ∈ zs, wf64 z) : keyOf Tryz.prog 118 (kyV zs) = some (kyL zs) :=
  keyOf_eight arrK Tryz.underlying3 some_types (nth_wf h 0) (nth_wf h 1) (nth_wf h 2) (nth_wf h 3) (nth_wf h 4) (nth_wf h 5) (nth_wf h 6) (nth_wf h 7)
theorem key_inj {zs ys : List Int} (hl : zs.length = ys.length) (h8 : zs.length ≤ 8) (hz : ∀ z ∈ zs, wf64 z) (hy : ∀ z ∈ ys, wf64 z) (h : kyL zs = kyL ys) : zs = ys := by
  have := keyK.inj (key_of hz) (by rw [h]; exact key_of hy)
  unfold kyV at this
  simp only [Value.agg.injEq, Array.mk.injEq, List.cons.injEq, Value.int.injEq, true_and, and_true] at this
  obtain ⟨e0, e1, e2, e3, e4, e5, e6, e7⟩ := this
  refine list_same hl (fun j hj => ?_)
  have : j = 0 ∨ j = 1 ∨ j = 2 ∨ j = 3 ∨ j = 4 ∨ j = 5 ∨ j = 6 ∨ j = 7 := by omega
  rcases this with rfl | rfl | rfl | rfl | rfl | rfl | rfl | rfl <;> assumption
/-- A map whose keys are just these rows of m numbers. -/
def SetAt (w : World) (b n m : Nat) (L : List (List Int)) : Prop :=
  ∃ D : DataW Unit, w.ownsMap Tryz.prog 118 (plainElem Tryz.prog 4) b n D ∧ Go.Maps.IsMap D ∧ ∀ zs : List Int, zs.length = m → (∀ z ∈ zs, wf64 z) → D.atKey (kyL zs) (.lit (.bool false)) = .lit (.bool (decide (zs ∈ L)))
theorem SetAt.lt {w : World} {b n m : Nat} {L : List (List Int)} (h : SetAt w b n m L) : b < w.heap.size := by
  obtain ⟨D, h1, _⟩ := h
  exact h1.lt
theorem SetAt.below {w w' : World} {b n m : Nat} {L : List (List Int)} (h : SetAt w b n m L) (hb : Below w.heap.size w w') : SetAt w' b n m L := by
  obtain ⟨D, ⟨es, clock, h1, h2, h3⟩, h4⟩ := h
  exact ⟨D, ⟨es, clock, (hb.block b (Array.getElem?_eq_some_iff.1 h1).1).trans h1, h2, h3⟩, h4⟩
theorem set_made (w : World) (m : Nat) : SetAt (w.alloc (.map #[] 0)) w.heap.size 0 m [] := ⟨_, World.ownsMap_made w _ _ _, ⟨[], rfl⟩, fun zs _ _ => by simp [DataW.atKey]⟩
theorem set_ne {w : World} {b n m g t : Nat} {L : List (List Int)} {cs : Array Value} (h : SetAt w b n m L) (k : HB w g t cs) : g ≠ b := by
  obtain ⟨D, ⟨es, clock, h1, _⟩, _⟩ := h
  rintro rfl
  unfold HB at k
  rw [h1] at k
  cases k
theorem zero_bool (w : World) : (zeroValue 4).run Tryz.prog w = .ok (.bool false) w := by kernel_rfl
theorem plain_bool_inv {P : Program} {e : TypeId} (he : P.underlying e = some .bool) {v : Value} {x : Bool} {ps : List MemPlace} (h : plainElem (H := Unit) P e v = some (.lit (.bool x), ps)) : v = .bool x := by
  unfold plainElem at h
  rw [he] at h
  cases v <;> simp at h
  rw [h.1]
section
variable {w : World} {ops : Array Oper} {rest : List Oper} {o : Oper} {a : Act} {Q : Exit → Act → World → Prop}
theorem wpl_look (hg : o.guard = none) (m x : Operand) (hop : o.op = Op.lookup 117 m x false) (b n k : Nat) (L : List (List Int)) (hm : a.eval m = .map (some b)) (hown : SetAt w b n k L) (key : Value) (zs : List Int) (hx : a.eval x = key) (hk : key = kyV zs) (hl : zs.length = k) (hw : ∀ z ∈ zs, wf64 z)
    (hK : wpList Tryz.prog ops Q rest (a.put o.dst (.bool (decide (zs ∈ L)))) w) : wpList Tryz.prog ops Q (o :: rest) a w := by
  refine wpList_plain hg fun K' hK' => ?_
  obtain ⟨D, h1, h2, h3⟩ := hown
  obtain ⟨v, ps, hrun, hv⟩ := h1.lookup keyK Tryz.underlying117 (zero_bool w) (plainElem_bool Tryz.underlying4 false) (key_of hw)
  rw [h3 zs hl hw] at hv
  obtain rfl := plain_bool_inv Tryz.underlying4 hv
  subst hk
  unfold Oper.wp
  simp [execOp, hop, hm, hx, hrun, Result.andThen]
  exact hK' _ _ hK
theorem wpl_put (hg : o.guard = none) (m x v : Operand) (hop : o.op = Op.mapUpdate 117 m x v) (b n k : Nat) (L : List (List Int)) (hm : a.eval m = .map (some b)) (hown : SetAt w b n k L) (hn : n < maxLen) (key : Value) (zs : List Int) (hx : a.eval x = key) (hk : key = kyV zs) (hl : zs.length = k) (h8 : zs.length ≤ 8) (hw : ∀ z ∈ zs, wf64 z) (hv : a.eval v = .bool true)
    (hK : ∀ w', Hid (SetAt w' b (n + 1) k (L ++ [zs])) → w.grownBy w' (some b) → wpList Tryz.prog ops Q rest (a.put o.dst undef) w') : wpList Tryz.prog ops Q (o :: rest) a w := by
  refine wpList_plain hg fun K' hK' => ?_
  obtain ⟨D, h1, h2, h3⟩ := hown
  obtain ⟨w', hrun, r1, r2⟩ := h1.update keyK Tryz.underlying117 hn (key_of hw) (plainElem_bool Tryz.underlying4 true)
  subst hk
  unfold Oper.wp
  simp [execOp, hop, hm, hx, hv, hrun, Result.andThen]
  refine hK' _ _ (hK w' (Lib.hid ⟨_, r1, h2.put _ _, fun ys hy1 hy2 => ?_⟩) r2)
  by_cases e : ys = zs
  · subst e
    rw [Go.Maps.atKey_put_same h2 (keyK.key (key_of hw))]
    simp
  · rw [Go.Maps.atKey_put_other (fun z => e (key_inj (by omega) (by omega) hy2 hw z)), h3 ys hy1 hy2]
    simp [e]
end
/-- The eight cells behind a copy. -/
theorem splice_eight {zs : List Int} (h : zs.length ≤ 8) : splice [.int .i64 0, .int .i64 0, .int .i64 0, .int .i64 0, .int .i64 0, .int .i64 0, .int .i64 0, .int .i64 0] 0 (intV zs) = [.int .i64 (nth zs 0), .int .i64 (nth zs 1), .int .i64 (nth zs 2), .int .i64 (nth zs 3), .int .i64 (nth zs 4), .int .i64 (nth zs 5), .int .i64 (nth zs 6), .int .i64 (nth zs 7)] := by
  match zs, h with
  | [], _ => rfl
  | [_], _ => rfl
  | [_, _], _ => rfl
  | [_, _, _], _ => rfl
  | [_, _, _, _], _ => rfl
  | [_, _, _, _, _], _ => rfl
  | [_, _, _, _, _, _], _ => rfl
  | [_, _, _, _, _, _, _], _ => rfl
  | [_, _, _, _, _, _, _, _], _ => rfl
  | _ :: _ :: _ :: _ :: _ :: _ :: _ :: _ :: _ :: _, h => simp at h
end Go.Proofs.YtaodebpogibimaaGreat
namespace Go.Proofs.YtaodebpogibimaaGreat
open Go.RowKit

theorem below_down {B B' : Nat} {a b : World} (h : Below B a b) (hB : B' ≤ B) : Below B' a b := h.mono hB
/-- What stands while rows are looked at for one that is there twice. -/
def TwI (base : Nat) (w0 : World) (gs b n m : Nat) (L : List (List Int)) (W : World) : Prop := Below base w0 W ∧ base ≤ gs ∧ base ≤ b ∧ HB W gs 117 #[.map (some b)] ∧ SetAt W b n m L
theorem TwI.below {base gs b n m : Nat} {w0 W W' : World} {L : List (List Int)} (h : TwI base w0 gs b n m L W) (hb : Below W.heap.size W W') : TwI base w0 gs b n m L W' := by
  obtain ⟨h1, h2, h3, h4, h5⟩ := h
  have := h4.lt
  exact ⟨h1.trans (hb.mono (by omega)), h2, h3, h4.below hb, h5.below hb⟩
theorem TwI.grown {base gs b n n' m : Nat} {w0 W W' : World} {L L' : List (List Int)} (h : TwI base w0 gs b n m L W) (hg : W.grownBy W' (some b)) (hs : SetAt W' b n' m L') : TwI base w0 gs b n' m L' W' := by
  obtain ⟨h1, h2, h3, h4, h5⟩ := h
  have hl := h4.lt
  refine ⟨h1.grown hg (by omega) (fun j hj => by injection hj with hj; omega), h2, h3, ?_, hs⟩
  exact h4.grown hg (by have := set_ne h5 h4; simpa using this)
theorem enters_tw1 : Enters 95 := fun _ _ => by kernel_rfl
set_option maxRecDepth 100000 in
set_option maxHeartbeats 4000000 in
theorem tw1_any (base gs b n m : Nat) (w0 : World) (L : List (List Int)) (q : En) (Aa Ac : Option Addr) (ca cc : Nat) (hm : q.args.length = m) (h8 : m ≤ 8) (hwf : ∀ z ∈ q.args, wf64 z) (hn : n < maxLen) (W : World) (hI : TwI base w0 gs b n m L W) (hq : enI W q Aa ca Ac cc) :
    Calls Tryz.prog 95 (#[enV q Aa ca Ac cc] ++ #[.pointer (some ⟨gs, 0, none⟩)]) W fun e w' => e = .returned (.bool (decide (q.args ∈ L))) ∧ TwI base w0 gs b (n + 1) m (L ++ [q.args]) w' := by
  show Calls Tryz.prog 95 #[.agg #[.slice Aa q.args.length ca, .int .i64 q.too.num, .int .i64 q.too.den, .slice Ac q.too.cells.length cc, .int .i64 q.too.rest], .pointer (some ⟨gs, 0, none⟩)] W _
  obtain ⟨⟨ha1, ha2, ha3⟩, _⟩ := hq
  have HI := Lib.hid hI
  have HWF := Lib.hid hwf
  have HM := Lib.hid hm
  have HN := Lib.hid hn
  have l0 := hI.2.2.2.1.lt
  have HS8 := Lib.hid (splice_eight (zs := q.args) (by omega))
  have HCS : Hid ((intV q.args).length = m ∧ (∀ v ∈ intV q.args, v.oneCell' = true) ∧ (0 < m → ∃ ad : Addr, Aa = some ad ∧ ∀ W', Below W.heap.size W W' → ∀ j v, (intV q.args)[j]? = some v → W'.cell? (ad.add j) = some v)) := Lib.hid (by
    refine ⟨by simp [intV, hm], fun v hv => ?_, fun hp => ?_⟩
    · simp [intV] at hv
      obtain ⟨z, _, rfl⟩ := hv
      rfl
    · obtain ⟨b1, o1, e1, hb1, hc1⟩ := ha3 (by omega)
      refine ⟨⟨b1, o1, none⟩, e1, fun W' hW' j v hj => ?_⟩
      have hjl : j < q.args.length := by
        rcases Nat.lt_or_ge j q.args.length with z | z
        · exact z
        · rw [List.getElem?_eq_none (by simpa [intV] using z)] at hj; cases hj
      rw [Go.WideShapes.add_plain]
      rw [hW'.cell (p := ⟨b1, o1 + j, none⟩) hb1, hc1 j hjl]
      rw [← hj]
      simp [intV, nth, List.getD, hjl])
  have HK0 : Hid (Value.agg #[.int .i64 (nth q.args 0), .int .i64 (nth q.args 1), .int .i64 (nth q.args 2), .int .i64 (nth q.args 3), .int .i64 (nth q.args 4), .int .i64 (nth q.args 5), .int .i64 (nth q.args 6), .int .i64 (nth q.args 7)] = kyV q.args) := Lib.hid rfl
  have NW0 := Lib.hid (HB.new1 W (.cells #[.slice Aa q.args.length ca, .int .i64 q.too.num, .int .i64 q.too.den, .slice Ac q.too.cells.length cc, .int .i64 q.too.rest] 89) 118 #[.int .i64 0, .int .i64 0, .int .i64 0, .int .i64 0, .int .i64 0, .int .i64 0, .int .i64 0, .int .i64 0])
  clear ha3 hI hwf hn
  unfold maxLen at ha2
  rw [hm] at ha1 NW0 ⊢
  clear hm
  generalize hcs : intV q.args = cs at *
  clear hcs
  generalize nth q.args 0 = k0 at *
  generalize nth q.args 1 = k1 at *
  generalize nth q.args 2 = k2 at *
  generalize nth q.args 3 = k3 at *
  generalize nth q.args 4 = k4 at *
  generalize nth q.args 5 = k5 at *
  generalize nth q.args 6 = k6 at *
  generalize nth q.args 7 = k7 at *
  generalize q.args = zs at *
  generalize q.too.cells.length = cl at *
  generalize q.too.num = vn at *
  generalize q.too.den = vd at *
  generalize q.too.rest = vr at *
  have BW0 := Lib.hid (((Below.refl W.heap.size W).alloc (Nat.le_refl _) (.cells #[.slice Aa m ca, .int .i64 vn, .int .i64 vd, .slice Ac cl cc, .int .i64 vr] 89)).alloc (by simp) (.cells #[.int .i64 0, .int .i64 0, .int .i64 0, .int .i64 0, .int .i64 0, .int .i64 0, .int .i64 0, .int .i64 0] 118))
  go_enter Tryz.func95, Tryz.ntmps95
  go_wp2_with fail
  have NW1 : Hid (((W.alloc (.cells #[.slice Aa m ca, .int .i64 vn, .int .i64 vd, .slice Ac cl cc, .int .i64 vr] 89)).alloc (.cells #[.int .i64 0, .int .i64 0, .int .i64 0, .int .i64 0, .int .i64 0, .int .i64 0, .int .i64 0, .int .i64 0] 118)).drew.heap[W.heap.size + 1]? = some (.cells [Value.int .i64 0, .int .i64 0, .int .i64 0, .int .i64 0, .int .i64 0, .int .i64 0, .int .i64 0, .int .i64 0].toArray 118 (0, 0))) := NW0
  have HPOS : Hid (0 < cs.length → (some ⟨W.heap.size + 1, 0, none⟩ : Option Addr) = some ⟨W.heap.size + 1, 0, none⟩ ∧ ∃ ad, Aa = some ad ∧ ∀ (j : Nat) (v : Value), cs[j]? = some v → ((W.alloc (.cells #[.slice Aa m ca, .int .i64 vn, .int .i64 vd, .slice Ac cl cc, .int .i64 vr] 89)).alloc (.cells #[.int .i64 0, .int .i64 0, .int .i64 0, .int .i64 0, .int .i64 0, .int .i64 0, .int .i64 0, .int .i64 0] 118)).drew.cell? (ad.add j) = some v) := Lib.hid (fun hp => by
    obtain ⟨ad, h1, h2⟩ := HCS.out.2.2 (by rw [← HCS.out.1]; exact hp)
    exact ⟨rfl, ad, h1, h2 _ BW0.out.drew⟩)
  have HMIN : Hid (cs.length = Nat.min m 8) := Lib.hid (by rw [HCS.out.1]; exact (Nat.min_eq_left h8).symm)
  have HFIT : Hid (0 + cs.length ≤ [Value.int .i64 0, .int .i64 0, .int .i64 0, .int .i64 0, .int .i64 0, .int .i64 0, .int .i64 0, .int .i64 0].length) := Lib.hid (by rw [HCS.out.1]; simp; omega)
  go_region_law (refine step_copy_splice rfl (.tmp 6) (.tmp 8) 24 24 rfl 3 Tryz.underlying24 (by kernel_rfl) _ _ _ _ _ _ rfl rfl (W.heap.size + 1) 0 [.int .i64 0, .int .i64 0, .int .i64 0, .int .i64 0, .int .i64 0, .int .i64 0, .int .i64 0, .int .i64 0] 118 NW1.out cs HMIN.out HPOS.out HFIT.out HCS.out.2.1 (W.heap.size + 1) _ (Below.refl _ _) (Nat.le_refl _) ?_; intro w3 hg3 hb3)
  have G3 : Hid (HB w3 (W.heap.size + 1) 118 #[.int .i64 k0, .int .i64 k1, .int .i64 k2, .int .i64 k3, .int .i64 k4, .int .i64 k5, .int .i64 k6, .int .i64 k7]) := Lib.hid (by
    have := hg3.out
    rw [HS8.out] at this
    exact this)
  have B3 : Hid (Below W.heap.size W w3) := Lib.hid (BW0.out.drew.trans (hb3.mono (by omega)))
  have I3 := Lib.hid (HI.out.below B3.out)
  clear hg3 hb3 NW1 HPOS HMIN HFIT NW0 BW0 HCS HS8
  obtain ⟨q0, q1⟩ := I3.out.2.2.2.1.one
  have lq := I3.out.2.2.2.1.lt
  have c0 := G3.out.cell 0
  have c1 := G3.out.cell 1
  have c2 := G3.out.cell 2
  have c3 := G3.out.cell 3
  have c4 := G3.out.cell 4
  have c5 := G3.out.cell 5
  have c6 := G3.out.cell 6
  have c7 := G3.out.cell 7
  have lg := G3.out.lt
  simp at c0 c1 c2 c3 c4 c5 c6 c7
  have H8 : Hid (zs.length ≤ 8) := Lib.hid (by have := HM.out; omega)
  go_wp2_with (first | (at_lookup; refine wpl_look rfl _ _ rfl b n m L rfl I3.out.2.2.2.2 _ zs rfl HK0.out HM.out HWF.out ?_) | (at_mapUpdate; refine wpl_put rfl _ _ _ rfl b n m L rfl I3.out.2.2.2.2 HN.out _ zs rfl HK0.out HM.out H8.out HWF.out rfl ?_; intro w5 hs5 hg5))
  have I5 : Hid (TwI base w0 gs b (n + 1) m (L ++ [zs]) w5) := Lib.hid (I3.out.grown hg5 hs5.out)
  clear hg5 hs5 q0 q1 lq c0 c1 c2 c3 c4 c5 c6 c7
  go_wp2_with fail
  go_ret
  exact ⟨rfl, I5.out⟩
/-- The arguments of the first rows. -/
def argL (es : List En) (i : Nat) : List (List Int) := (es.take i).map (·.args)
theorem argL_succ {es : List En} {i : Nat} (h : i < es.length) : argL es (i + 1) = argL es i ++ [(en es i).args] := by
  unfold argL en
  rw [List.take_succ_eq_append_getElem h, List.map_append]
  simp [List.getD, h]
/-- Two rows have the same arguments. -/
def twB (es : List En) : Bool := (List.range es.length).any fun i => decide ((en es i).args ∈ argL es i)
set_option maxHeartbeats 2000000 in
theorem twice_any (es : List En) (A : Option Addr) (c m : Nat) (hl : es.length < maxLen) (h8 : m ≤ 8) (hm : ∀ i, i < es.length → (en es i).args.length = m) (hwf : ∀ i, i < es.length → ∀ z ∈ (en es i).args, wf64 z) (w : World) (h : EsAt w A es) :
    Calls Tryz.prog 63 #[.slice A es.length c] w fun e w' => e = .returned (.bool (twB es)) ∧ Below w.heap.size w w' := by
  have HX : Hid (∀ W, TwI w.heap.size w (w.heap.size + 1) w.heap.size 0 m [] W → Calls Tryz.prog 59 #[.slice A es.length c, .func (.func 95) #[] #[.pointer (some ⟨w.heap.size + 1, 0, none⟩)]] W fun e w' => e = .returned (.bool (twB es)) ∧ Below w.heap.size w w') := Lib.hid (fun W hW => by
    refine (conten_any enters_tw1 es A c #[.pointer (some ⟨w.heap.size + 1, 0, none⟩)] (fun i => decide ((en es i).args ∈ argL es i)) (fun i W => TwI w.heap.size w (w.heap.size + 1) w.heap.size i m (argL es i) W) (by omega) (fun i W hW => h.below hW.1) (fun i W Aa ca Ac cc hi hW hq => ?_) W hW).mono ?_
    · have := tw1_any w.heap.size (w.heap.size + 1) w.heap.size i m w (argL es i) (en es i) Aa Ac ca cc (hm i hi) h8 (hwf i hi) (by omega) W hW hq
      rw [argL_succ hi]
      exact this
    · rintro e w' ⟨r, rfl, hr⟩
      rcases hr.out with ⟨i, h1, h2, h3, h4, h5⟩ | ⟨h1, h2, h3⟩
      · subst h4
        refine ⟨ret_bool ?_, h5.1⟩
        unfold twB
        exact (List.any_eq_true.2 ⟨i, List.mem_range.2 h1, h2⟩).symm
      · subst h2
        refine ⟨ret_bool ?_, h3.1⟩
        unfold twB
        exact (List.any_eq_false.2 (fun i hi => by have := h1 i (List.mem_range.1 hi); simp only at this; rw [this]; simp)).symm)
  have HS := Lib.hid (set_made w m)
  clear hl hm hwf h
  generalize es.length = L at *
  generalize twB es = r at *
  have hmm := @run_makeMap Tryz.prog
  go_enter Tryz.func63, Tryz.ntmps63
  go_wp2_with fail
  have HI : Hid (TwI w.heap.size w (w.heap.size + 1) w.heap.size 0 m [] ((w.alloc (.map #[] 0)).alloc (.cells #[.map (some w.heap.size)] 117))) := Lib.hid ⟨((Below.refl _ _).alloc (Nat.le_refl _) _).alloc (by simp) _, by omega, Nat.le_refl _, by simpa using HB.new (w.alloc (.map #[] 0)) 117 #[.map (some w.heap.size)], HS.out.below (new_below _ _)⟩
  refine (HX.out _ HI.out).mono ?_
  rintro e w1 ⟨rfl, hb1⟩
  have HB1 := Lib.hid hb1
  clear hb1
  go_wp2_with fail
  go_ret
  exact ⟨rfl, HB1.out⟩
end Go.Proofs.YtaodebpogibimaaGreat
namespace Go.Proofs.YtaodebpogibimaaGreat
open Go.RowKit

theorem held_any {es : List En} {q : En → Bool} {I : Nat → World → Prop} {r : Bool} {w : World} (h : Held es.length (fun i => q (en es i)) I r w) : r = es.any q ∧ ∃ i, I i w := by
  rcases h with ⟨i, h1, h2, h3, h4, h5⟩ | ⟨h1, h2, h3⟩
  · refine ⟨?_, _, h5⟩
    rw [h4]
    refine (List.any_eq_true.2 ⟨en es i, ?_, h2⟩).symm
    simp [en, List.getD, h1]
  · refine ⟨?_, _, h3⟩
    rw [h2]
    refine (List.any_eq_false.2 (fun x hx => ?_)).symm
    obtain ⟨j, hj, rfl⟩ := List.getElem_of_mem hx
    have := h1 j hj
    simp only [en, List.getD, List.getElem?_eq_getElem hj, Option.getD_some] at this
    rw [this]
    simp
/-- Is there a row of which a function value tells true? -/
theorem some_any {fid : Nat} (hc : Enters fid) (es : List En) (A : Option Addr) (c : Nat) (caps : Array Value) (q : En → Bool) (C : World → Prop) (hC : ∀ W W', C W → Below W.heap.size W W' → C W') (hl : es.length ≤ maxLen)
    (H : ∀ i W Aa ca Ac cc, i < es.length → C W → enI W (en es i) Aa ca Ac cc → Calls Tryz.prog fid (#[enV (en es i) Aa ca Ac cc] ++ caps) W fun e w' => e = .returned (.bool (q (en es i))) ∧ Below W.heap.size W w')
    (g3 : Nat) (v1 v2 v3 v4 : Value) (w : World) (hw : C w) (h : EsAt w A es) (hg : HB w g3 49 #[.slice A es.length c, v1, v2, v3, v4]) :
    Calls Tryz.prog 58 #[.func (.func fid) #[] caps, .pointer (some ⟨g3, 0, none⟩)] w fun e w' => e = .returned (.bool (es.any q)) ∧ Below w.heap.size w w' := by
  have HX : Hid (Calls Tryz.prog 59 #[.slice A es.length c, .func (.func fid) #[] caps] w fun e w' => e = .returned (.bool (es.any q)) ∧ Below w.heap.size w w') := Lib.hid (by
    refine (conten_any hc es A c caps (fun i => q (en es i)) (fun _ W => C W ∧ Below w.heap.size w W) hl (fun i W hW => h.below hW.2) (fun i W Aa ca Ac cc hi hW hq => (H i W Aa ca Ac cc hi hW.1 hq).mono fun e w' ⟨h1, h2⟩ => ⟨h1, hC _ _ hW.1 h2, bw_below (Nat.le_refl _) hW.2 h2⟩) w ⟨hw, Below.refl _ _⟩).mono ?_
    rintro e w' ⟨r, rfl, hr⟩
    obtain ⟨h1, i, h2⟩ := held_any hr.out
    exact ⟨ret_bool h1, h2.2⟩)
  obtain ⟨c0, _⟩ := HB.five hg
  clear hc hC hl H hw h hg
  generalize es.length = L at *
  generalize es.any q = r at *
  go_enter Tryz.func58, Tryz.ntmps58
  go_wp2_with fail
  refine HX.out.mono ?_
  rintro e w1 ⟨rfl, hb1⟩
  have HB1 := Lib.hid hb1
  clear hb1
  go_wp2_with fail
  go_ret
  exact ⟨rfl, HB1.out⟩
theorem enters_wm2 : Enters 60 := fun _ _ => by kernel_rfl
theorem enters_wm3 : Enters 61 := fun _ _ => by kernel_rfl
theorem enters_wm4 : Enters 65 := fun _ _ => by kernel_rfl
theorem enters_isno : Enters 62 := fun _ _ => by kernel_rfl
theorem wm2_any (q : En) (Aa Ac Ad : Option Addr) (ca cc dl dc g2 : Nat) (v0 v2 : Value) (hd : dl ≤ maxLen) (W : World) (hq : enI W q Aa ca Ac cc) (hg : HB W g2 52 #[v0, .slice Ad dl dc, v2]) :
    Calls Tryz.prog 60 (#[enV q Aa ca Ac cc] ++ #[.pointer (some ⟨g2, 0, none⟩)]) W fun e w' => e = .returned (.bool (!decide (q.args.length = dl))) ∧ Below W.heap.size W w' := by
  show Calls Tryz.prog 60 #[.agg #[.slice Aa q.args.length ca, .int .i64 q.too.num, .int .i64 q.too.den, .slice Ac q.too.cells.length cc, .int .i64 q.too.rest], .pointer (some ⟨g2, 0, none⟩)] W _
  obtain ⟨⟨ha1, ha2, _⟩, hc1, hc2, _⟩ := hq
  obtain ⟨c0, c1, c2, _⟩ := hg.three
  have lg := hg.lt
  clear hg
  unfold maxLen at ha2 hc2 hd
  generalize q.args.length = al at *
  generalize q.too.cells.length = cl at *
  generalize q.too.num = vn at *
  generalize q.too.den = vd at *
  generalize q.too.rest = vr at *
  by_cases h : al = dl
  · subst h
    go_enter Tryz.func60, Tryz.ntmps60
    go_wp2_with fail
    go_ret
    exact ⟨by simp, new_below _ _⟩
  · have d1 : ((al : Int) != dl) = true := by simp; omega
    have HD : Hid ((!decide (al = dl)) = true) := Lib.hid (by simp [h])
    clear h
    go_enter Tryz.func60, Tryz.ntmps60
    go_wp2_with fail
    go_ret
    exact ⟨by rw [HD.out]; rfl, new_below _ _⟩
theorem wm3_any (q : En) (Aa Ac : Option Addr) (ca cc : Nat) (W : World) (hq : enI W q Aa ca Ac cc) :
    Calls Tryz.prog 61 (#[enV q Aa ca Ac cc] ++ #[]) W fun e w' => e = .returned (.bool (q.args.any nTh)) ∧ Below W.heap.size W w' := by
  show Calls Tryz.prog 61 #[.agg #[.slice Aa q.args.length ca, .int .i64 q.too.num, .int .i64 q.too.den, .slice Ac q.too.cells.length cc, .int .i64 q.too.rest]] W _
  obtain ⟨⟨ha1, ha2, ha3⟩, hc1, hc2, _⟩ := hq
  have HX := Lib.hid (contint_any enters_isno q.args Aa ca #[] nTh (fun _ => True) (fun _ _ _ _ => trivial) (by omega) (fun i W _ _ => (nothing_any (nth q.args i) W).mono fun e w' ⟨h1, h2⟩ => ⟨h1, by subst h2; exact Below.refl _ _⟩) (W.alloc (.cells #[.slice Aa q.args.length ca, .int .i64 q.too.num, .int .i64 q.too.den, .slice Ac q.too.cells.length cc, .int .i64 q.too.rest] 89)) (ha3.below (new_below _ _)) trivial)
  clear ha3
  unfold maxLen at ha2 hc2
  generalize q.args.any nTh = r at *
  generalize q.args.length = al at *
  generalize q.too.cells.length = cl at *
  generalize q.too.num = vn at *
  generalize q.too.den = vd at *
  generalize q.too.rest = vr at *
  go_enter Tryz.func61, Tryz.ntmps61
  go_wp2_with fail
  refine HX.out.mono ?_
  rintro e w1 ⟨rfl, hb1⟩
  have HB1 := Lib.hid (below_after (new_below W _) hb1)
  clear hb1
  go_wp2_with fail
  go_ret
  exact ⟨rfl, HB1.out⟩
theorem wm4_any (so : Int) (q : En) (Aa Ac : Option Addr) (ca cc g2 : Nat) (v0 v1 : Value) (hs : okSo so) (W : World) (hq : enI W q Aa ca Ac cc) (hg : HB W g2 52 #[v0, v1, .int .i64 so]) :
    Calls Tryz.prog 65 (#[enV q Aa ca Ac cc] ++ #[.pointer (some ⟨g2, 0, none⟩)]) W fun e w' => e = .returned (.bool (!gdV so q.too)) ∧ Below W.heap.size W w' := by
  show Calls Tryz.prog 65 #[.agg #[.slice Aa q.args.length ca, .int .i64 q.too.num, .int .i64 q.too.den, .slice Ac q.too.cells.length cc, .int .i64 q.too.rest], .pointer (some ⟨g2, 0, none⟩)] W _
  obtain ⟨⟨ha1, ha2, _⟩, hc1, hc2, hc3⟩ := hq
  obtain ⟨c0, c1, c2, _⟩ := hg.three
  have lg := hg.lt
  have HX := Lib.hid (isvalue_any so q.too Ac cc hs (by omega) (W.alloc (.cells #[.slice Aa q.args.length ca, .int .i64 q.too.num, .int .i64 q.too.den, .slice Ac q.too.cells.length cc, .int .i64 q.too.rest] 89)) (hc3.below (new_below _ _)))
  clear hg hs hc3
  unfold maxLen at ha2 hc2
  generalize gdV so q.too = r at *
  generalize q.args.length = al at *
  generalize q.too.cells.length = cl at *
  generalize q.too.num = vn at *
  generalize q.too.den = vd at *
  generalize q.too.rest = vr at *
  go_enter Tryz.func65, Tryz.ntmps65
  go_wp2_with fail
  refine HX.out.mono ?_
  rintro e w1 ⟨rfl, hb1⟩
  have HB1 := Lib.hid (below_after (new_below W _) hb1)
  clear hb1
  go_wp2_with fail
  go_ret
  exact ⟨rfl, HB1.out⟩
/-- What is wrong with a meaning of a name that wants so many things, and is of a sort. -/
def mgC (dl : Nat) (so : Int) (m : Mg) : Int :=
  if 1000 < m.rows.length ∨ (m.rows.any fun e => !decide (e.args.length = dl)) = true then 9 else if (m.rows.any fun e => e.args.any nTh) = true then 3 else if twB m.rows = true then 7 else if gdV so m.rest = false ∨ (m.rows.any fun e => !gdV so e.too) = true then 8 else 0
theorem mgc_9a {dl : Nat} {so : Int} {m : Mg} (h : 1000 < m.rows.length) : mgC dl so m = 9 := by unfold mgC; rw [if_pos (.inl h)]
theorem mgc_9b {dl : Nat} {so : Int} {m : Mg} (h : (m.rows.any fun e => !decide (e.args.length = dl)) = true) : mgC dl so m = 9 := by unfold mgC; rw [if_pos (.inr h)]
theorem mgc_r {dl : Nat} {so : Int} {m : Mg} (h1 : ¬ 1000 < m.rows.length) (h2 : (m.rows.any fun e => !decide (e.args.length = dl)) = false) :
    mgC dl so m = if (m.rows.any fun e => e.args.any nTh) = true then 3 else if twB m.rows = true then 7 else if gdV so m.rest = false ∨ (m.rows.any fun e => !gdV so e.too) = true then 8 else 0 := by
  unfold mgC
  rw [if_neg (by rw [h2]; simp; omega)]
set_option maxHeartbeats 8000000 in
theorem wrongmeaning_any (nm : ByteArray) (ds : List Int) (Ad A Ac : Option Addr) (dc c cc : Nat) (so : Int) (m : Mg) (hs : okSo so) (hd1 : ds.length ≤ dc) (hd2 : dc ≤ maxLen) (h8 : ds.length ≤ 8) (hl1 : m.rows.length ≤ c) (hl2 : c ≤ maxLen) (hc1 : m.rest.cells.length ≤ cc) (hc2 : cc ≤ maxLen) (hwf : m.wf) (w : World) (h : EsAt w A m.rows) (hcs : CsAt w Ac m.rest.cells) :
    Calls Tryz.prog 24 #[.agg #[.string nm, .slice Ad ds.length dc, .int .i64 so], .agg #[.slice A m.rows.length c, .int .i64 m.rest.num, .int .i64 m.rest.den, .slice Ac m.rest.cells.length cc, .int .i64 m.rest.rest]] w fun e w' => e = .returned (.int .i64 (mgC ds.length so m)) ∧ Below w.heap.size w w' := by
  have HH := Lib.hid h
  have HCS := Lib.hid hcs
  have NB0 : Hid (Below w.heap.size w ((w.alloc (.cells #[.string nm, .slice Ad ds.length dc, .int .i64 so] 52)).alloc (.cells #[.slice A m.rows.length c, .int .i64 m.rest.num, .int .i64 m.rest.den, .slice Ac m.rest.cells.length cc, .int .i64 m.rest.rest] 49))) := Lib.hid (((Below.refl _ _).alloc (Nat.le_refl _) _).alloc (by simp) _)
  have ND0 : Hid (HB ((w.alloc (.cells #[.string nm, .slice Ad ds.length dc, .int .i64 so] 52)).alloc (.cells #[.slice A m.rows.length c, .int .i64 m.rest.num, .int .i64 m.rest.den, .slice Ac m.rest.cells.length cc, .int .i64 m.rest.rest] 49)) w.heap.size 52 #[.string nm, .slice Ad ds.length dc, .int .i64 so]) := Lib.hid ((HB.new _ _ _).alloc _)
  have NM0 : Hid (HB ((w.alloc (.cells #[.string nm, .slice Ad ds.length dc, .int .i64 so] 52)).alloc (.cells #[.slice A m.rows.length c, .int .i64 m.rest.num, .int .i64 m.rest.den, .slice Ac m.rest.cells.length cc, .int .i64 m.rest.rest] 49)) (w.heap.size + 1) 49 #[.slice A m.rows.length c, .int .i64 m.rest.num, .int .i64 m.rest.den, .slice Ac m.rest.cells.length cc, .int .i64 m.rest.rest]) := Lib.hid (HB.new1 _ _ _ _)
  have S2 : Hid (∀ W, Below w.heap.size w W → HB W w.heap.size 52 #[.string nm, .slice Ad ds.length dc, .int .i64 so] → HB W (w.heap.size + 1) 49 #[.slice A m.rows.length c, .int .i64 m.rest.num, .int .i64 m.rest.den, .slice Ac m.rest.cells.length cc, .int .i64 m.rest.rest] → Calls Tryz.prog 58 #[.func (.func 60) #[] #[.pointer (some ⟨w.heap.size, 0, none⟩)], .pointer (some ⟨w.heap.size + 1, 0, none⟩)] W fun e w' => e = .returned (.bool (m.rows.any fun e => !decide (e.args.length = ds.length))) ∧ Below W.heap.size W w') := Lib.hid (fun W hb hd hm =>
    some_any enters_wm2 m.rows A c #[.pointer (some ⟨w.heap.size, 0, none⟩)] (fun e => !decide (e.args.length = ds.length)) (fun W => HB W w.heap.size 52 #[.string nm, .slice Ad ds.length dc, .int .i64 so]) (fun _ _ h1 h2 => h1.below h2) (by omega) (fun i W Aa ca Ac cc hi hC hq => wm2_any (en m.rows i) Aa Ac Ad ca cc ds.length dc w.heap.size _ _ (by omega) W hq hC) (w.heap.size + 1) _ _ _ _ W hd (h.below hb) hm)
  have S3 : Hid (∀ W, Below w.heap.size w W → HB W (w.heap.size + 1) 49 #[.slice A m.rows.length c, .int .i64 m.rest.num, .int .i64 m.rest.den, .slice Ac m.rest.cells.length cc, .int .i64 m.rest.rest] → Calls Tryz.prog 58 #[.func (.func 61) #[] #[], .pointer (some ⟨w.heap.size + 1, 0, none⟩)] W fun e w' => e = .returned (.bool (m.rows.any fun e => e.args.any nTh)) ∧ Below W.heap.size W w') := Lib.hid (fun W hb hm =>
    some_any enters_wm3 m.rows A c #[] (fun e => e.args.any nTh) (fun _ => True) (fun _ _ _ _ => trivial) (by omega) (fun i W Aa ca Ac cc hi hC hq => wm3_any (en m.rows i) Aa Ac ca cc W hq) (w.heap.size + 1) _ _ _ _ W trivial (h.below hb) hm)
  have S4 : Hid (∀ W, Below w.heap.size w W → HB W w.heap.size 52 #[.string nm, .slice Ad ds.length dc, .int .i64 so] → HB W (w.heap.size + 1) 49 #[.slice A m.rows.length c, .int .i64 m.rest.num, .int .i64 m.rest.den, .slice Ac m.rest.cells.length cc, .int .i64 m.rest.rest] → Calls Tryz.prog 58 #[.func (.func 65) #[] #[.pointer (some ⟨w.heap.size, 0, none⟩)], .pointer (some ⟨w.heap.size + 1, 0, none⟩)] W fun e w' => e = .returned (.bool (m.rows.any fun e => !gdV so e.too)) ∧ Below W.heap.size W w') := Lib.hid (fun W hb hd hm =>
    some_any enters_wm4 m.rows A c #[.pointer (some ⟨w.heap.size, 0, none⟩)] (fun e => !gdV so e.too) (fun W => HB W w.heap.size 52 #[.string nm, .slice Ad ds.length dc, .int .i64 so]) (fun _ _ h1 h2 => h1.below h2) (by omega) (fun i W Aa ca Ac cc hi hC hq => wm4_any so (en m.rows i) Aa Ac ca cc w.heap.size _ _ hs W hq hC) (w.heap.size + 1) _ _ _ _ W hd (h.below hb) hm)
  have S5 : Hid (∀ W, Below w.heap.size w W → (m.rows.any fun e => !decide (e.args.length = ds.length)) = false → m.rows.length ≤ 1000 → Calls Tryz.prog 63 #[.slice A m.rows.length c] W fun e w' => e = .returned (.bool (twB m.rows)) ∧ Below W.heap.size W w') := Lib.hid (fun W hb h2 h3 =>
    twice_any m.rows A c ds.length (by unfold maxLen; omega) h8 (fun i hi => by
      have := List.any_eq_false.1 h2 (en m.rows i) (by simp [en, List.getD, hi])
      simpa using this) (fun i hi => (hwf.1 (en m.rows i) (by simp [en, List.getD, hi])).1) W (h.below hb))
  have S6 : Hid (∀ W, Below w.heap.size w W → Calls Tryz.prog 64 #[.int .i64 so, .agg #[.int .i64 m.rest.num, .int .i64 m.rest.den, .slice Ac m.rest.cells.length cc, .int .i64 m.rest.rest]] W fun e w' => e = .returned (.bool (gdV so m.rest)) ∧ Below W.heap.size W w') := Lib.hid (fun W hb => isvalue_any so m.rest Ac cc hs (by omega) W (hcs.below hb))
  have E1 : Hid (1000 < m.rows.length → mgC ds.length so m = 9) := Lib.hid mgc_9a
  have E2 : Hid ((m.rows.any fun e => !decide (e.args.length = ds.length)) = true → mgC ds.length so m = 9) := Lib.hid mgc_9b
  have E3 : Hid (¬ 1000 < m.rows.length → (m.rows.any fun e => !decide (e.args.length = ds.length)) = false → mgC ds.length so m = if (m.rows.any fun e => e.args.any nTh) = true then 3 else if twB m.rows = true then 7 else if gdV so m.rest = false ∨ (m.rows.any fun e => !gdV so e.too) = true then 8 else 0) := Lib.hid mgc_r
  clear h hcs hwf hs h8
  unfold maxLen at hd2 hl2 hc2
  generalize mgC ds.length so m = r at *
  generalize gdV so m.rest = b1 at *
  generalize twB m.rows = b2 at *
  generalize (m.rows.any fun e => !decide (e.args.length = ds.length)) = b3 at *
  generalize (m.rows.any fun e => e.args.any nTh) = b4 at *
  generalize (m.rows.any fun e => !gdV so e.too) = b5 at *
  generalize m.rows.length = rl at *
  generalize m.rest.cells.length = cl at *
  generalize m.rest.num = vn at *
  generalize m.rest.den = vd at *
  generalize m.rest.rest = vr at *
  generalize ds.length = dl at *
  by_cases h1 : 1000 < rl
  · have t1 : decide ((1000 : Int) < rl) = true := by simp; omega
    have HR := Lib.hid (E1.out h1)
    go_enter Tryz.func24, Tryz.ntmps24
    go_wp2_with fail
    go_ret
    exact ⟨by rw [HR.out]; rfl, NB0.out⟩
  · have t1 : decide ((1000 : Int) < rl) = false := by simp; omega
    have HR1 := Lib.hid (E3.out h1)
    have H10 := Lib.hid h1
    clear E1 E3 h1
    go_enter Tryz.func24, Tryz.ntmps24
    go_wp2_with fail
    refine (S2.out _ NB0.out ND0.out NM0.out).mono ?_
    rintro e w1 ⟨rfl, hb1⟩
    have NB1 := Lib.hid (below_after NB0.out hb1)
    have ND1 := Lib.hid (ND0.out.below hb1)
    have NM1 := Lib.hid (NM0.out.below hb1)
    clear hb1 NB0 ND0 NM0 S2
    cases hb : b3 with
    | true =>
      have HR := Lib.hid (E2.out hb)
      clear hb HR1 E2
      go_wp2_with fail
      go_ret
      exact ⟨by rw [HR.out]; rfl, NB1.out⟩
    | false =>
      have HR2 := Lib.hid (HR1.out hb)
      have HB3 := Lib.hid hb
      clear hb HR1 E2
      go_wp2_with fail
      refine (S3.out _ NB1.out NM1.out).mono ?_
      rintro e w2 ⟨rfl, hb2⟩
      have NB2 := Lib.hid (below_after NB1.out hb2)
      have ND2 := Lib.hid (ND1.out.below hb2)
      have NM2 := Lib.hid (NM1.out.below hb2)
      clear hb2 NB1 ND1 NM1 S3
      cases hb : b4 with
      | true =>
        have HR : Hid (r = 3) := Lib.hid (by rw [HR2.out, hb]; rfl)
        clear hb HR2
        go_wp2_with fail
        go_ret
        exact ⟨by rw [HR.out]; rfl, NB2.out⟩
      | false =>
        have HR3 : Hid (r = if b2 = true then 7 else if b1 = false ∨ b5 = true then 8 else 0) := Lib.hid (by rw [HR2.out, hb]; rfl)
        have X5 := Lib.hid (S5.out _ NB2.out HB3.out (by have := H10.out; omega))
        clear hb HR2 S5
        obtain ⟨c0, c1, c2, c3, c4⟩ := NM2.out.five
        have lm := NM2.out.lt
        go_wp2_with fail
        refine X5.out.mono ?_
        rintro e w3 ⟨rfl, hb3⟩
        have NB3 := Lib.hid (below_after NB2.out hb3)
        have ND3 := Lib.hid (ND2.out.below hb3)
        have NM3 := Lib.hid (NM2.out.below hb3)
        clear hb3 NB2 ND2 NM2 X5 c0 c1 c2 c3 c4 lm
        cases hb : b2 with
        | true =>
          have HR : Hid (r = 7) := Lib.hid (by rw [HR3.out, hb]; rfl)
          clear hb HR3
          go_wp2_with fail
          go_ret
          exact ⟨by rw [HR.out]; rfl, NB3.out⟩
        | false =>
          have HR4 : Hid (r = if b1 = false ∨ b5 = true then 8 else 0) := Lib.hid (by rw [HR3.out, hb]; rfl)
          have X6 := Lib.hid (S6.out _ NB3.out)
          clear hb HR3 S6
          obtain ⟨c0, c1, c2, c3, c4⟩ := NM3.out.five
          obtain ⟨d0, d1, d2, _⟩ := ND3.out.three
          have lm := NM3.out.lt
          have ld := ND3.out.lt
          go_wp2_with fail
          refine X6.out.mono ?_
          rintro e w4 ⟨rfl, hb4⟩
          have NB4 := Lib.hid (below_after NB3.out hb4)
          have ND4 := Lib.hid (ND3.out.below hb4)
          have NM4 := Lib.hid (NM3.out.below hb4)
          clear hb4 NB3 ND3 NM3 X6 c0 c1 c2 c3 c4 lm d0 d1 d2 ld
          cases hb : b1 with
          | false =>
            have HR : Hid (r = 8) := Lib.hid (by rw [HR4.out, hb]; rfl)
            clear hb HR4
            go_wp2_with fail
            go_ret
            exact ⟨by rw [HR.out]; rfl, NB4.out⟩
          | true =>
            have HR5 : Hid (r = if b5 = true then 8 else 0) := Lib.hid (by rw [HR4.out, hb]; simp)
            clear hb HR4
            go_wp2_with fail
            refine (S4.out _ NB4.out ND4.out NM4.out).mono ?_
            rintro e w5 ⟨rfl, hb5⟩
            have NB5 := Lib.hid (below_after NB4.out hb5)
            clear hb5 NB4 ND4 NM4 S4
            cases hb : b5 with
            | true =>
              have HR : Hid (r = 8) := Lib.hid (by rw [HR5.out, hb]; rfl)
              clear hb HR5
              go_wp2_with fail
              go_ret
              exact ⟨by rw [HR.out]; rfl, NB5.out⟩
            | false =>
              have HR : Hid (r = 0) := Lib.hid (by rw [HR5.out, hb]; rfl)
              clear hb HR5
              go_wp2_with fail
              go_ret
              exact ⟨by rw [HR.out]; rfl, NB5.out⟩
end Go.Proofs.YtaodebpogibimaaGreat
namespace Go.Proofs.YtaodebpogibimaaGreat
open Go.RowKit

theorem check_any (qs : List Dc) (ns : List Nd) (hs : List Int) (Ad An Ah : Option Addr) (dc nc hc : Nat) (h1 : qs.length ≤ dc) (h2 : dc ≤ maxLen) (h3 : ns.length ≤ maxLen) (h4 : hs.length ≤ maxLen) (w : World) (hd : DsAt w Ad qs) (hn : NsAt w An ns) (hh : Is w Ah hs) :
    Calls Tryz.prog 23 #[.agg #[.slice Ad qs.length dc, .slice An ns.length nc, .slice Ah hs.length hc]] w fun e w' => e = .returned (.agg #[.int .i64 (akC qs ns hs), .int .i64 (akA qs ns hs)]) ∧ Below w.heap.size w w' := by
  have N1 : Hid (HB ((w.alloc (.cells #[.slice Ad qs.length dc, .slice An ns.length nc, .slice Ah hs.length hc] 26)).alloc (.cells #[.int .i64 0, .int .i64 0] 32)) (w.heap.size + 1) 32 #[.int .i64 0, .int .i64 0]) := Lib.hid (HB.new1 _ _ _ _)
  have G1 : Hid (Below w.heap.size w ((w.alloc (.cells #[.slice Ad qs.length dc, .slice An ns.length nc, .slice Ah hs.length hc] 26)).alloc (.cells #[.int .i64 0, .int .i64 0] 32))) := Lib.hid (by go_grown)
  have X := Lib.hid (sorts_any qs ns hs Ad An Ah dc nc hc h1 h2 h3 h4 _ (hd.below G1.out) (hn.below G1.out) (hh.below G1.out))
  clear hd hn hh h1 h2 h3 h4
  unfold GivesS at X
  generalize akL qs ns hs = L at *
  generalize akC qs ns hs = C at *
  generalize akA qs ns hs = A at *
  generalize qs.length = ql at *
  generalize ns.length = nl at *
  generalize hs.length = hl at *
  go_enter Tryz.func23, Tryz.ntmps23
  go_wp2_with fail
  refine X.out.mono ?_
  rintro e w1 ⟨S, sc, rfl, _, _, _, hb1⟩
  have G2 : Hid (Below w.heap.size w w1) := bw_below (Nat.le_refl _) G1.out hb1
  have N2 := Lib.hid (N1.out.below hb1)
  clear hb1 X N1 G1
  obtain ⟨r0, r1, r2, r3⟩ := N2.out.two
  have lr := N2.out.lt
  have RR := (hb_set2 (n := .int .i64 C) (d := .int .i64 A) N2.out).alloc (.cells #[.int .i64 C, .int .i64 A] 32)
  have FF := bw_far G2.out (Nat.le_succ _) (far2 w1 (w.heap.size + 1) (.int .i64 C) (.int .i64 A))
  obtain ⟨y0, y1, _, _⟩ := RR.two
  go_wp2_with fail
  refine bodyPost_ret (v := .agg #[.int .i64 C, .int .i64 A]) (by simp [results, Tryz.results23, go_sem, y0, y1]) rfl ⟨rfl, Below.alloc FF FF.size _⟩
end Go.Proofs.YtaodebpogibimaaGreat
namespace Go.Proofs.YtaodebpogibimaaGreat
open Go.RowKit

theorem ak_L {qs : List Dc} {ns : List Nd} {hs : List Int} {c : Int} (h : akC qs ns hs = c) (hc : c ≠ 0) : akL qs ns hs = [] := by
  unfold akL; rw [h, if_neg hc]
theorem fs_many {code : Nat → Int} {n lim : Nat} (h : lim < n) : fsC code n lim = 2 ∧ fsA code n lim = 0 := by
  unfold fsC fsA; rw [if_pos h, if_pos h]; exact ⟨rfl, rfl⟩
theorem fs_at {code : Nat → Int} {n lim i : Nat} (h : n ≤ lim) (hi : i < n) (hp : ∀ j, j < i → code j = 0) (hc : code i ≠ 0) : fsC code n lim = code i ∧ fsA code n lim = i := by
  have e := fs_hit hi hp hc
  unfold fsC fsA; rw [e, if_neg (by omega), if_pos hi, if_neg (by omega), if_pos hi]; exact ⟨rfl, rfl⟩
theorem fs_ok {code : Nat → Int} {n lim : Nat} (h : n ≤ lim) (hp : ∀ j, j < n → code j = 0) : fsC code n lim = 0 ∧ fsA code n lim = 0 := by
  have e := fs_miss hp
  unfold fsC fsA; rw [e, if_neg (by omega), if_neg (by omega), if_neg (by omega), if_neg (by omega)]; exact ⟨rfl, rfl⟩
theorem ak1 {qs : List Dc} {ns : List Nd} {hs : List Int} {c a : Int} (h : fsC (dcC qs) qs.length 30 = c ∧ fsA (dcC qs) qs.length 30 = a) (hc : c ≠ 0) : akC qs ns hs = c ∧ akA qs ns hs = a ∧ akL qs ns hs = [] := by
  have e : akC qs ns hs = c := by unfold akC; rw [h.1, if_pos hc]
  exact ⟨e, by unfold akA; rw [h.1, if_pos hc, h.2], ak_L e hc⟩
theorem ak2 {qs : List Dc} {ns : List Nd} {hs : List Int} {c a : Int} (h0 : fsC (dcC qs) qs.length 30 = 0) (h : fsC (nC qs ns) ns.length 200 = c ∧ fsA (nC qs ns) ns.length 200 = a) (hc : c ≠ 0) : akC qs ns hs = c ∧ akA qs ns hs = a ∧ akL qs ns hs = [] := by
  have e : akC qs ns hs = c := by unfold akC; rw [h0, if_neg (by simp), h.1, if_pos hc]
  exact ⟨e, by unfold akA; rw [h0, if_neg (by simp), h.1, if_pos hc, h.2], ak_L e hc⟩
theorem ak3 {qs : List Dc} {ns : List Nd} {hs : List Int} {c a : Int} (h0 : fsC (dcC qs) qs.length 30 = 0) (h1 : fsC (nC qs ns) ns.length 200 = 0) (h : fsC (hC qs ns hs) hs.length 200 = c ∧ fsA (hC qs ns hs) hs.length 200 = a) (hc : c ≠ 0) : akC qs ns hs = c ∧ akA qs ns hs = a ∧ akL qs ns hs = [] := by
  have e : akC qs ns hs = c := by unfold akC; rw [h0, if_neg (by simp), h1, if_neg (by simp), h.1]
  exact ⟨e, by unfold akA; rw [h0, if_neg (by simp), h1, if_neg (by simp), h.2], ak_L e hc⟩
theorem ak4 {qs : List Dc} {ns : List Nd} {hs : List Int} (h0 : fsC (dcC qs) qs.length 30 = 0) (h1 : fsC (nC qs ns) ns.length 200 = 0) (h : fsC (hC qs ns hs) hs.length 200 = 0 ∧ fsA (hC qs ns hs) hs.length 200 = 0) : akC qs ns hs = 0 ∧ akA qs ns hs = 0 ∧ akL qs ns hs = srtL qs ns ns.length := by
  have e : akC qs ns hs = 0 := by unfold akC; rw [h0, if_neg (by simp), h1, if_neg (by simp), h.1]
  exact ⟨e, by unfold akA; rw [h0, if_neg (by simp), h1, if_neg (by simp), h.2], by unfold akL; rw [e, if_pos rfl]⟩
theorem nd_split {qs : List Dc} {q : Nd} {i : Nat} {sorts : List Int} (h1 : ¬ (q.op < 1 ∨ 25 < q.op)) (h2 : ¬ (q.op = 9 ∧ fdZ qs q.name < 0)) :
    ndC qs q i sorts = if kdC qs q i ≠ 0 then kdC qs q i else if flC q.op q.n q.d q.name.toList.isEmpty ≠ 0 then flC q.op q.n q.d q.name.toList.isEmpty else if ndT qs q sorts = 0 then 8 else 0 := by
  unfold ndC kdC
  rw [if_neg h1, if_neg h2]
  by_cases a : 8 < q.kids.length ∨ (kWant qs q ≠ -1 ∧ (q.kids.length : Int) ≠ kWant qs q)
  · rw [if_pos a, if_pos a]; rfl
  · rw [if_neg a, if_neg a]
    by_cases b : kIn i q.kids = false
    · rw [if_pos b, if_pos b]; rfl
    · rw [if_neg b, if_neg b]; rfl
theorem kd_zero {qs : List Dc} {q : Nd} {i : Nat} (h : kdC qs q i = 0) : q.kids.length ≤ 8 ∧ (q.op ≠ 9 → kcN q.op = -1 ∨ kcN q.op = q.kids.length) ∧ kIn i q.kids = true := by
  unfold kdC at h
  by_cases a : 8 < q.kids.length ∨ (kWant qs q ≠ -1 ∧ (q.kids.length : Int) ≠ kWant qs q)
  · rw [if_pos a] at h; cases h
  · rw [if_neg a] at h
    by_cases b : kIn i q.kids = false
    · rw [if_pos b] at h; cases h
    · refine ⟨by omega, fun h9 => ?_, by simpa using b⟩
      have e : kWant qs q = kcN q.op := by unfold kWant; rw [if_neg h9]
      rw [e] at a
      omega
end Go.Proofs.YtaodebpogibimaaGreat
namespace Go.Proofs.YtaodebpogibimaaGreat
open Go.RowKit

/-- What is wrong with the meaning of a name. -/
def mcF (qs : List Dc) (ms : List Mg) (i : Nat) : Int := mgC (dn qs i).args.length (dn qs i).sort (mn ms i)
/-- What is wrong with a world, and where. -/
def meC (qs : List Dc) (ns : List Nd) (hs : List Int) (ms : List Mg) : Int := if akC qs ns hs = 0 then (if ms.length = qs.length then fsC (mcF qs ms) qs.length qs.length else 9) else akC qs ns hs
def meA (qs : List Dc) (ns : List Nd) (hs : List Int) (ms : List Mg) : Int := if akC qs ns hs = 0 then (if ms.length = qs.length then fsA (mcF qs ms) qs.length qs.length else 0) else akA qs ns hs
theorem fs_a0 {code : Nat → Int} {n lim : Nat} (h : fsC code n lim = 0) : fsA code n lim = 0 ∧ n ≤ lim ∧ ∀ i, i < n → code i = 0 := by
  unfold fsC at h
  unfold fsA
  by_cases h1 : lim < n
  · rw [if_pos h1] at h
    exact absurd h (by decide)
  · rw [if_neg h1] at h ⊢
    by_cases h2 : fsI code n < n
    · rw [if_pos h2] at h
      exfalso
      have hl : fsI code n < (List.range n).length := by simpa using h2
      have := List.findIdx_getElem (w := hl)
      have e : (List.range n)[fsI code n] = fsI code n := List.getElem_range _
      have h9 : (code (List.range n)[fsI code n] != 0) = true := this
      rw [e, h] at h9
      simp at h9
    · rw [if_neg h2]
      refine ⟨rfl, by omega, fun i hi => ?_⟩
      have h3 : fsI code n = (List.range n).length := by
        have : fsI code n ≤ (List.range n).length := List.findIdx_le_length
        rw [List.length_range] at this ⊢
        omega
      have := List.findIdx_eq_length.1 h3 i (List.mem_range.2 hi)
      simpa using this
theorem ak_a0 {qs : List Dc} {ns : List Nd} {hs : List Int} (h : akC qs ns hs = 0) : akA qs ns hs = 0 ∧ (qs.length ≤ 30 ∧ ∀ i, i < qs.length → dcC qs i = 0) ∧ (ns.length ≤ 200 ∧ ∀ i, i < ns.length → nC qs ns i = 0) ∧ (hs.length ≤ 200 ∧ ∀ i, i < hs.length → hC qs ns hs i = 0) := by
  unfold akC at h
  unfold akA
  by_cases h1 : fsC (dcC qs) qs.length 30 = 0
  · rw [if_neg (by simpa using h1)] at h ⊢
    by_cases h2 : fsC (nC qs ns) ns.length 200 = 0
    · rw [if_neg (by simpa using h2)] at h ⊢
      exact ⟨(fs_a0 h).1, (fs_a0 h1).2, (fs_a0 h2).2, (fs_a0 h).2⟩
    · rw [if_pos (by simpa using h2)] at h
      exact absurd h h2
  · rw [if_pos (by simpa using h1)] at h
    exact absurd h h1
theorem dc_ok {qs : List Dc} {i : Nat} (h : dcC qs i = 0) : okSo (dn qs i).sort ∧ (dn qs i).args.length ≤ 8 ∧ ((dn qs i).sort = 5 → (dn qs i).args.length = 0) := by
  unfold dcC at h
  split at h
  · exact absurd h (by decide)
  · split at h
    · exact absurd h (by decide)
    · split at h
      · exact absurd h (by decide)
      · rename_i h8
        split at h
        · exact absurd h (by decide)
        · rename_i hk
          refine ⟨?_, by omega, fun z => ?_⟩
          · have : sSo (dn qs i).sort = true := by
              cases hs : sSo (dn qs i).sort with
              | true => rfl
              | false => exact absurd (.inl hs) hk
            unfold sSo sWd at this
            simp at this
            unfold okSo
            omega
          · rcases Nat.eq_zero_or_pos (dn qs i).args.length with y | y
            · exact y
            · exact absurd (.inr (.inr ⟨z, y⟩)) hk
/-- What there is in memory of an ask and a world. -/
structure AwAt (w : World) (qs : List Dc) (ns : List Nd) (hs : List Int) (ms : List Mg) (Ad An Ah Am : Option Addr) (dc nc hc mc : Nat) : Prop where
  d1 : qs.length ≤ dc
  d2 : dc ≤ maxLen
  n1 : ns.length ≤ nc
  n2 : nc ≤ maxLen
  h1 : hs.length ≤ maxLen
  h2 : True
  m1 : ms.length ≤ mc
  m2 : mc ≤ maxLen
  fd : DsAt w Ad qs
  fn : NsAt w An ns
  fh : Is w Ah hs
  fm : MsAt w Am ms
  wf : ∀ q ∈ ms, q.wf
theorem AwAt.below {w w' : World} {qs : List Dc} {ns : List Nd} {hs : List Int} {ms : List Mg} {Ad An Ah Am : Option Addr} {dc nc hc mc : Nat} (h : AwAt w qs ns hs ms Ad An Ah Am dc nc hc mc) (hb : Below w.heap.size w w') : AwAt w' qs ns hs ms Ad An Ah Am dc nc hc mc :=
  ⟨h.d1, h.d2, h.n1, h.n2, h.h1, h.h2, h.m1, h.m2, h.fd.below hb, h.fn.below hb, h.fh.below hb, h.fm.below hb, h.wf⟩
theorem ds_at' {w : World} {A : Option Addr} {qs : List Dc} {i : Nat} (h : DsAt w A qs) (hi : i < qs.length) :
    ∃ b o A' c, A = some ⟨b, o, none⟩ ∧ b < w.heap.size ∧ w.cell? ⟨b, o + i * 3, none⟩ = some (.string (dn qs i).name) ∧ w.cell? ⟨b, o + i * 3 + 1, none⟩ = some (.slice A' (dn qs i).args.length c) ∧
      w.cell? ⟨b, o + i * 3 + 2, none⟩ = some (.int .i64 (dn qs i).sort) ∧ (dn qs i).name.size ≤ maxLen ∧ (dn qs i).args.length ≤ c ∧ c ≤ maxLen ∧ Is w A' (dn qs i).args := by
  obtain ⟨b, o, e, l, k⟩ := h (by omega)
  obtain ⟨c0, c2, hs, A', c, c1, h1, h2, h3⟩ := k i _ (dn_of hi)
  exact ⟨b, o, A', c, e, l, c0, c1, c2, hs, h1, h2, h3⟩
set_option maxRecDepth 100000 in
set_option maxHeartbeats 8000000 in
theorem meancheck_any (qs : List Dc) (ns : List Nd) (hs : List Int) (ms : List Mg) (Ad An Ah Am : Option Addr) (dc nc hc mc : Nat) (w : World) (h : AwAt w qs ns hs ms Ad An Ah Am dc nc hc mc) :
    Calls Tryz.prog 10 #[.agg #[.slice Ad qs.length dc, .slice An ns.length nc, .slice Ah hs.length hc], .agg #[.slice Am ms.length mc]] w fun e w' => e = .returned (.agg #[.int .i64 (meC qs ns hs ms), .int .i64 (meA qs ns hs ms)]) ∧ Below w.heap.size w w' := by
  have HH := Lib.hid h
  have K1 := Lib.hid (fun W (hb : Below w.heap.size w W) => check_any qs ns hs Ad An Ah dc nc hc h.d1 h.d2 (Nat.le_trans h.n1 h.n2) h.h1 W (h.fd.below hb) (h.fn.below hb) (h.fh.below hb))
  have B0 : Hid (Below w.heap.size w (((w.alloc (.cells #[.slice Ad qs.length dc, .slice An ns.length nc, .slice Ah hs.length hc] 26)).alloc (.cells #[.slice Am ms.length mc] 29)).alloc (.cells #[.int .i64 0, .int .i64 0] 32))) := Lib.hid ((((Below.refl _ _).alloc (Nat.le_refl _) _).alloc (by simp) _).alloc (by simp; omega) _)
  have NA0 : Hid (HB (((w.alloc (.cells #[.slice Ad qs.length dc, .slice An ns.length nc, .slice Ah hs.length hc] 26)).alloc (.cells #[.slice Am ms.length mc] 29)).alloc (.cells #[.int .i64 0, .int .i64 0] 32)) w.heap.size 26 #[.slice Ad qs.length dc, .slice An ns.length nc, .slice Ah hs.length hc]) := Lib.hid (((HB.new _ _ _).alloc _).alloc _)
  have NW0 : Hid (HB (((w.alloc (.cells #[.slice Ad qs.length dc, .slice An ns.length nc, .slice Ah hs.length hc] 26)).alloc (.cells #[.slice Am ms.length mc] 29)).alloc (.cells #[.int .i64 0, .int .i64 0] 32)) (w.heap.size + 1) 29 #[.slice Am ms.length mc]) := Lib.hid ((HB.new1 _ _ _ _).alloc _)
  have NR0 : Hid (HB (((w.alloc (.cells #[.slice Ad qs.length dc, .slice An ns.length nc, .slice Ah hs.length hc] 26)).alloc (.cells #[.slice Am ms.length mc] 29)).alloc (.cells #[.int .i64 0, .int .i64 0] 32)) (w.heap.size + 1 + 1) 32 #[.int .i64 0, .int .i64 0]) := Lib.hid (HB.new2 _ _ _ _ _)
  have d2 := h.d2
  have m2 := h.m2
  have d1 := h.d1
  have m1 := h.m1
  unfold maxLen at d2 m2
  have HE : Hid (meC qs ns hs ms = (if akC qs ns hs = 0 then (if ms.length = qs.length then fsC (mcF qs ms) qs.length qs.length else 9) else akC qs ns hs) ∧ meA qs ns hs ms = (if akC qs ns hs = 0 then (if ms.length = qs.length then fsA (mcF qs ms) qs.length qs.length else 0) else akA qs ns hs)) := Lib.hid ⟨rfl, rfl⟩
  have HAK : Hid (akC qs ns hs = 0 → _) := Lib.hid (ak_a0 (qs := qs) (ns := ns) (hs := hs))
  clear h
  generalize meC qs ns hs ms = rC at *
  generalize meA qs ns hs ms = rA at *
  generalize hkC : akC qs ns hs = C at *
  generalize akA qs ns hs = A at *
  generalize ns.length = nl at *
  generalize hs.length = hl at *
  clear hkC
  by_cases hC : C = 0
  · subst hC
    obtain ⟨hA, ⟨hq30, hdc⟩, _, _⟩ := HAK.out rfl
    have HDC := Lib.hid hdc
    clear HAK hdc
    subst hA
    have HE2 : Hid (rC = (if ms.length = qs.length then fsC (mcF qs ms) qs.length qs.length else 9) ∧ rA = (if ms.length = qs.length then fsA (mcF qs ms) qs.length qs.length else 0)) := Lib.hid HE.out
    clear HE
    by_cases hm : ms.length = qs.length
    · have HR : Hid (rC = fsC (mcF qs ms) qs.length qs.length ∧ rA = fsA (mcF qs ms) qs.length qs.length) := Lib.hid (by
        have := HE2.out
        rw [if_pos hm, if_pos hm] at this
        exact this)
      have HM := Lib.hid hm
      have KD := Lib.hid (fun i (hi : i < qs.length) => dc_ok (HDC.out i hi))
      clear HE2 HDC
      rw [hm] at B0 NA0 NW0 NR0 m1 ⊢
      clear hm
      generalize hql : qs.length = ql at *
      have HQL := Lib.hid hql
      clear hql
      go_enter Tryz.func10, Tryz.ntmps10
      go_wp2_with fail
      refine (K1.out _ B0.out).mono ?_
      rintro e w1 ⟨rfl, hb1⟩
      have F1 := Lib.hid (new_below w1 (.cells #[.int .i64 0, .int .i64 0] 32))
      have B1 : Hid (Below w.heap.size w (w1.alloc (.cells #[.int .i64 0, .int .i64 0] 32))) := Lib.hid (below_after (below_after B0.out hb1) F1.out)
      have NA1 := Lib.hid ((NA0.out.below hb1).below F1.out)
      have NW1 := Lib.hid ((NW0.out.below hb1).below F1.out)
      have NR1 := Lib.hid ((NR0.out.below hb1).below F1.out)
      clear hb1 B0 NA0 NW0 NR0 K1 F1
      obtain ⟨a0, a1, a2, _⟩ := NA1.out.three
      obtain ⟨w0, _⟩ := NW1.out.one
      obtain ⟨r0, r1, r2, r3⟩ := NR1.out.two
      have la := NA1.out.lt
      have lw := NW1.out.lt
      have lr := NR1.out.lt
      go_wp2_with fail
      go_loopw [26] (fun k wr => ∃ i : Nat, i ≤ ql ∧ k = .int .i64 i ∧ Hid (∀ j, j < i → mcF qs ms j = 0) ∧ Hid (Below w.heap.size w wr) ∧ Hid (HB wr w.heap.size 26 #[.slice Ad ql dc, .slice An nl nc, .slice Ah hl hc]) ∧ Hid (HB wr (w.heap.size + 1) 29 #[.slice Am ql mc]) ∧ Hid (HB wr (w.heap.size + 1 + 1) 32 #[.int .i64 0, .int .i64 0])) (fun k _ => ql - (intOf k).toNat)
      case atStart => exact ⟨0, by omega, rfl, Lib.hid (fun j hj => absurd hj (by omega)), B1, NA1, NW1, NR1⟩
      case round =>
        clear a0 a1 a2 w0 r0 r1 r2 r3 la lw lr
        obtain ⟨i, hi, rfl, HP, HB1, HA1, HW1, HR1⟩ := hrel
        obtain ⟨w0, _⟩ := HW1.out.one
        obtain ⟨r0, r1, r2, r3⟩ := HR1.out.two
        have lw := HW1.out.lt
        have lr := HR1.out.lt
        by_cases hlt : i < ql
        · have t3 : decide ((i : Int) < ql) = true := by simpa using hlt
          have HAW := Lib.hid (HH.out.below (HB1.out.mono (Nat.le_refl _)))
          obtain ⟨b1, o1, Ag, gc, rfl, lb1, c0, c1, c2, _, hg1, hg2, hg3⟩ := ds_at' (i := i) HAW.out.fd (by rw [HQL.out]; exact hlt)
          obtain ⟨b2, o2, rfl, lb2, ⟨⟨Ar, rc, e0, hr1, hr2, hr3⟩, e1, e2, e4, Ac, cc, e3, hc1, hc2, hc3⟩⟩ := ms_at (i := i) HAW.out.fm (by rw [HM.out]; exact hlt)
          have KW := Lib.hid (fun W (hb : Below wr.heap.size wr W) => wrongmeaning_any (dn qs i).name (dn qs i).args Ag Ar Ac gc rc cc (dn qs i).sort (mn ms i) (KD.out i hlt).1 hg1 hg2 (KD.out i hlt).2.1 hr1 hr2 hc1 hc2 (HAW.out.wf _ (by simp [mn, List.getD, HM.out, hlt])) W (hr3.below hb) (hc3.below hb))
          have HF : Hid (mcF qs ms i = mgC (dn qs i).args.length (dn qs i).sort (mn ms i)) := Lib.hid rfl
          clear hg3 hr3 hc3
          generalize mgC (dn qs i).args.length (dn qs i).sort (mn ms i) = C9 at *
          generalize (dn qs i).args.length = al at *
          generalize (dn qs i).name = nm at *
          generalize (dn qs i).sort = so at *
          generalize (mn ms i).rows.length = rl at *
          generalize (mn ms i).rest.cells.length = cl at *
          generalize (mn ms i).rest.num = vn at *
          generalize (mn ms i).rest.den = vd at *
          generalize (mn ms i).rest.rest = vr at *
          go_wp2_with fail
          have NB2 := Lib.hid (new_below wr (.cells #[.string nm, .slice Ag al gc, .int .i64 so] 52))
          have XW : Hid (Calls Tryz.prog 24 #[.agg #[.string nm, .slice Ag al gc, .int .i64 so], .agg #[.slice Ar rl rc, .int .i64 vn, .int .i64 vd, .slice Ac cl cc, .int .i64 vr]] (wr.alloc (.cells #[.string nm, .slice Ag al gc, .int .i64 so] 52)).drew fun e w' => e = .returned (.int .i64 C9) ∧ Below wr.heap.size wr w') := Lib.hid ((KW.out _ NB2.out.drew).mono fun e w' ⟨h1, h2⟩ => ⟨h1, NB2.out.drew.trans (h2.mono (by show _ ≤ ((wr.alloc _).drew).heap.size; simp [World.drew]))⟩)
          go_region_with (go_at_call 24; (with_reducible refine XW.out.mono ?_); rintro e w2 ⟨rfl, hb2⟩; have G2 : Hid (Below w.heap.size w w2) := bw_below (Nat.le_refl _) HB1.out hb2; have A2 := Lib.hid (HA1.out.below hb2); have W2 := Lib.hid (HW1.out.below hb2); have R2 := Lib.hid (HR1.out.below hb2); clear hb2)
          all_goals
            clear w0 r0 r1 r2 r3 lw lr
            by_cases h9 : C9 = 0
            · subst h9
              go_wp2_with fail
              go_round
              case rel => exact ⟨i + 1, by omega, by go_num, Lib.hid (fun j hj => by
                rcases Nat.lt_or_ge j i with z | z
                · exact HP.out j z
                · obtain rfl : j = i := by omega
                  exact HF.out), G2, A2, W2, R2⟩
              case measure => simp [intOf]; omega
            · have t9 : (C9 != 0) = true := by simpa using h9
              have HZ := Lib.hid (fs_at (code := mcF qs ms) (lim := ql) (Nat.le_refl _) hlt HP.out (by rw [HF.out]; exact h9))
              clear h9
              obtain ⟨r0, r1, r2, r3⟩ := R2.out.two
              have lr := R2.out.lt
              have RR := (hb_set2 (n := .int .i64 C9) (d := .int .i64 i) R2.out)
              have FF := bw_far G2.out (by omega) (far2 w2 (w.heap.size + 1 + 1) (.int .i64 C9) (.int .i64 i))
              obtain ⟨y0, y1, _, _⟩ := RR.two
              go_wp2_with fail
              refine bodyPost_ret (v := .agg #[.int .i64 C9, .int .i64 i]) (by simp [results, Tryz.results10, go_sem, y0, y1]) rfl ⟨by rw [HR.out.1, HR.out.2, HZ.out.1, HZ.out.2, HF.out], FF⟩
        · obtain rfl : i = ql := by omega
          have t3 : decide ((i : Int) < i) = false := by simp
          have HZ := Lib.hid (fs_ok (code := mcF qs ms) (lim := i) (Nat.le_refl _) HP.out)
          have RR := (hb_set2 (n := .int .i64 0) (d := .int .i64 0) HR1.out)
          have FF := bw_far HB1.out (by omega) (far2 wr (w.heap.size + 1 + 1) (.int .i64 0) (.int .i64 0))
          obtain ⟨y0, y1, _, _⟩ := RR.two
          go_wp2_with fail
          refine bodyPost_ret (v := .agg #[.int .i64 0, .int .i64 0]) (by simp [results, Tryz.results10, go_sem, y0, y1]) rfl ⟨by rw [HR.out.1, HR.out.2, HZ.out.1, HZ.out.2], FF⟩
    · have HR : Hid (rC = 9 ∧ rA = 0) := Lib.hid (by
        have := HE2.out
        rw [if_neg hm, if_neg hm] at this
        exact this)
      have t9 : ((ms.length : Int) != qs.length) = true := by simp; omega
      clear HE2 HDC hm
      generalize qs.length = ql at *
      generalize ms.length = ml at *
      go_enter Tryz.func10, Tryz.ntmps10
      go_wp2_with fail
      refine (K1.out _ B0.out).mono ?_
      rintro e w1 ⟨rfl, hb1⟩
      have F1 := Lib.hid (new_below w1 (.cells #[.int .i64 0, .int .i64 0] 32))
      have B1 : Hid (Below w.heap.size w (w1.alloc (.cells #[.int .i64 0, .int .i64 0] 32))) := Lib.hid (below_after (below_after B0.out hb1) F1.out)
      have NA1 := Lib.hid ((NA0.out.below hb1).below F1.out)
      have NW1 := Lib.hid ((NW0.out.below hb1).below F1.out)
      have NR1 := Lib.hid ((NR0.out.below hb1).below F1.out)
      clear hb1 B0 NA0 NW0 NR0 K1 F1
      obtain ⟨a0, a1, a2, _⟩ := NA1.out.three
      obtain ⟨w0, _⟩ := NW1.out.one
      obtain ⟨r0, r1, r2, r3⟩ := NR1.out.two
      have la := NA1.out.lt
      have lw := NW1.out.lt
      have lr := NR1.out.lt
      have RR := hb_set2 (n := .int .i64 9) (d := .int .i64 0) NR1.out
      have FF := bw_far B1.out (by omega) (far2 _ (w.heap.size + 1 + 1) (.int .i64 9) (.int .i64 0))
      obtain ⟨y0, y1, _, _⟩ := RR.two
      go_wp2_with fail
      refine bodyPost_ret (v := .agg #[.int .i64 9, .int .i64 0]) (by simp [results, Tryz.results10, go_sem, y0, y1]) rfl ⟨by rw [HR.out.1, HR.out.2], FF⟩
  · have tC : (C == 0) = false := by simpa using hC
    have HR : Hid (rC = C ∧ rA = A) := Lib.hid (by
      have := HE.out
      rw [if_neg hC, if_neg hC] at this
      exact this)
    clear HE HAK hC
    generalize qs.length = ql at *
    generalize ms.length = ml at *
    go_enter Tryz.func10, Tryz.ntmps10
    go_wp2_with fail
    refine (K1.out _ B0.out).mono ?_
    rintro e w1 ⟨rfl, hb1⟩
    have B1 : Hid (Below w.heap.size w (w1.alloc (.cells #[.int .i64 C, .int .i64 A] 32))) := Lib.hid (below_after (below_after B0.out hb1) (new_below _ _))
    have NR1 := Lib.hid ((NR0.out.below hb1).alloc (.cells #[.int .i64 C, .int .i64 A] 32))
    clear hb1 B0 NA0 NW0 NR0 K1
    obtain ⟨r0, r1, r2, r3⟩ := NR1.out.two
    have lr := NR1.out.lt
    have RR := hb_set2 (n := .int .i64 C) (d := .int .i64 A) NR1.out
    have FF := bw_far B1.out (by omega) (far2 _ (w.heap.size + 1 + 1) (.int .i64 C) (.int .i64 A))
    obtain ⟨y0, y1, _, _⟩ := RR.two
    go_wp2_with fail
    refine bodyPost_ret (v := .agg #[.int .i64 C, .int .i64 A]) (by simp [results, Tryz.results10, go_sem, y0, y1]) rfl ⟨by rw [HR.out.1, HR.out.2], FF⟩
end Go.Proofs.YtaodebpogibimaaGreat
namespace Go.Proofs.YtaodebpogibimaaGreat
open Go.RowKit

theorem decl1_any_v (n s : ByteArray) (A' : Option Addr) (k c' : Nat) (t : Int) (g : Nat) (w : World) (hg : HB w g 9 #[.string s]) :
    Calls Tryz.prog 14 #[.agg #[.string n, .slice A' k c', .int .i64 t], .pointer (some ⟨g, 0, none⟩)] w fun e w' => e = .returned (.bool (n.toList == s.toList)) ∧ Below w.heap.size w w' := by
  obtain ⟨h0, h1⟩ := (hg.alloc (.cells #[.string n, .slice A' k c', .int .i64 t] 52)).one
  clear hg
  go_enter Tryz.func14, Tryz.ntmps14
  go_wp2
  go_ret
  exact ⟨rfl, new_below _ _⟩
set_option maxHeartbeats 1000000 in
theorem indexv_any (qs : List Dc) (A : Option Addr) (c : Nat) (s : ByteArray) (g : Nat) (hl : qs.length ≤ maxLen) (w : World) (h : DsAt w A qs) (hg : HB w g 9 #[.string s]) :
    Calls Tryz.prog 13 #[.slice A qs.length c, .func (.func 14) #[] #[.pointer (some ⟨g, 0, none⟩)]] w fun e w' => e = .returned (.int .i64 (fdZ qs s)) ∧ Below w.heap.size w w' := by
  have HA := Lib.hid h
  have HG := Lib.hid hg
  unfold maxLen at hl
  generalize hL : qs.length = L at *
  have HL := Lib.hid hL
  clear h hL hg
  go_enter Tryz.func13, Tryz.ntmps13
  go_wp2_with fail
  go_loopw [5, 8] (fun _ k wr => ∃ i : Nat, i ≤ L ∧ k = .int .i64 i ∧ Hid (∀ j, j < i → ((dn qs j).name.toList == s.toList) = false) ∧ Hid (Below w.heap.size w wr)) (fun _ k _ => L - (intOf k).toNat)
  case atStart => exact ⟨0, by omega, rfl, fun j hj => absurd hj (by omega), Below.refl _ _⟩
  case round =>
    obtain ⟨i, hi, rfl, HP, HB⟩ := hrel
    by_cases hlt : i < L
    · obtain ⟨b, o, A', c', rfl, hb, c0, c1, c2, _⟩ := ds_at (i := i) (HA.out.below HB.out) (by rw [HL.out]; exact hlt)
      have t3 : decide ((i : Int) < L) = true := by simpa using hlt
      cases d : (dn qs i).name.toList == s.toList with
      | true =>
        have HD := Lib.hid d
        have HE := Lib.hid (fdz_hit (by rw [HL.out]; exact hlt) HP.out d)
        clear d
        go_wp2_with fail
        refine (decl1_any_v (dn qs i).name s A' (dn qs i).args.length c' (dn qs i).sort g _ (HG.out.below HB.out)).mono ?_
        rintro e w1 ⟨rfl, hb1⟩
        have G1 : Hid (Below w.heap.size w w1) := bw_below (Nat.le_refl _) HB.out hb1
        clear hb1
        rw [HD.out]
        go_wp2_with fail
        go_ret
        rw [HE.out]
        exact ⟨rfl, G1.out⟩
      | false =>
        have HD := Lib.hid d
        clear d
        go_wp2_with fail
        refine (decl1_any_v (dn qs i).name s A' (dn qs i).args.length c' (dn qs i).sort g _ (HG.out.below HB.out)).mono ?_
        rintro e w1 ⟨rfl, hb1⟩
        have G1 : Hid (Below w.heap.size w w1) := bw_below (Nat.le_refl _) HB.out hb1
        clear hb1
        rw [HD.out]
        go_wp2_with fail
        go_round
        case rel => exact ⟨i + 1, by omega, by go_num, fun j hj => by
          rcases Nat.lt_or_ge j i with z | z
          · exact HP.out j z
          · obtain rfl : j = i := by omega
            exact HD.out, G1.out⟩
        case measure => simp [intOf]; omega
    · obtain rfl : i = L := by omega
      have t3 : decide ((i : Int) < i) = false := by simp
      have HE := Lib.hid (fdz_miss (qs := qs) (s := s) (fun j hj => HP.out j (by rw [HL.out] at hj; exact hj)))
      clear hlt
      go_wp2_with fail
      go_ret
      rw [HE.out]
      exact ⟨rfl, HB.out⟩
/-- A meaning's five cells. -/
@[reducible] def ClsE (gw ga b o : Nat) (sw sa x0 x1 x2 x3 x4 : Value) (W : World) : Prop := W.cell? ⟨gw, 0, none⟩ = some sw ∧ W.cell? ⟨ga, 0, none⟩ = some sa ∧ W.cell? ⟨b, o, none⟩ = some x0 ∧ W.cell? ⟨b, o + 1, none⟩ = some x1 ∧ W.cell? ⟨b, o + (1 + 1), none⟩ = some x2 ∧ W.cell? ⟨b, o + (1 + 2), none⟩ = some x3 ∧ W.cell? ⟨b, o + (1 + 3), none⟩ = some x4
theorem far5 (w : World) (g : Nat) (v1 v2 v3 v4 v5 : Value) : Far g w (((((w.setCell ⟨g, 0, none⟩ v1).setCell ⟨g, 1, none⟩ v2).setCell ⟨g, 2, none⟩ v3).setCell ⟨g, 3, none⟩ v4).setCell ⟨g, 4, none⟩ v5) := (far4 w g v1 v2 v3 v4).trans (far_set _ g 4 v5)
theorem hb_set5 {w : World} {g t : Nat} {x0 x1 x2 x3 x4 n d e f h5 : Value} (h : HB w g t #[x0, x1, x2, x3, x4]) : HB (((((w.setCell ⟨g, 0, none⟩ n).setCell ⟨g, 1, none⟩ d).setCell ⟨g, 2, none⟩ e).setCell ⟨g, 3, none⟩ f).setCell ⟨g, 4, none⟩ h5) g t #[n, d, e, f, h5] := by
  have := ((((h.set_ 0 n).set_ 1 d).set_ 2 e).set_ 3 f).set_ 4 h5
  simpa using this
theorem hb_ff {w : World} {g t : Nat} {x0 x1 x2 x3 x4 : Value} (h : HB w g t #[x0, x1, x2, x3, x4]) : (w.cell? ⟨g, 0, none⟩ = some x0 ∧ w.cell? ⟨g, 1, none⟩ = some x1 ∧ w.cell? ⟨g, 2, none⟩ = some x2 ∧ w.cell? ⟨g, 3, none⟩ = some x3 ∧ w.cell? ⟨g, 4, none⟩ = some x4) ∧
    w.frozen? ⟨g, 0, none⟩ = false ∧ w.frozen? ⟨g, 1, none⟩ = false ∧ w.frozen? ⟨g, 2, none⟩ = false ∧ w.frozen? ⟨g, 3, none⟩ = false ∧ w.frozen? ⟨g, 4, none⟩ = false :=
  ⟨h.five, h.frozen 0, h.frozen 1, h.frozen 2, h.frozen 3, h.frozen 4⟩
theorem clse_dr {gw ga b o : Nat} {sw sa x0 x1 x2 x3 x4 : Value} {W : World} (k : ClsE gw ga b o sw sa x0 x1 x2 x3 x4 W) : ClsE gw ga b o sw sa x0 x1 x2 x3 x4 W.drew := k
theorem clse_set {gw ga b o h : Nat} {sw sa x0 x1 x2 x3 x4 : Value} {W : World} (k : ClsE gw ga b o sw sa x0 x1 x2 x3 x4 W) (h1 : gw ≠ h) (h2 : ga ≠ h) (h3 : b ≠ h) (v1 v2 v3 v4 v5 : Value) : ClsE gw ga b o sw sa x0 x1 x2 x3 x4 (((((W.setCell ⟨h, 0, none⟩ v1).setCell ⟨h, 1, none⟩ v2).setCell ⟨h, 2, none⟩ v3).setCell ⟨h, 3, none⟩ v4).setCell ⟨h, 4, none⟩ v5) := by
  have F := far5 W h v1 v2 v3 v4 v5
  exact ⟨(World.cell?_of_block (F.block _ h1)).trans k.1, (World.cell?_of_block (F.block _ h2)).trans k.2.1, (World.cell?_of_block (F.block _ h3)).trans k.2.2.1, (World.cell?_of_block (F.block _ h3)).trans k.2.2.2.1, (World.cell?_of_block (F.block _ h3)).trans k.2.2.2.2.1, (World.cell?_of_block (F.block _ h3)).trans k.2.2.2.2.2.1, (World.cell?_of_block (F.block _ h3)).trans k.2.2.2.2.2.2⟩
set_option maxRecDepth 100000 in
set_option maxHeartbeats 4000000 in
theorem clos_any (qs : List Dc) (ms : List Mg) (nm : ByteArray) (Ad Am An Ah : Option Addr) (dc mc nl nc hl hc gw ga i : Nat) (hq : qs.length ≤ maxLen) (_hm : ms.length ≤ maxLen) (hi : fdZ qs nm = i) (him : i < ms.length) (w : World) (hd : DsAt w Ad qs) (hms : MsAt w Am ms)
    (hgw : HB w gw 29 #[.slice Am ms.length mc]) (hga : HB w ga 26 #[.slice Ad qs.length dc, .slice An nl nc, .slice Ah hl hc]) :
    ∃ Ar cr Ac cc, EsAt w Ar (mn ms i).rows ∧ CsAt w Ac (mn ms i).rest.cells ∧ (mn ms i).rows.length ≤ maxLen ∧ ∀ W, Below w.heap.size w W → Calls Tryz.prog 12 #[.string nm, .pointer (some ⟨gw, 0, none⟩), .pointer (some ⟨ga, 0, none⟩)] W fun e w' => e = .returned (.agg #[.slice Ar (mn ms i).rows.length cr, .int .i64 (mn ms i).rest.num, .int .i64 (mn ms i).rest.den, .slice Ac (mn ms i).rest.cells.length cc, .int .i64 (mn ms i).rest.rest]) ∧ Below W.heap.size W w' := by
  obtain ⟨b, o, rfl, hb, ⟨Ar, cr, x0, hr1, hr2, hes⟩, x1, x2, x4, Ac, cc, x3, hc1, hc2, hcs⟩ := ms_at hms him
  refine ⟨Ar, cr, Ac, cc, hes, hcs, Nat.le_trans hr1 hr2, fun W k => ?_⟩
  have XI := Lib.hid (fun (X : World) (g : Nat) (kx : Below w.heap.size w X) (hg : HB X g 9 #[.string nm]) => indexv_any qs Ad dc nm g hq X (hd.below kx) hg)
  rw [hi] at XI
  have KE : Hid (∀ X, Below w.heap.size w X → ClsE gw ga b (o + i * 5) (.slice (some ⟨b, o, none⟩) ms.length mc) (.slice Ad qs.length dc) (.slice Ar (mn ms i).rows.length cr) (.int .i64 (mn ms i).rest.num) (.int .i64 (mn ms i).rest.den) (.slice Ac (mn ms i).rest.cells.length cc) (.int .i64 (mn ms i).rest.rest) X) := Lib.hid (fun X kx =>
    ⟨(kx.cell (p := ⟨gw, 0, none⟩) hgw.lt).trans (hgw.cell 0), (kx.cell (p := ⟨ga, 0, none⟩) hga.lt).trans (hga.cell 0), (kx.cell (p := ⟨b, o + i * 5, none⟩) hb).trans x0, (kx.cell (p := ⟨b, o + i * 5 + 1, none⟩) hb).trans x1, (kx.cell (p := ⟨b, o + i * 5 + (1 + 1), none⟩) hb).trans x2, (kx.cell (p := ⟨b, o + i * 5 + (1 + 2), none⟩) hb).trans x3, (kx.cell (p := ⟨b, o + i * 5 + (1 + 3), none⟩) hb).trans x4⟩)
  have li : (i : Int) < ms.length := by omega
  have li' : i < ms.length := him
  have KW := Lib.hid k
  have HS := Lib.hid (HB.new W 9 #[.string nm])
  have HR := Lib.hid (HB.new1 W (.cells #[.string nm] 9) 49 #[.slice none 0 0, .int .i64 0, .int .i64 0, .slice none 0 0, .int .i64 0])
  unfold maxLen at _hm hq
  generalize (mn ms i).rows.length = rl at *
  generalize (mn ms i).rest.num = vn at *
  generalize (mn ms i).rest.den = vd at *
  generalize (mn ms i).rest.cells.length = vl at *
  generalize (mn ms i).rest.rest = vr at *
  generalize ms.length = ml at *
  generalize qs.length = ql at *
  have NE : gw ≠ W.heap.size + 1 ∧ ga ≠ W.heap.size + 1 ∧ b ≠ W.heap.size + 1 := by
    have a1 := hgw.lt
    have a2 := hga.lt
    have a3 := k.size
    omega
  clear hd hms hgw hga hes hcs x0 x1 x2 x3 x4 hr1 hr2 hc1 hc2 k
  have BX : Hid (Below w.heap.size w ((W.alloc (.cells #[.string nm] 9)).alloc (.cells #[.slice none 0 0, .int .i64 0, .int .i64 0, .slice none 0 0, .int .i64 0] 49))) := Lib.hid (bw_below (Nat.le_refl _) (bw_below (Nat.le_refl _) KW.out (new_below _ _)) (new_below _ _))
  have BW2 : Hid (Below W.heap.size W ((W.alloc (.cells #[.string nm] 9)).alloc (.cells #[.slice none 0 0, .int .i64 0, .int .i64 0, .slice none 0 0, .int .i64 0] 49))) := Lib.hid (bw_below (Nat.le_refl _) (new_below _ _) (new_below _ _))
  have HS2 := Lib.hid (HS.out.alloc (.cells #[.slice none 0 0, .int .i64 0, .int .i64 0, .slice none 0 0, .int .i64 0] 49))
  go_enter Tryz.func12, Tryz.ntmps12
  go_upto_region 1 with fail
  generalize hX : (W.alloc (.cells #[.string nm] 9)).alloc (.cells #[.slice none 0 0, .int .i64 0, .int .i64 0, .slice none 0 0, .int .i64 0] 49) = X at *
  go_region_held3 (fun X => ClsE gw ga b (o + i * 5) (.slice (some ⟨b, o, none⟩) ml mc) (.slice Ad ql dc) (.slice Ar rl cr) (.int .i64 vn) (.int .i64 vd) (.slice Ac vl cc) (.int .i64 vr) X)
    ((first | (with_reducible exact KE.out _ G2.out) | (with_reducible exact KE.out _ BX.out) | (with_reducible exact KE.out _ BX.out.drew) | (with_reducible exact clse_dr (KE.out _ G2.out)) | (with_reducible exact clse_set (KE.out _ G2.out) NE.1 NE.2.1 NE.2.2 _ _ _ _ _) | (with_reducible exact clse_dr (clse_set (KE.out _ G2.out) NE.1 NE.2.1 NE.2.2 _ _ _ _ _))))
    (first
      | (go_at_call 13; refine (XI.out _ (W.heap.size) (by first | exact BX.out | exact BX.out.drew) (by first | exact HS2.out | exact HS2.out.drew)).mono ?_; rintro e w2 ⟨rfl, hb3⟩; have hb2 : Below X.heap.size X w2 := (by first | exact hb3 | exact ((Below.refl X.heap.size X).drew).trans hb3); have G2 : Hid (Below w.heap.size w w2) := Lib.hid (bw_below (Nat.le_refl _) BX.out hb2); have R2 : Hid (HB w2 (W.heap.size + 1) 49 #[.slice none 0 0, .int .i64 0, .int .i64 0, .slice none 0 0, .int .i64 0]) := Lib.hid (HR.out.below hb2); have B2 : Hid (Below W.heap.size W w2) := Lib.hid (bw_below (Nat.le_refl _) BW2.out hb2); obtain ⟨⟨r0, r1, r2, r3, r4⟩, s0, s1, s2, s3, s4⟩ := hb_ff R2.out; clear hb2 hb3))
  all_goals
    have Z5 := hb_set5 (n := .slice Ar rl cr) (d := .int .i64 vn) (e := .int .i64 vd) (f := .slice Ac vl cc) (h5 := .int .i64 vr) R2.out
    obtain ⟨⟨z0, z1, z2, z3, z4⟩, -⟩ := hb_ff Z5
    have BZ := bw_far B2.out (Nat.le_succ _) (far5 w2 (W.heap.size + 1) (.slice Ar rl cr) (.int .i64 vn) (.int .i64 vd) (.slice Ac vl cc) (.int .i64 vr))
    clear r0 r1 r2 r3 r4 s0 s1 s2 s3 s4 Z5
    go_wp2_with fail
    exact bodyPost_ret (v := .agg #[.slice Ar rl cr, .int .i64 vn, .int .i64 vd, .slice Ac vl cc, .int .i64 vr]) (by simp [results, Tryz.results12, go_sem, z0, z1, z2, z3, z4]) rfl ⟨rfl, BZ⟩
end Go.Proofs.YtaodebpogibimaaGreat
