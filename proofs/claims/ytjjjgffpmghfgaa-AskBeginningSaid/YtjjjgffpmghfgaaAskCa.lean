/-
  Asks that are made of raw numbers: numbers picked, what the maker has in memory.
-/
import Derived.Test.YtjjjgffpmghfgaaAskU
namespace Go.Proofs.Ytjjjgffpmghfgaa
open Go.RowKit

theorem tmod_bd (a n : Int) (h : 0 < n) : -n < a.tmod n ∧ a.tmod n < n := by
  have h1 := Int.tmod_lt_of_pos a h
  have h2 := Int.tmod_lt_of_pos (-a) h
  rw [Int.neg_tmod] at h2
  omega
theorem pick_eq (a n : Int) (h : 0 < n) : a % n = if a.tmod n < 0 then a.tmod n + n else a.tmod n := by
  obtain ⟨h1, h2⟩ := tmod_bd a n h
  have e : a % n = (a.tmod n) % n := by
    have q : a % n = (a.tmod n + n * a.tdiv n) % n := by rw [Int.tmod_add_mul_tdiv]
    rw [Int.add_mul_emod_self_left] at q
    exact q
  rw [e]
  split
  · rw [← Int.add_emod_right, Int.emod_eq_of_lt (by omega) (by omega)]
  · rw [Int.emod_eq_of_lt (by omega) (by omega)]
set_option maxHeartbeats 1000000 in
theorem picked_any (a : Int) (n : Nat) (h1 : 1 ≤ n) (h2 : n ≤ 1000) (w : World) : Calls Try.prog 9 #[.int .i64 a, .int .i64 n] w fun e w' => e = .returned (.int .i64 (a % n)) ∧ w' = w := by
  have hne : (n : Int) ≠ 0 := by omega
  have HP := Lib.hid (pick_eq a n (by omega))
  obtain ⟨b1, b2⟩ := tmod_bd a n (by omega)
  have hw : wrap64 (a.tmod n + n) = a.tmod n + n ∨ 0 ≤ a.tmod n := by
    by_cases z : a.tmod n < 0
    · left; unfold wrap64; omega
    · right; omega
  go_enter Try.func9, Try.ntmps9
  go_wp2_with fail
  all_goals
    go_ret
    refine ⟨?_, rfl⟩
    rw [HP.out]
    first | rw [if_pos (by assumption)] | rw [if_neg (by omega)]
    first | rfl | (rcases hw with z | z; rw [← z]; rfl; omega)
section
variable {P : Program} {w : World} {ops : Array Oper} {rest : List Oper} {o : Oper} {a : Act} {K : Act → World → Prop} {Q : Exit → Act → World → Prop} {E : Prop}
/-- An append of one element at a step of a region that draws its order: the row's block is the old one, or new. -/
theorem step_app2 (t e : TypeId) (hut : P.underlying t = some (.slice e)) (z : Value) (sz by_ : Nat) (hinfo : (P.info? e).map (fun i => (i.zero, i.size, i.bytes)) = some (some z, sz, by_)) (hzs : z.cells.size = sz) (hsz : 0 < sz)
    (hgd : o.guard = none) (s x : Operand) (ho : o.op = .call { callee := .builtin .append, args := #[s, x], argTypes := #[t, t] })
    (base : Nat) (v : Value) (n : Nat) (xs : List Value) (hs : a.eval s = v) (hown : w.ownsRow base e sz v n xs) (gb : Nat) (news : Array Value) (hx : a.eval x = .slice (some ⟨gb, 0, none⟩) 1 1) (hnews : HB w gb e news) (hl : news.size = sz) (h1 : ∀ u ∈ news.toList, u.oneCell' = true)
    (hn : (n + 1) * by_ ≤ 140737488355328) (hn2 : n + 1 ≤ maxLen) (hbase : base ≤ w.heap.size)
    (h : ∀ g cap w', Hid (w'.ownsRow base e sz (.slice (some ⟨g, 0, none⟩) (n + 1) cap) (n + 1) (xs ++ news.toList)) → (∀ g t cs, some g ≠ v.ownBlock → HB w g t cs → HB w' g t cs) → (∀ W, Below base W w → Below base W w') → Hid (v.ownBlock = some g ∨ g = w.heap.size) → K (a.put o.dst (.slice (some ⟨g, 0, none⟩) (n + 1) cap)) w') :
    if Region.wanted o (yielded ops a.tmps) = true then Oper.wp P o a w K Q else E := by
  obtain ⟨i0, hi0, hz0, hz1, hz2⟩ := info_parts hinfo
  refine step_append_lies w hgd s x t ho base e i0 z sz by_ hut hi0 hz0 hz1 hz2 hzs hsz v n xs hs hown ⟨gb, 0, none⟩ 1 1 news.toList hx (by simp [hl]) (World.news_of_block (cs := news) hnews) h1 (by omega) hn2 hn hbase _ rfl ?_
  intro g cap w' hown' hg hf _
  exact h g cap w' (Lib.hid hown') (fun g' t cs hne hb => hb.grown hg hne) (fun W hW => bw_grown hbase hW hown hg) hf
end
theorem at_any (xs : List Int) (A : Option Addr) (c i : Nat) (_hl : xs.length ≤ maxLen) (w : World) (h : Is w A xs) :
    Calls Try.prog 19 #[.slice A xs.length c, .int .i64 i] w fun e w' => e = .returned (.int .i64 (nth xs i)) ∧ w' = w := by
  by_cases hlt : i < xs.length
  · obtain ⟨b, o, rfl, _, c0⟩ := is_at h hlt
    have t3 : decide ((i : Int) < xs.length) = true := by simpa using hlt
    unfold maxLen at _hl
    generalize xs.length = L at *
    generalize nth xs i = x at *
    clear h
    go_enter Try.func19, Try.ntmps19
    go_wp2_with fail
    go_ret
    exact ⟨rfl, rfl⟩
  · have t3 : decide ((i : Int) < xs.length) = false := by simp; omega
    have HX := Lib.hid (nth_past (xs := xs) (i := i) (by omega))
    unfold maxLen at _hl
    generalize xs.length = L at *
    generalize nth xs i = x at *
    clear h
    go_enter Try.func19, Try.ntmps19
    go_wp2_with fail
    go_ret
    exact ⟨by rw [HX.out]; rfl, rfl⟩
/-- The maker's blocks. -/
def Mb (g : Nat) (nv sv : Value) (b : Nat) : Prop := b = g ∨ some b = nv.ownBlock ∨ some b = sv.ownBlock
/-- Nothing but some blocks from a number on has changed. -/
def Mv (base : Nat) (X : Nat → Prop) (w : World) (X' : Nat → Prop) (w' : World) : Prop :=
  Below base w w' ∧ w.heap.size ≤ w'.heap.size ∧ ∀ b t cs, ¬ X b → HB w b t cs → HB w' b t cs ∧ ¬ X' b
theorem Mv.trans {base : Nat} {X X' X'' : Nat → Prop} {w w' w'' : World} (h : Mv base X w X' w') (k : Mv base X' w' X'' w'') : Mv base X w X'' w'' :=
  ⟨h.1.trans k.1, Nat.le_trans h.2.1 k.2.1, fun b t cs h1 h2 => k.2.2 b t cs (h.2.2 b t cs h1 h2).2 (h.2.2 b t cs h1 h2).1⟩
theorem mv_refl (base : Nat) (X : Nat → Prop) (w : World) : Mv base X w X w := ⟨Below.refl _ _, Nat.le_refl _, fun _ _ _ h1 h2 => ⟨h2, h1⟩⟩
theorem mv_below {base : Nat} {X : Nat → Prop} {w w' : World} (hb : base ≤ w.heap.size) (h : Below w.heap.size w w') : Mv base X w X w' :=
  ⟨h.mono hb, h.size, fun _ _ _ h1 h2 => ⟨h2.below h, h1⟩⟩
/-- Kids of a node in memory, apart from some blocks. -/
def Kat (w : World) (X : Nat → Prop) (v : Value) (ks : List Int) : Prop :=
  ∃ A c, v = .slice A ks.length c ∧ ks.length ≤ c ∧ c ≤ maxLen ∧ (0 < ks.length → ∃ b o cs, A = some ⟨b, o, none⟩ ∧ HB w b 3 cs ∧ ¬ X b ∧ ∀ k, k < ks.length → cs[o + k]? = some (.int .i64 (nth ks k)))
theorem Kat.mv {base : Nat} {X X' : Nat → Prop} {w w' : World} {v : Value} {ks : List Int} (h : Kat w X v ks) (k : Mv base X w X' w') : Kat w' X' v ks := by
  obtain ⟨A, c, e, h1, h2, h3⟩ := h
  refine ⟨A, c, e, h1, h2, fun z => ?_⟩
  obtain ⟨b, o, cs, e2, hb, hx, hc⟩ := h3 z
  obtain ⟨q1, q2⟩ := k.2.2 b 3 cs hx hb
  exact ⟨b, o, cs, e2, q1, q2, hc⟩
theorem kat_nil (w : World) (X : Nat → Prop) : Kat w X (.slice none 0 0) [] := ⟨none, 0, rfl, Nat.le_refl _, Nat.zero_le _, fun z => absurd z (by simp)⟩
theorem Kat.is {X : Nat → Prop} {w : World} {A : Option Addr} {c : Nat} {ks : List Int} (h : Kat w X (.slice A ks.length c) ks) : Is w A ks := fun z => by
  obtain ⟨A', c', e, _, _, h3⟩ := h
  injection e with e _ _
  subst e
  obtain ⟨b, o, cs, e2, hb, _, hc⟩ := h3 z
  exact ⟨b, o, e2, hb.lt, fun k hk => (hb.cell _).trans (hc k hk)⟩
theorem own_keep {w w' : World} {base m sz : Nat} {e : TypeId} {v : Value} {xs : List Value} (h : w.ownsRow base e sz v m xs) (k : ∀ b cs, some b = v.ownBlock → HB w b e cs → HB w' b e cs) : w'.ownsRow base e sz v m xs := by
  refine ⟨h.1, ?_⟩
  rcases h.2 with z | ⟨g, cap, cur, rfl, hb, hh, r⟩
  · exact .inl z
  · exact .inr ⟨g, cap, cur, rfl, hb, k g cur rfl hh, r⟩
theorem own_mv {base base' m sz : Nat} {X X' : Nat → Prop} {w w' : World} {e : TypeId} {v : Value} {xs : List Value} (h : w.ownsRow base e sz v m xs) (hx : ∀ b, some b = v.ownBlock → ¬ X b) (k : Mv base' X w X' w') : w'.ownsRow base e sz v m xs ∧ ∀ b, some b = v.ownBlock → ¬ X' b := by
  refine ⟨own_keep h fun b cs hb hh => (k.2.2 b e cs (hx b hb) hh).1, fun b hb => ?_⟩
  rcases h.2 with ⟨rfl, _⟩ | ⟨g, cap, cur, rfl, _, hh, _⟩
  · simp [Value.ownBlock] at hb
  · simp [Value.ownBlock] at hb
    subst hb
    exact (k.2.2 b e cur (hx b (by simp [Value.ownBlock])) hh).2
theorem own_ne2 {w : World} {base base' m m' sz sz' : Nat} {e e' : TypeId} {v v' : Value} {xs xs' : List Value} (h : w.ownsRow base e sz v m xs) (k : w.ownsRow base' e' sz' v' m' xs') (ht : e ≠ e') : ∀ b, some b = v.ownBlock → some b ≠ v'.ownBlock := by
  intro b hb
  rcases h.2 with ⟨rfl, _⟩ | ⟨g, cap, cur, rfl, _, hh, _⟩
  · simp [Value.ownBlock] at hb
  · simp [Value.ownBlock] at hb
    subst hb
    exact own_ne k hh ht
/-- The maker's blocks, and some others. -/
def MbY (Y : Nat → Prop) (g : Nat) (nv sv : Value) (b : Nat) : Prop := Mb g nv sv b ∨ Y b
/-- No others. -/
def No : Nat → Prop := fun _ => False
theorem mvY {base g : Nat} {nv sv nv' sv' : Value} {w w' : World} (Y : Nat → Prop) (h : Mv base (Mb g nv sv) w (Mb g nv' sv') w') : Mv base (MbY Y g nv sv) w (MbY Y g nv' sv') w' :=
  ⟨h.1, h.2.1, fun b t cs hx hb => ⟨(h.2.2 b t cs (fun z => hx (.inl z)) hb).1, fun z => z.elim (h.2.2 b t cs (fun z => hx (.inl z)) hb).2 (fun z => hx (.inr z))⟩⟩
/-- A node's cells. -/
def ndV (p : Nd × Value) : List Value := [.int .i64 p.1.op, p.2, .int .i64 p.1.n, .int .i64 p.1.d, .string p.1.name]
/-- What the maker has in memory. -/
def Mk (Y : Nat → Prop) (base g : Nat) (nv sv : Value) (w : World) (ps : List (Nd × Value)) (ss : List Int) : Prop :=
  base ≤ g ∧ HB w g 60 #[nv, sv] ∧ w.ownsRow base 37 5 nv ps.length (ps.flatMap ndV) ∧ w.ownsRow base 3 1 sv ss.length (intV ss) ∧ ∀ p ∈ ps, p.1.name.size ≤ maxLen ∧ Kat w (MbY Y g nv sv) p.2 p.1.kids
theorem own_val {w : World} {base m sz : Nat} {e : TypeId} {v : Value} {xs : List Value} (h : w.ownsRow base e sz v m xs) : ∃ A c, v = .slice A m c := by
  rcases h.2 with ⟨rfl, h1⟩ | ⟨g, cap, cur, rfl, _⟩
  · exact ⟨none, 0, by rw [h1]⟩
  · exact ⟨_, _, rfl⟩
theorem info56' : (Try.prog.info? 37).map (fun i => (i.zero, i.size, i.bytes)) = some (some (.agg #[.int .i64 0, .slice none 0 0, .int .i64 0, .int .i64 0, .string ⟨#[]⟩]), 5, 64) := by kernel_rfl
end Go.Proofs.Ytjjjgffpmghfgaa
