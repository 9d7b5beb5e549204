/-
  Asks that are made of raw numbers: numbers picked, what the maker has in memory.
  Asks that are made of raw numbers: a node is put.
  Values of nodes: what a meaning tells of arguments.
-/
import Derived.Test.YtibpgcdaommjeaaG13
import Derived.Deep.AppendLies
import Derived.Deep.RegionLaw
import Derived.Test.YtibpgcdaommjeaaG06
import Derived.Laws.AppendOwnNone
namespace Go.Proofs.Ytibpgcdaommjeaa
open Go.RowKit

theorem tmod_bd (a n : Int) (h : 0 < n) : -n < a.tmod n ∧ a.tmod n < n := by
  have h1 := Int.tmod_lt_of_pos a h
  have h2 := Int.tmod_lt_of_pos (-a) h
  rw [Int.neg_tmod] at h2
  omega
theorem pick_eq (a n : Int) (h : 0 < n) : a % n = if a.tmod n < 0 then a.tmod n + n else a.tmod n := by
  obtain ⟨h1, h2⟩ := tmod_bd a n h
  have e : a % n = (a.tmod n) % n := by
    have q : a % n = (a.tmod n + n * a.tdiv n) % n := by rw [Int.tmod_add_mul_tdiv]
    rw [Int.add_mul_emod_self_left] at q
    exact q
  rw [e]
  split
  · rw [← Int.add_emod_right, Int.emod_eq_of_lt (by omega) (by omega)]
  · rw [Int.emod_eq_of_lt (by omega) (by omega)]
set_option maxHeartbeats 1000000 in
theorem picked_any (a : Int) (n : Nat) (h1 : 1 ≤ n) (h2 : n ≤ 1000) (w : World) : Calls Try.prog 12 #[.int .i64 a, .int .i64 n] w fun e w' => e = .returned (.int .i64 (a % n)) ∧ w' = w := by
  have hne : (n : Int) ≠ 0 := by omega
  have HP := Lib.hid (pick_eq a n (by omega))
  obtain ⟨b1, b2⟩ := tmod_bd a n (by omega)
  have hw : wrap64 (a.tmod n + n) = a.tmod n + n ∨ 0 ≤ a.tmod n := by
    by_cases z : a.tmod n < 0
    · left; unfold wrap64; omega
    · right; omega
  go_enter Try.func12, Try.ntmps12
  go_wp2_with fail
  all_goals
    go_ret
    refine ⟨?_, rfl⟩
    rw [HP.out]
    first | rw [if_pos (by assumption)] | rw [if_neg (by omega)]
    first | rfl | (rcases hw with z | z; rw [← z]; rfl; omega)
section
variable {P : Program} {w : World} {ops : Array Oper} {rest : List Oper} {o : Oper} {a : Act} {K : Act → World → Prop} {Q : Exit → Act → World → Prop} {E : Prop}
/-- An append of one element at a step of a region that draws its order: the row's block is the old one, or new. -/
theorem step_app2 (t e : TypeId) (hut : P.underlying t = some (.slice e)) (z : Value) (sz by_ : Nat) (hinfo : (P.info? e).map (fun i => (i.zero, i.size, i.bytes)) = some (some z, sz, by_)) (hzs : z.cells.size = sz) (hsz : 0 < sz)
    (hgd : o.guard = none) (s x : Operand) (ho : o.op = .call { callee := .builtin .append, args := #[s, x], argTypes := #[t, t] })
    (base : Nat) (v : Value) (n : Nat) (xs : List Value) (hs : a.eval s = v) (hown : w.ownsRow base e sz v n xs) (gb : Nat) (news : Array Value) (hx : a.eval x = .slice (some ⟨gb, 0, none⟩) 1 1) (hnews : HB w gb e news) (hl : news.size = sz) (h1 : ∀ u ∈ news.toList, u.oneCell' = true)
    (hn : (n + 1) * by_ ≤ 140737488355328) (hn2 : n + 1 ≤ maxLen) (hbase : base ≤ w.heap.size)
    (h : ∀ g cap w', Hid (w'.ownsRow base e sz (.slice (some ⟨g, 0, none⟩) (n + 1) cap) (n + 1) (xs ++ news.toList)) → (∀ g t cs, some g ≠ v.ownBlock → HB w g t cs → HB w' g t cs) → (∀ W, Below base W w → Below base W w') → Hid (v.ownBlock = some g ∨ g = w.heap.size) → K (a.put o.dst (.slice (some ⟨g, 0, none⟩) (n + 1) cap)) w') :
    if Region.wanted o (yielded ops a.tmps) = true then Oper.wp P o a w K Q else E := by
  obtain ⟨i0, hi0, hz0, hz1, hz2⟩ := info_parts hinfo
  refine step_append_lies w hgd s x t ho base e i0 z sz by_ hut hi0 hz0 hz1 hz2 hzs hsz v n xs hs hown ⟨gb, 0, none⟩ 1 1 news.toList hx (by simp [hl]) (World.news_of_block (cs := news) hnews) h1 (by omega) hn2 hn hbase _ rfl ?_
  intro g cap w' hown' hg hf _
  exact h g cap w' (Lib.hid hown') (fun g' t cs hne hb => hb.grown hg hne) (fun W hW => bw_grown hbase hW hown hg) hf
end
theorem at_any (xs : List Int) (A : Option Addr) (c i : Nat) (_hl : xs.length ≤ maxLen) (w : World) (h : Is w A xs) :
    Calls Try.prog 10 #[.slice A xs.length c, .int .i64 i] w fun e w' => e = .returned (.int .i64 (nth xs i)) ∧ w' = w := by
  by_cases hlt : i < xs.length
  · obtain ⟨b, o, rfl, _, c0⟩ := is_at h hlt
    have t3 : decide ((i : Int) < xs.length) = true := by simpa using hlt
    unfold maxLen at _hl
    generalize xs.length = L at *
    generalize nth xs i = x at *
    clear h
    go_enter Try.func10, Try.ntmps10
    go_wp2_with fail
    go_ret
    exact ⟨rfl, rfl⟩
  · have t3 : decide ((i : Int) < xs.length) = false := by simp; omega
    have HX := Lib.hid (nth_past (xs := xs) (i := i) (by omega))
    unfold maxLen at _hl
    generalize xs.length = L at *
    generalize nth xs i = x at *
    clear h
    go_enter Try.func10, Try.ntmps10
    go_wp2_with fail
    go_ret
    exact ⟨by rw [HX.out]; rfl, rfl⟩
/-- The maker's blocks. -/
def Mb (g : Nat) (nv sv : Value) (b : Nat) : Prop := b = g ∨ some b = nv.ownBlock ∨ some b = sv.ownBlock
/-- Nothing but some blocks from a number on has changed. -/
def Mv (base : Nat) (X : Nat → Prop) (w : World) (X' : Nat → Prop) (w' : World) : Prop :=
  Below base w w' ∧ w.heap.size ≤ w'.heap.size ∧ ∀ b t cs, ¬ X b → HB w b t cs → HB w' b t cs ∧ ¬ X' b
theorem Mv.trans {base : Nat} {X X' X'' : Nat → Prop} {w w' w'' : World} (h : Mv base X w X' w') (k : Mv base X' w' X'' w'') : Mv base X w X'' w'' :=
  ⟨h.1.trans k.1, Nat.le_trans h.2.1 k.2.1, fun b t cs h1 h2 => k.2.2 b t cs (h.2.2 b t cs h1 h2).2 (h.2.2 b t cs h1 h2).1⟩
theorem mv_refl (base : Nat) (X : Nat → Prop) (w : World) : Mv base X w X w := ⟨Below.refl _ _, Nat.le_refl _, fun _ _ _ h1 h2 => ⟨h2, h1⟩⟩
theorem mv_below {base : Nat} {X : Nat → Prop} {w w' : World} (hb : base ≤ w.heap.size) (h : Below w.heap.size w w') : Mv base X w X w' :=
  ⟨h.mono hb, h.size, fun _ _ _ h1 h2 => ⟨h2.below h, h1⟩⟩
/-- Kids of a node in memory, apart from some blocks. -/
def Kat (w : World) (X : Nat → Prop) (v : Value) (ks : List Int) : Prop :=
  ∃ A c, v = .slice A ks.length c ∧ ks.length ≤ c ∧ c ≤ maxLen ∧ (0 < ks.length → ∃ b o cs, A = some ⟨b, o, none⟩ ∧ HB w b 3 cs ∧ ¬ X b ∧ ∀ k, k < ks.length → cs[o + k]? = some (.int .i64 (nth ks k)))
theorem Kat.mv {base : Nat} {X X' : Nat → Prop} {w w' : World} {v : Value} {ks : List Int} (h : Kat w X v ks) (k : Mv base X w X' w') : Kat w' X' v ks := by
  obtain ⟨A, c, e, h1, h2, h3⟩ := h
  refine ⟨A, c, e, h1, h2, fun z => ?_⟩
  obtain ⟨b, o, cs, e2, hb, hx, hc⟩ := h3 z
  obtain ⟨q1, q2⟩ := k.2.2 b 3 cs hx hb
  exact ⟨b, o, cs, e2, q1, q2, hc⟩
theorem kat_nil (w : World) (X : Nat → Prop) : Kat w X (.slice none 0 0) [] := ⟨none, 0, rfl, Nat.le_refl _, Nat.zero_le _, fun z => absurd z (by simp)⟩
theorem Kat.is {X : Nat → Prop} {w : World} {A : Option Addr} {c : Nat} {ks : List Int} (h : Kat w X (.slice A ks.length c) ks) : Is w A ks := fun z => by
  obtain ⟨A', c', e, _, _, h3⟩ := h
  injection e with e _ _
  subst e
  obtain ⟨b, o, cs, e2, hb, _, hc⟩ := h3 z
  exact ⟨b, o, e2, hb.lt, fun k hk => (hb.cell _).trans (hc k hk)⟩
theorem own_keep {w w' : World} {base m sz : Nat} {e : TypeId} {v : Value} {xs : List Value} (h : w.ownsRow base e sz v m xs) (k : ∀ b cs, some b = v.ownBlock → HB w b e cs → HB w' b e cs) : w'.ownsRow base e sz v m xs := by
  refine ⟨h.1, ?_⟩
  rcases h.2 with z | ⟨g, cap, cur, rfl, hb, hh, r⟩
  · exact .inl z
  · exact .inr ⟨g, cap, cur, rfl, hb, k g cur rfl hh, r⟩
theorem own_mv {base base' m sz : Nat} {X X' : Nat → Prop} {w w' : World} {e : TypeId} {v : Value} {xs : List Value} (h : w.ownsRow base e sz v m xs) (hx : ∀ b, some b = v.ownBlock → ¬ X b) (k : Mv base' X w X' w') : w'.ownsRow base e sz v m xs ∧ ∀ b, some b = v.ownBlock → ¬ X' b := by
  refine ⟨own_keep h fun b cs hb hh => (k.2.2 b e cs (hx b hb) hh).1, fun b hb => ?_⟩
  rcases h.2 with ⟨rfl, _⟩ | ⟨g, cap, cur, rfl, _, hh, _⟩
  · simp [Value.ownBlock] at hb
  · simp [Value.ownBlock] at hb
    subst hb
    exact (k.2.2 b e cur (hx b (by simp [Value.ownBlock])) hh).2
theorem own_ne2 {w : World} {base base' m m' sz sz' : Nat} {e e' : TypeId} {v v' : Value} {xs xs' : List Value} (h : w.ownsRow base e sz v m xs) (k : w.ownsRow base' e' sz' v' m' xs') (ht : e ≠ e') : ∀ b, some b = v.ownBlock → some b ≠ v'.ownBlock := by
  intro b hb
  rcases h.2 with ⟨rfl, _⟩ | ⟨g, cap, cur, rfl, _, hh, _⟩
  · simp [Value.ownBlock] at hb
  · simp [Value.ownBlock] at hb
    subst hb
    exact own_ne k hh ht
/-- The maker's blocks, and some others. -/
def MbY (Y : Nat → Prop) (g : Nat) (nv sv : Value) (b : Nat) : Prop := Mb g nv sv b ∨ Y b
/-- No others. -/
def No : Nat → Prop := fun _ => False
theorem mvY {base g : Nat} {nv sv nv' sv' : Value} {w w' : World} (Y : Nat → Prop) (h : Mv base (Mb g nv sv) w (Mb g nv' sv') w') : Mv base (MbY Y g nv sv) w (MbY Y g nv' sv') w' :=
  ⟨h.1, h.2.1, fun b t cs hx hb => ⟨(h.2.2 b t cs (fun z => hx (.inl z)) hb).1, fun z => z.elim (h.2.2 b t cs (fun z => hx (.inl z)) hb).2 (fun z => hx (.inr z))⟩⟩
/-- A node's cells. -/
def ndV (p : Nd × Value) : List Value := [.int .i64 p.1.op, p.2, .int .i64 p.1.n, .int .i64 p.1.d, .string p.1.name]
theorem own_val {w : World} {base m sz : Nat} {e : TypeId} {v : Value} {xs : List Value} (h : w.ownsRow base e sz v m xs) : ∃ A c, v = .slice A m c := by
  rcases h.2 with ⟨rfl, h1⟩ | ⟨g, cap, cur, rfl, _⟩
  · exact ⟨none, 0, by rw [h1]⟩
  · exact ⟨_, _, rfl⟩
theorem info56' : (Try.prog.info? 24).map (fun i => (i.zero, i.size, i.bytes)) = some (some (.agg #[.int .i64 0, .slice none 0 0, .int .i64 0, .int .i64 0, .string ⟨#[]⟩]), 5, 64) := by kernel_rfl
end Go.Proofs.Ytibpgcdaommjeaa
namespace Go.Proofs.Ytibpgcdaommjeaa
open Go.RowKit

section
variable {P : Program} {w : World} {ops : Array Oper} {rest : List Oper} {o : Oper} {a : Act} {K : Act → World → Prop} {Q : Exit → Act → World → Prop}
theorem wpl_app2 (t e : TypeId) (hut : P.underlying t = some (.slice e)) (z : Value) (sz by_ : Nat) (hinfo : (P.info? e).map (fun i => (i.zero, i.size, i.bytes)) = some (some z, sz, by_)) (hzs : z.cells.size = sz) (hsz : 0 < sz)
    (hgd : o.guard = none) (s x : Operand) (ho : o.op = .call { callee := .builtin .append, args := #[s, x], argTypes := #[t, t] })
    (base : Nat) (v : Value) (n : Nat) (xs : List Value) (hs : a.eval s = v) (hown : w.ownsRow base e sz v n xs) (gb : Nat) (news : Array Value) (hx : a.eval x = .slice (some ⟨gb, 0, none⟩) 1 1) (hnews : HB w gb e news) (hl : news.size = sz) (h1 : ∀ u ∈ news.toList, u.oneCell' = true)
    (hn : (n + 1) * by_ ≤ 140737488355328) (hn2 : n + 1 ≤ maxLen) (hbase : base ≤ w.heap.size)
    (h : ∀ g cap w', Hid (w'.ownsRow base e sz (.slice (some ⟨g, 0, none⟩) (n + 1) cap) (n + 1) (xs ++ news.toList)) → (∀ g t cs, some g ≠ v.ownBlock → HB w g t cs → HB w' g t cs) → (∀ W, Below base W w → Below base W w') → Hid (v.ownBlock = some g ∨ g = w.heap.size) → wpList P ops Q rest (a.put o.dst (.slice (some ⟨g, 0, none⟩) (n + 1) cap)) w') :
    wpList P ops Q (o :: rest) a w := by
  obtain ⟨i0, hi0, hz0, hz1, hz2⟩ := info_parts hinfo
  refine wpList_append_lies w hgd s x t ho base e i0 z sz by_ hut hi0 hz0 hz1 hz2 hzs hsz v n xs hs hown ⟨gb, 0, none⟩ 1 1 news.toList hx (by simp [hl]) (World.news_of_block (cs := news) hnews) h1 (by omega) hn2 hn hbase _ rfl ?_
  intro g cap w' hown' hg hf _
  exact h g cap w' (Lib.hid hown') (fun g' t cs hne hb => hb.grown hg hne) (fun W hW => bw_grown hbase hW hown hg) hf
end
end Go.Proofs.Ytibpgcdaommjeaa
namespace Go.Proofs.Ytibpgcdaommjeaa
open Go.RowKit

/-- Cells of an array as they lie in memory. -/
def csV (cs : List (Int × Int)) : List Value := cs.flatMap fun q => [.int .i64 q.1, .int .i64 q.2]
theorem csV_len (cs : List (Int × Int)) : (csV cs).length = cs.length * 2 := by
  induction cs with
  | nil => rfl
  | cons q cs ih =>
    show ([Value.int .i64 q.1, .int .i64 q.2] ++ csV cs).length = _
    rw [List.length_append, ih, List.length_cons]
    simp
    omega
theorem csV_at {cs : List (Int × Int)} : ∀ {j : Nat} {u : Value}, (csV cs)[j]? = some u → ∃ (i : Nat) (q : Int × Int), cs[i]? = some q ∧ (j = i * 2 ∧ u = .int .i64 q.1 ∨ j = i * 2 + 1 ∧ u = .int .i64 q.2) := by
  induction cs with
  | nil => intro j u h; simp [csV] at h
  | cons q cs ih =>
    intro j u h
    match j, h with
    | 0, h => exact ⟨0, q, rfl, .inl ⟨rfl, (by injection h with h; exact h.symm)⟩⟩
    | 1, h => exact ⟨0, q, rfl, .inr ⟨rfl, (by injection h with h; exact h.symm)⟩⟩
    | j + 2, h =>
      obtain ⟨i, p, h1, h2⟩ := ih (j := j) (u := u) h
      exact ⟨i + 1, p, h1, by
        rcases h2 with ⟨a, b⟩ | ⟨a, b⟩
        · exact .inl ⟨by omega, b⟩
        · exact .inr ⟨by omega, b⟩⟩
theorem csV_one (cs : List (Int × Int)) : ∀ u ∈ csV cs, u.oneCell' = true := by
  intro u hu
  obtain ⟨j, hj⟩ := mem_get hu
  obtain ⟨i, q, _, ⟨_, rfl⟩ | ⟨_, rfl⟩⟩ := csV_at hj <;> rfl
section
variable {P : Program} {w : World} {ops : Array Oper} {rest : List Oper} {o : Oper} {a : Act} {Q : Exit → Act → World → Prop}
/-- Cells of an array are put behind a row of the call's own. -/
theorem wpl_cs (t e : TypeId) (hut : P.underlying t = some (.slice e)) (z : Value) (hinfo : (P.info? e).map (fun i => (i.zero, i.size, i.bytes)) = some (some z, 2, 16)) (hzs : z.cells.size = 2)
    (hgd : o.guard = none) (s x : Operand) (ho : o.op = .call { callee := .builtin .append, args := #[s, x], argTypes := #[t, t] })
    (base : Nat) (v : Value) (n : Nat) (xs : List Value) (hs : a.eval s = v) (hown : w.ownsRow base e 2 v n xs) (A : Option Addr) (c : Nat) (cs : List (Int × Int)) (hx : a.eval x = .slice A cs.length c) (hat : CsAt w A cs) (hm : 0 < cs.length) (hb : n + cs.length ≤ 1000000) (hbase : base ≤ w.heap.size)
    (h : ∀ g cap w', Hid (w'.ownsRow base e 2 (.slice (some ⟨g, 0, none⟩) (n + cs.length) cap) (n + cs.length) (xs ++ csV cs)) → (∀ g t cs, some g ≠ v.ownBlock → HB w g t cs → HB w' g t cs) → (∀ W, Below base W w → Below base W w') → Hid (v.ownBlock = some g ∨ g = w.heap.size) → wpList P ops Q rest (a.put o.dst (.slice (some ⟨g, 0, none⟩) (n + cs.length) cap)) w') :
    wpList P ops Q (o :: rest) a w := by
  obtain ⟨i0, hi0, hz0, hz1, hz2⟩ := info_parts hinfo
  obtain ⟨b, off, rfl, hbl, hq⟩ := hat hm
  refine wpList_append_lies w hgd s x t ho base e i0 z 2 16 hut hi0 hz0 hz1 hz2 hzs (by omega) v n xs hs hown ⟨b, off, none⟩ cs.length c (csV cs) hx (csV_len cs) (fun j u hu => ?_) (csV_one cs) hm (by unfold maxLen; omega) (by omega) hbase _ rfl ?_
  · obtain ⟨i, q, h1, ⟨rfl, rfl⟩ | ⟨rfl, rfl⟩⟩ := csV_at hu
    · rw [Go.WideShapes.add_plain]
      exact (hq i q h1).1
    · rw [Go.WideShapes.add_plain]
      exact (hq i q h1).2
  · intro g cap w' hown' hg hf _
    exact h g cap w' (Lib.hid hown') (fun g' t cs hne hb => hb.grown hg hne) (fun W hW => bw_grown hbase hW hown hg) (Lib.hid hf)
end
theorem enters_tol1 : Enters 56 := fun _ _ => by kernel_rfl
set_option maxRecDepth 100000 in
set_option maxHeartbeats 2000000 in
theorem tol1_any (q : En) (Aa Ac A2 : Option Addr) (ca cc c2 g : Nat) (fs : List (Int × Int)) (hf : fs.length ≤ maxLen) (w : World) (h : enI w q Aa ca Ac cc) (hg : HB w g 76 #[.slice A2 fs.length c2]) (h2 : CsAt w A2 fs) :
    Calls Try.prog 56 (#[enV q Aa ca Ac cc] ++ #[.pointer (some ⟨g, 0, none⟩)]) w fun e w' => e = .returned (.bool (eqA q.args fs)) ∧ Below w.heap.size w w' := by
  obtain ⟨⟨ha1, ha2, ha3⟩, hc1, hc2, hc3⟩ := h
  have X := Lib.hid (fun W (k : Below w.heap.size w W) => eqfun_any q.args fs Aa A2 ca c2 (Nat.le_trans ha1 ha2) hf W (ha3.below k) (h2.below k))
  have g0 := hg.cell 0
  have gl := hg.lt
  simp only [List.getElem?_toArray, List.getElem?_cons_zero] at g0
  unfold enV
  show Calls Try.prog 56 #[.agg #[.slice Aa q.args.length ca, .int .i64 q.too.num, .int .i64 q.too.den, .slice Ac q.too.cells.length cc, .int .i64 q.too.rest], .pointer (some ⟨g, 0, none⟩)] w _
  generalize eqA q.args fs = r at *
  generalize q.args.length = al at *
  generalize q.too.num = vn at *
  generalize q.too.den = vd at *
  generalize q.too.rest = vr at *
  generalize q.too.cells.length = cl at *
  generalize fs.length = L at *
  have BW : Hid (Below w.heap.size w (w.alloc (.cells #[.slice Aa al ca, .int .i64 vn, .int .i64 vd, .slice Ac cl cc, .int .i64 vr] 57))) := Lib.hid (new_below _ _)
  clear ha1 ha2 ha3 hc1 hc2 hc3 h2 hg
  go_enter Try.func56, Try.ntmps56
  go_wp2_with fail
  refine (X.out _ BW.out).mono ?_
  rintro e w1 ⟨rfl, hb1⟩
  have B1 := Lib.hid (below_after BW.out hb1)
  clear hb1
  go_wp2_with fail
  go_ret
  exact ⟨rfl, B1.out⟩
/-- What a meaning tells. -/
def tolF (m : Mg) (fs : List (Int × Int)) : Vl := match m.rows.find? (fun e => eqA e.args fs) with | some e => e.too | none => m.rest
theorem tolF_some {m : Mg} {fs : List (Int × Int)} {i : Nat} (hi : i < m.rows.length) (h : eqA (en m.rows i).args fs = true) (hn : ∀ j, j < i → eqA (en m.rows j).args fs = false) : tolF m fs = (en m.rows i).too := by
  have e : m.rows.find? (fun e => eqA e.args fs) = some (en m.rows i) := by
    rw [List.find?_eq_some_iff_getElem]
    have e1 : ∀ j (hj : j < m.rows.length), m.rows[j] = en m.rows j := fun j hj => by simp [en, List.getD, hj]
    exact ⟨h, i, hi, e1 i hi, fun j hj => by rw [e1 j (by omega), hn j hj]; rfl⟩
  unfold tolF
  rw [e]
theorem tolF_none {m : Mg} {fs : List (Int × Int)} (hn : ∀ j, j < m.rows.length → eqA (en m.rows j).args fs = false) : tolF m fs = m.rest := by
  have e : m.rows.find? (fun e => eqA e.args fs) = none := by
    rw [List.find?_eq_none]
    intro x hx
    obtain ⟨j, hj, rfl⟩ := List.getElem_of_mem hx
    have := hn j hj
    rw [show en m.rows j = m.rows[j] by simp [en, List.getD, hj]] at this
    rw [this]
    simp
  unfold tolF
  rw [e]
/-- A value that a call has made: its cells lie in a row of the call's own. -/
def ValQ (q : Vl) (w : World) (e : Ending) (w' : World) : Prop := ∃ A c, e = .returned (.agg #[.int .i64 q.num, .int .i64 q.den, .slice A q.cells.length c, .int .i64 q.rest]) ∧ Hid (w'.ownsRow w.heap.size 59 2 (.slice A q.cells.length c) q.cells.length (csV q.cells)) ∧ Below w.heap.size w w'
theorem infoCell : (Try.prog.info? 59).map (fun i => (i.zero, i.size, i.bytes)) = some (some (.agg #[.int .i64 0, .int .i64 0]), 2, 16) := by kernel_rfl
theorem found_inv {n : Nat} {p : Nat → Bool} {C : World → Prop} {k : Int} {w : World} (h : Found n p (fun _ => C) k w) : C w := by
  rcases h with ⟨_, _, _, _, _, h⟩ | ⟨_, _, h⟩ <;> exact h
theorem hb_set4 {w : World} {g t : Nat} {x0 x1 x2 x3 n d e f : Value} (h : HB w g t #[x0, x1, x2, x3]) : HB ((((w.setCell ⟨g, 0, none⟩ n).setCell ⟨g, 1, none⟩ d).setCell ⟨g, 2, none⟩ e).setCell ⟨g, 3, none⟩ f) g t #[n, d, e, f] := by
  have := (((h.set_ 0 n).set_ 1 d).set_ 2 e).set_ 3 f
  simpa using this
theorem far4 (w : World) (g : Nat) (v1 v2 v3 v4 : Value) : Far g w ((((w.setCell ⟨g, 0, none⟩ v1).setCell ⟨g, 1, none⟩ v2).setCell ⟨g, 2, none⟩ v3).setCell ⟨g, 3, none⟩ v4) := (far3 w g v1 v2 v3).trans (far_set _ g 3 v4)
theorem hb_far {w w' : World} {g h t : Nat} {cs : Array Value} (hb : HB w g t cs) (ne : g ≠ h) (f : Far h w w') : HB w' g t cs := (f.block g ne).trans hb
theorem told_new (w : World) (vn vd vr : Int) (rl cr cl cc L c2 : Nat) (Ar Ac A2 : Option Addr) :
    HB ((((w.alloc (.cells #[.slice Ar rl cr, .int .i64 vn, .int .i64 vd, .slice Ac cl cc, .int .i64 vr] 53)).alloc (.cells #[.slice A2 L c2] 76)).alloc (.cells #[.int .i64 0, .int .i64 0, .slice none 0 0, .int .i64 0] 42)).alloc (.cells #[.int .i64 vn, .int .i64 vd, .slice Ac cl cc, .int .i64 vr] 42)) w.heap.size 53 #[.slice Ar rl cr, .int .i64 vn, .int .i64 vd, .slice Ac cl cc, .int .i64 vr] ∧ HB ((((w.alloc (.cells #[.slice Ar rl cr, .int .i64 vn, .int .i64 vd, .slice Ac cl cc, .int .i64 vr] 53)).alloc (.cells #[.slice A2 L c2] 76)).alloc (.cells #[.int .i64 0, .int .i64 0, .slice none 0 0, .int .i64 0] 42)).alloc (.cells #[.int .i64 vn, .int .i64 vd, .slice Ac cl cc, .int .i64 vr] 42)) (w.heap.size + 1) 76 #[.slice A2 L c2] ∧ HB ((((w.alloc (.cells #[.slice Ar rl cr, .int .i64 vn, .int .i64 vd, .slice Ac cl cc, .int .i64 vr] 53)).alloc (.cells #[.slice A2 L c2] 76)).alloc (.cells #[.int .i64 0, .int .i64 0, .slice none 0 0, .int .i64 0] 42)).alloc (.cells #[.int .i64 vn, .int .i64 vd, .slice Ac cl cc, .int .i64 vr] 42)) (w.heap.size + 1 + 1) 42 #[.int .i64 0, .int .i64 0, .slice none 0 0, .int .i64 0] ∧
    HB ((((w.alloc (.cells #[.slice Ar rl cr, .int .i64 vn, .int .i64 vd, .slice Ac cl cc, .int .i64 vr] 53)).alloc (.cells #[.slice A2 L c2] 76)).alloc (.cells #[.int .i64 0, .int .i64 0, .slice none 0 0, .int .i64 0] 42)).alloc (.cells #[.int .i64 vn, .int .i64 vd, .slice Ac cl cc, .int .i64 vr] 42)) (w.heap.size + 1 + 1 + 1) 42 #[.int .i64 vn, .int .i64 vd, .slice Ac cl cc, .int .i64 vr] ∧ Below w.heap.size w ((((w.alloc (.cells #[.slice Ar rl cr, .int .i64 vn, .int .i64 vd, .slice Ac cl cc, .int .i64 vr] 53)).alloc (.cells #[.slice A2 L c2] 76)).alloc (.cells #[.int .i64 0, .int .i64 0, .slice none 0 0, .int .i64 0] 42)).alloc (.cells #[.int .i64 vn, .int .i64 vd, .slice Ac cl cc, .int .i64 vr] 42)) :=
  ⟨(((HB.new _ _ _).alloc _).alloc _).alloc _, ((HB.new1 _ _ _ _).alloc _).alloc _, (HB.new2 _ _ _ _ _).alloc _, HB.new3 _ _ _ _ _ _, by go_grown⟩
set_option maxRecDepth 100000 in
set_option maxHeartbeats 4000000 in
theorem told_any (m : Mg) (Ar Ac A2 : Option Addr) (cr cc c2 : Nat) (fs : List (Int × Int)) (hf : fs.length ≤ maxLen) (hr : m.rows.length ≤ maxLen) (hc0 : m.rest.cells.length ≤ 2000) (hc1 : ∀ i, i < m.rows.length → (en m.rows i).too.cells.length ≤ 2000) (w : World)
    (h1 : EsAt w Ar m.rows) (h2 : CsAt w A2 fs) (h3 : CsAt w Ac m.rest.cells) :
    Calls Try.prog 28 #[.agg #[.slice Ar m.rows.length cr, .int .i64 m.rest.num, .int .i64 m.rest.den, .slice Ac m.rest.cells.length cc, .int .i64 m.rest.rest], .slice A2 fs.length c2] w (ValQ (tolF m fs) w) := by
  have HN := Lib.hid (told_new w m.rest.num m.rest.den m.rest.rest m.rows.length cr m.rest.cells.length cc fs.length c2 Ar Ac A2)
  have HX := Lib.hid (fun (X : World) (hg : HB X (w.heap.size + 1) 76 #[.slice A2 fs.length c2]) (hb : Below w.heap.size w X) =>
    indexen_any enters_tol1 m.rows Ar cr #[.pointer (some ⟨w.heap.size + 1, 0, none⟩)] (fun i => eqA (en m.rows i).args fs) (fun _ W => Below X.heap.size X W) hr (fun i W k => h1.below (below_after hb k))
      (fun i W Aa ca Ac cc hi k he => (tol1_any (en m.rows i) Aa Ac A2 ca cc c2 (w.heap.size + 1) fs hf W he (hg.below k) (h2.below (below_after hb k))).mono fun e w' h => ⟨h.1, below_after k h.2⟩) X (Below.refl _ _))
  go_enter Try.func28, Try.ntmps28
  go_wp2_with fail
  refine (HX.out _ HN.out.2.1 HN.out.2.2.2.2).mono ?_
  rintro e w1 ⟨k, rfl, hk⟩
  have HK : Hid ((∃ i : Nat, i < m.rows.length ∧ k = i ∧ tolF m fs = (en m.rows i).too) ∨ k = -1 ∧ tolF m fs = m.rest) := Lib.hid (by
    rcases hk.out with ⟨i, hi, hp, hn, he, _⟩ | ⟨hn, he, _⟩
    · exact .inl ⟨i, hi, he, tolF_some hi hp hn⟩
    · exact .inr ⟨he, tolF_none hn⟩)
  have hb1 := found_inv hk.out
  have M1 := Lib.hid (HN.out.1.below hb1)
  have R1 := Lib.hid (HN.out.2.2.1.below hb1)
  have T1 := Lib.hid (HN.out.2.2.2.1.below hb1)
  have B1 := Lib.hid (below_after HN.out.2.2.2.2 hb1)
  have E1 := Lib.hid h1
  have C1 := Lib.hid h3
  have L1 := Lib.hid hc1
  have L0 := Lib.hid hc0
  clear hk hb1 HX HN h1 h2 h3 hc1 hc0
  generalize tolF m fs = v at *
  go_upto_if 16 with fail
  go_cut [7] (fun _ wx => ∃ (A : Option Addr) (c : Nat), v.cells.length ≤ 2000 ∧ Hid (HB wx (w.heap.size + 1 + 1 + 1) 42 #[.int .i64 v.num, .int .i64 v.den, .slice A v.cells.length c, .int .i64 v.rest]) ∧ Hid (HB wx (w.heap.size + 1 + 1) 42 #[.int .i64 0, .int .i64 0, .slice none 0 0, .int .i64 0]) ∧ Hid (CsAt wx A v.cells) ∧ Hid (Below w.heap.size w wx))
  case first =>
    rcases HK.out with ⟨i, hi, rfl, hv⟩ | ⟨rfl, hv⟩
    · have lv := L1.out i hi
      obtain ⟨b, o, hAr, hb, ⟨⟨Aa, ca, c0, _⟩, c1, c2, c4, Ac', cc', c3, _, _, hcs⟩⟩ := es_at (i := i) E1.out hi
      subst hAr
      replace c1 := (B1.out.cell (p := ⟨b, o + i * 5 + 1, none⟩) hb).trans c1
      replace c2 := (B1.out.cell (p := ⟨b, o + i * 5 + (1 + 1), none⟩) hb).trans c2
      replace c3 := (B1.out.cell (p := ⟨b, o + i * 5 + (1 + 2), none⟩) hb).trans c3
      replace c4 := (B1.out.cell (p := ⟨b, o + i * 5 + (1 + 3), none⟩) hb).trans c4
      rw [← hv] at c1 c2 c3 c4 hcs lv
      have m0 := M1.out.cell 0
      simp only [List.getElem?_toArray, List.getElem?_cons_zero] at m0
      obtain ⟨x0, x1, x2, x3, y0, y1, y2, y3⟩ := T1.out.four
      have T2 := Lib.hid (hb_set4 (n := .int .i64 v.num) (d := .int .i64 v.den) (e := .slice Ac' v.cells.length cc') (f := .int .i64 v.rest) T1.out)
      have FR := far4 w1 (w.heap.size + 1 + 1 + 1) (.int .i64 v.num) (.int .i64 v.den) (.slice Ac' v.cells.length cc') (.int .i64 v.rest)
      have R2 := Lib.hid (hb_far R1.out (by omega) FR)
      have B2 := Lib.hid (bw_far B1.out (by omega) FR)
      have C2 := Lib.hid (hcs.below B2.out)
      have li : (i : Int) < m.rows.length := by omega
      have hr' : m.rows.length ≤ 2 ^ 63 - 1 := hr
      clear hv hcs FR E1 HK L1 C1
      generalize v.cells.length = cl at *
      generalize m.rows.length = rl at *
      generalize v.num = vn at *
      generalize v.den = vd at *
      generalize v.rest = vr at *
      go_wp2_with fail
      go_meet
      case rel => exact ⟨Ac', cc', lv, T2, R2, C2, B2⟩
    · subst hv
      go_wp2_with fail
      go_meet
      case rel => exact ⟨Ac, cc, L0.out, T1, R1, Lib.hid (C1.out.below B1.out), B1⟩
  case rest =>
    obtain ⟨A, c, hl, T2, R2, C2, B2⟩ := hcut
    obtain ⟨x0, x1, x2, x3, y0, y1, y2, y3⟩ := T2.out.four
    by_cases hz : v.cells.length = 0
    · have hn := List.eq_nil_of_length_eq_zero hz
      have F1 := far_set wc (w.heap.size + 1 + 1 + 1) 2 (.slice none 0 0)
      have R3 := Lib.hid (hb_far R2.out (by omega) F1)
      have R4 := Lib.hid (hb_set4 (n := .int .i64 v.num) (d := .int .i64 v.den) (e := .slice none 0 0) (f := .int .i64 v.rest) R3.out)
      have B4 := Lib.hid (bw_far (bw_far B2.out (by omega) F1) (by omega) (far4 _ (w.heap.size + 1 + 1) (.int .i64 v.num) (.int .i64 v.den) (.slice none 0 0) (.int .i64 v.rest)))
      have FIN : Hid (∀ W', Below w.heap.size w W' → ValQ v w (.returned (.agg #[.int .i64 v.num, .int .i64 v.den, .slice none 0 0, .int .i64 v.rest])) W') := Lib.hid (fun W' k => ⟨none, 0, by rw [hz], Lib.hid (by rw [hn]; exact own_nil _ _ _ _), k⟩)
      obtain ⟨r0, r1, r2, r3, s0, s1, s2, s3⟩ := R2.out.four
      obtain ⟨z0, z1, z2, z3, -⟩ := R4.out.four
      rw [hz] at x2
      clear F1 hn
      cases A with
      | none =>
        go_wp2_with fail
        exact bodyPost_ret (v := .agg #[.int .i64 v.num, .int .i64 v.den, .slice none 0 0, .int .i64 v.rest]) (by simp [results, Try.results28, go_sem, z0, z1, z2, z3]) rfl (FIN.out _ B4.out)
      | some a =>
        go_wp2_with fail
        exact bodyPost_ret (v := .agg #[.int .i64 v.num, .int .i64 v.den, .slice none 0 0, .int .i64 v.rest]) (by simp [results, Try.results28, go_sem, z0, z1, z2, z3]) rfl (FIN.out _ B4.out)
    · have hp : 0 < v.cells.length := by omega
      go_wp2_with (at_builtin; refine wpl_cs 40 59 Try.underlying40 (.agg #[.int .i64 0, .int .i64 0]) infoCell rfl rfl _ _ rfl w.heap.size (.slice none 0 0) 0 [] rfl (own_nil _ _ _ _) A c v.cells rfl C2.out hp (by omega) B2.out.size ?_)
      intro g4 cap4 w4 hown4 hkp4 hbw4 _
      have T3 := Lib.hid (hkp4 _ _ _ (by simp [Value.ownBlock]) T2.out)
      have R3 := Lib.hid (hkp4 _ _ _ (by simp [Value.ownBlock]) R2.out)
      have F1 := far_set w4 (w.heap.size + 1 + 1 + 1) 2 (.slice (some ⟨g4, 0, none⟩) v.cells.length cap4)
      have B3 := hbw4 _ B2.out
      have R4 := Lib.hid (hb_far R3.out (by omega) F1)
      have R5 := Lib.hid (hb_set4 (n := .int .i64 v.num) (d := .int .i64 v.den) (e := .slice (some ⟨g4, 0, none⟩) v.cells.length cap4) (f := .int .i64 v.rest) R4.out)
      have O5 := own_far (own_far hown4.out (own_ne hown4.out T3.out (by decide)) F1) (own_ne (own_far hown4.out (own_ne hown4.out T3.out (by decide)) F1) R4.out (by decide)) (far4 _ (w.heap.size + 1 + 1) (.int .i64 v.num) (.int .i64 v.den) (.slice (some ⟨g4, 0, none⟩) v.cells.length cap4) (.int .i64 v.rest))
      have B5 := bw_far (bw_far B3 (by omega) F1) (by omega) (far4 _ (w.heap.size + 1 + 1) (.int .i64 v.num) (.int .i64 v.den) (.slice (some ⟨g4, 0, none⟩) v.cells.length cap4) (.int .i64 v.rest))
      have FIN : Hid (ValQ v w (.returned (.agg #[.int .i64 v.num, .int .i64 v.den, .slice (some ⟨g4, 0, none⟩) v.cells.length cap4, .int .i64 v.rest])) _) := Lib.hid ⟨some ⟨g4, 0, none⟩, cap4, rfl, Lib.hid O5, B5⟩
      clear x0 x1 x2 x3 y0 y1 y2 y3 F1 B3 O5 B5 hkp4 hbw4
      obtain ⟨x0, x1, x2, x3, y0, y1, y2, y3⟩ := T3.out.four
      obtain ⟨r0, r1, r2, r3, s0, s1, s2, s3⟩ := R3.out.four
      obtain ⟨z0, z1, z2, z3, -⟩ := R5.out.four
      go_wp2_with fail
      exact bodyPost_ret (v := .agg #[.int .i64 v.num, .int .i64 v.den, .slice (some ⟨g4, 0, none⟩) v.cells.length cap4, .int .i64 v.rest]) (by simp [results, Try.results28, go_sem, z0, z1, z2, z3]) rfl FIN.out
end Go.Proofs.Ytibpgcdaommjeaa
