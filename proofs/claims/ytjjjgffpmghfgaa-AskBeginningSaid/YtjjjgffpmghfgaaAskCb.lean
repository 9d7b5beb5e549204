/-
  Asks that are made of raw numbers: a node is put.
-/
import Derived.Test.YtjjjgffpmghfgaaAskCa
import Derived.Deep.AppendLies
import Derived.Deep.RegionLaw
namespace Go.Proofs.Ytjjjgffpmghfgaa
open Go.RowKit

section
variable {P : Program} {w : World} {ops : Array Oper} {rest : List Oper} {o : Oper} {a : Act} {K : Act → World → Prop} {Q : Exit → Act → World → Prop}
theorem wpl_app2 (t e : TypeId) (hut : P.underlying t = some (.slice e)) (z : Value) (sz by_ : Nat) (hinfo : (P.info? e).map (fun i => (i.zero, i.size, i.bytes)) = some (some z, sz, by_)) (hzs : z.cells.size = sz) (hsz : 0 < sz)
    (hgd : o.guard = none) (s x : Operand) (ho : o.op = .call { callee := .builtin .append, args := #[s, x], argTypes := #[t, t] })
    (base : Nat) (v : Value) (n : Nat) (xs : List Value) (hs : a.eval s = v) (hown : w.ownsRow base e sz v n xs) (gb : Nat) (news : Array Value) (hx : a.eval x = .slice (some ⟨gb, 0, none⟩) 1 1) (hnews : HB w gb e news) (hl : news.size = sz) (h1 : ∀ u ∈ news.toList, u.oneCell' = true)
    (hn : (n + 1) * by_ ≤ 140737488355328) (hn2 : n + 1 ≤ maxLen) (hbase : base ≤ w.heap.size)
    (h : ∀ g cap w', Hid (w'.ownsRow base e sz (.slice (some ⟨g, 0, none⟩) (n + 1) cap) (n + 1) (xs ++ news.toList)) → (∀ g t cs, some g ≠ v.ownBlock → HB w g t cs → HB w' g t cs) → (∀ W, Below base W w → Below base W w') → Hid (v.ownBlock = some g ∨ g = w.heap.size) → wpList P ops Q rest (a.put o.dst (.slice (some ⟨g, 0, none⟩) (n + 1) cap)) w') :
    wpList P ops Q (o :: rest) a w := by
  obtain ⟨i0, hi0, hz0, hz1, hz2⟩ := info_parts hinfo
  refine wpList_append_lies w hgd s x t ho base e i0 z sz by_ hut hi0 hz0 hz1 hz2 hzs hsz v n xs hs hown ⟨gb, 0, none⟩ 1 1 news.toList hx (by simp [hl]) (World.news_of_block (cs := news) hnews) h1 (by omega) hn2 hn hbase _ rfl ?_
  intro g cap w' hown' hg hf _
  exact h g cap w' (Lib.hid hown') (fun g' t cs hne hb => hb.grown hg hne) (fun W hW => bw_grown hbase hW hown hg) hf
end
theorem put_s5 {base g n m : Nat} {An S : Option Addr} {nc sc : Nat} {xs ys : List Value} {u : Value} {w w4 : World} (hh : HB w g 60 #[.slice An n nc, .slice S m sc]) (ho : w.ownsRow base 37 5 (.slice An n nc) n xs) (hs : w.ownsRow base 3 1 (.slice S m sc) m ys)
    (K4 : ∀ b t cs, some b ≠ (Value.slice An n nc).ownBlock → HB w b t cs → HB w4 b t cs) : (w4.setCell ⟨g, 0, none⟩ u).ownsRow base 3 1 (.slice S m sc) m ys :=
  own_keep hs fun b cs hb hk => (K4 b 3 cs (own_ne2 hs ho (by decide) b hb) hk).far_ (hb_ne hk hh (by decide)) (far_set w4 g 0 u)
theorem put_fin {base g n m g4 cap4 g6 cap6 : Nat} {An S : Option Addr} {nc sc : Nat} {xs ys news : List Value} {s : Int} {w w4 w6 : World} (hbg : base ≤ g) (hh : HB w g 60 #[.slice An n nc, .slice S m sc]) (ho : w.ownsRow base 37 5 (.slice An n nc) n xs) (hs : w.ownsRow base 3 1 (.slice S m sc) m ys)
    (K4 : ∀ b t cs, some b ≠ (Value.slice An n nc).ownBlock → HB w b t cs → HB w4 b t cs) (o4 : w4.ownsRow base 37 5 (.slice (some ⟨g4, 0, none⟩) (n + 1) cap4) (n + 1) (xs ++ news)) (F4 : (Value.slice An n nc).ownBlock = some g4 ∨ g4 = w.heap.size + 1 + 1) (B4 : Below base w w4)
    (K6 : ∀ b t cs, some b ≠ (Value.slice S m sc).ownBlock → HB (w4.setCell ⟨g, 0, none⟩ (.slice (some ⟨g4, 0, none⟩) (n + 1) cap4)) b t cs → HB w6 b t cs) (o6 : w6.ownsRow base 3 1 (.slice (some ⟨g6, 0, none⟩) (m + 1) cap6) (m + 1) (ys ++ [.int .i64 s])) (F6 : (Value.slice S m sc).ownBlock = some g6 ∨ g6 = w4.heap.size + 1) (B6 : Below base w w6) :
    HB (w6.setCell ⟨g, 1, none⟩ (.slice (some ⟨g6, 0, none⟩) (m + 1) cap6)) g 60 #[.slice (some ⟨g4, 0, none⟩) (n + 1) cap4, .slice (some ⟨g6, 0, none⟩) (m + 1) cap6] ∧ (w6.setCell ⟨g, 1, none⟩ (.slice (some ⟨g6, 0, none⟩) (m + 1) cap6)).ownsRow base 37 5 (.slice (some ⟨g4, 0, none⟩) (n + 1) cap4) (n + 1) (xs ++ news) ∧
      (w6.setCell ⟨g, 1, none⟩ (.slice (some ⟨g6, 0, none⟩) (m + 1) cap6)).ownsRow base 3 1 (.slice (some ⟨g6, 0, none⟩) (m + 1) cap6) (m + 1) (ys ++ [.int .i64 s]) ∧
      Mv base (Mb g (.slice An n nc) (.slice S m sc)) w (Mb g (.slice (some ⟨g4, 0, none⟩) (n + 1) cap4) (.slice (some ⟨g6, 0, none⟩) (m + 1) cap6)) (w6.setCell ⟨g, 1, none⟩ (.slice (some ⟨g6, 0, none⟩) (m + 1) cap6)) := by
  have P4 := K4 g 60 _ (own_ne ho hh (by decide)) hh
  have P5 : HB (w4.setCell ⟨g, 0, none⟩ (.slice (some ⟨g4, 0, none⟩) (n + 1) cap4)) g 60 #[.slice (some ⟨g4, 0, none⟩) (n + 1) cap4, .slice S m sc] := by simpa using P4.set_ 0 (.slice (some ⟨g4, 0, none⟩) (n + 1) cap4)
  have P6 := K6 g 60 _ (own_ne hs hh (by decide)) P5
  have O5 := own_far o4 (own_ne o4 P4 (by decide)) (far_set w4 g 0 (.slice (some ⟨g4, 0, none⟩) (n + 1) cap4))
  have S5 := put_s5 (u := .slice (some ⟨g4, 0, none⟩) (n + 1) cap4) hh ho hs K4
  have O6 := own_keep O5 fun b cs hb hk => K6 b 37 cs (own_ne2 O5 S5 (by decide) b hb) hk
  have F7 := far_set w6 g 1 (.slice (some ⟨g6, 0, none⟩) (m + 1) cap6)
  refine ⟨by simpa using P6.set_ 1 (.slice (some ⟨g6, 0, none⟩) (m + 1) cap6), own_far O6 (own_ne O6 P6 (by decide)) F7, own_far o6 (own_ne o6 P6 (by decide)) F7, bw_far B6 hbg F7, by rw [F7.size]; exact B6.size, fun b t cs hx hb => ?_⟩
  have n1 : b ≠ g := fun z => hx (.inl z)
  have n2 : some b ≠ (Value.slice An n nc).ownBlock := fun z => hx (.inr (.inl z))
  have n3 : some b ≠ (Value.slice S m sc).ownBlock := fun z => hx (.inr (.inr z))
  have lb := hb.lt
  have l4 := B4.size
  refine ⟨(K6 b t cs n3 ((K4 b t cs n2 hb).far_ n1 (far_set w4 g 0 _))).far_ n1 F7, ?_⟩
  rintro (z | z | z)
  · exact n1 z
  · simp [Value.ownBlock] at z
    rcases F4 with y | y
    · exact n2 (by rw [y, z])
    · omega
  · simp [Value.ownBlock] at z
    rcases F6 with y | y
    · exact n3 (by rw [y, z])
    · omega
set_option maxHeartbeats 8000000 in
theorem put1 (base g n m : Nat) (An S Ak : Option Addr) (nc sc kl kc : Nat) (op qn qd s : Int) (nm : ByteArray) (xs ys : List Value) (w : World) (hn : n ≤ 1000000) (hm : m ≤ 1000000) (hbg : base ≤ g) (hh : HB w g 60 #[.slice An n nc, .slice S m sc]) (ho : w.ownsRow base 37 5 (.slice An n nc) n xs) (hs : w.ownsRow base 3 1 (.slice S m sc) m ys) :
    Calls Try.prog 33 #[.pointer (some ⟨g, 0, none⟩), .agg #[.int .i64 op, .slice Ak kl kc, .int .i64 qn, .int .i64 qd, .string nm], .int .i64 s] w fun e w' => e = .returned (.int .i64 n) ∧ ∃ nv sv, HB w' g 60 #[nv, sv] ∧ w'.ownsRow base 37 5 nv (n + 1) (xs ++ #[.int .i64 op, .slice Ak kl kc, .int .i64 qn, .int .i64 qd, .string nm].toList) ∧ w'.ownsRow base 3 1 sv (m + 1) (ys ++ [.int .i64 s]) ∧ Mv base (Mb g (.slice An n nc) (.slice S m sc)) w (Mb g nv sv) w' := by
  have HH := Lib.hid hh
  have HO := Lib.hid ho
  have HS := Lib.hid hs
  have HBG := Lib.hid hbg
  have lg := hh.lt
  have hbw : base ≤ w.heap.size := by omega
  have X1 : Hid (HB (w.alloc (.cells #[.int .i64 op, .slice Ak kl kc, .int .i64 qn, .int .i64 qd, .string nm] 37)) w.heap.size 37 #[.int .i64 op, .slice Ak kl kc, .int .i64 qn, .int .i64 qd, .string nm]) := Lib.hid (HB.new _ _ _)
  have G1 : Hid (HB (w.alloc (.cells #[.int .i64 op, .slice Ak kl kc, .int .i64 qn, .int .i64 qd, .string nm] 37)) g 60 #[.slice An n nc, .slice S m sc]) := Lib.hid (hh.alloc _)
  obtain ⟨x0, x1, x2, x3, x4⟩ := X1.out.five
  obtain ⟨g0, g1, g2, g3⟩ := G1.out.two
  have lg1 := G1.out.lt
  clear hh ho hs hbg
  go_enter Try.func33, Try.ntmps33
  go_wp2_with fail
  go_region_law (first
    | (refine step_app2 24 37 Try.underlying24 (.agg #[.int .i64 0, .slice none 0 0, .int .i64 0, .int .i64 0, .string ⟨#[]⟩]) 5 64 info56' rfl (by decide) rfl _ _ rfl base (.slice An n nc) n xs rfl ?_ (w.heap.size + 1) #[.int .i64 op, .slice Ak kl kc, .int .i64 qn, .int .i64 qd, .string nm] rfl ?_ rfl ?_ (by omega) (by unfold maxLen; omega) ?_ ?_; (first | (exact own_alloc (own_drewN (own_alloc HO.out _) 1) _) | (exact own_drewN (own_alloc (own_alloc HO.out _) _) 1)); (first | (exact HB.new1 _ _ _ _)); (simp [Value.oneCell']); (simp; omega); intro g4 cap4 w4 hown4 hkp4 hb4 hfr4; have K4 : Hid (∀ g t cs, some g ≠ (Value.slice An n nc).ownBlock → HB w g t cs → HB w4 g t cs) := (fun g t cs h1 h2 => hkp4 g t cs h1 (by first | exact (((h2.alloc _).drewN 1)).alloc _ | exact ((h2.alloc _).alloc _).drewN 1)); have P4 := Lib.hid (K4.out g 60 _ (own_ne HO.out HH.out (by decide)) HH.out); have q0 := P4.out.two.1; have q1 := P4.out.two.2.1; have q2 := P4.out.two.2.2.1; have q3 := P4.out.two.2.2.2; have lg4 := P4.out.lt; have G4 : Hid (Below base w w4) := Lib.hid (hb4 w (by first | exact Below.alloc (below_dn (Below.alloc (Below.refl _ _) (by omega) _) 1) (by simp; omega) _ | exact below_dn (Below.alloc (Below.alloc (Below.refl _ _) (by omega) _) (by simp; omega) _) 1)); have F4 : Hid ((Value.slice An n nc).ownBlock = some g4 ∨ g4 = w.heap.size + 1 + 1) := Lib.hid (by simpa using hfr4.out); clear hkp4 hb4 hfr4))
  all_goals
    have S5 := Lib.hid (put_s5 (u := .slice (some ⟨g4, 0, none⟩) (n + 1) cap4) HH.out HO.out HS.out K4.out)
    have P5 : Hid (HB (w4.setCell ⟨g, 0, none⟩ (.slice (some ⟨g4, 0, none⟩) (n + 1) cap4)) g 60 #[.slice (some ⟨g4, 0, none⟩) (n + 1) cap4, .slice S m sc]) := Lib.hid (by simpa using P4.out.set_ 0 (.slice (some ⟨g4, 0, none⟩) (n + 1) cap4))
    have G5 := Lib.hid (bw_far G4.out HBG.out (far_set w4 g 0 (.slice (some ⟨g4, 0, none⟩) (n + 1) cap4)))
    have hb4 : base ≤ w4.heap.size := by have := G4.out.size; omega
    clear q0 q1 q2 q3
    obtain ⟨q0, q1, q2, q3⟩ := P5.out.two
    go_wp2_with (at_builtin; refine wpl_app2 22 3 Try.underlying22 (.int .i64 0) 1 8 info3' rfl (by decide) rfl _ _ rfl base (.slice S m sc) m ys rfl (own_alloc S5.out _) w4.heap.size #[.int .i64 s] rfl (by simpa using HB.new (w4.setCell ⟨g, 0, none⟩ (.slice (some ⟨g4, 0, none⟩) (n + 1) cap4)) 3 #[.int .i64 s]) rfl (by simp [Value.oneCell']) (by omega) (by unfold maxLen; omega) (by simp; omega) ?_)
    intro g6 cap6 w6 hown6 hkp6 hb6 hfr6
    have K6 : Hid (∀ b t cs, some b ≠ (Value.slice S m sc).ownBlock → HB (w4.setCell ⟨g, 0, none⟩ (.slice (some ⟨g4, 0, none⟩) (n + 1) cap4)) b t cs → HB w6 b t cs) := Lib.hid (fun b t cs h1 h2 => hkp6 b t cs h1 (h2.alloc _))
    have P6 := Lib.hid (K6.out g 60 _ (own_ne HS.out HH.out (by decide)) P5.out)
    have F6 : Hid ((Value.slice S m sc).ownBlock = some g6 ∨ g6 = w4.heap.size + 1) := Lib.hid (by simpa using hfr6.out)
    have G6 : Hid (Below base w w6) := Lib.hid (hb6 w (Below.alloc G5.out (by simp; omega) _))
    have FIN := Lib.hid (put_fin HBG.out HH.out HO.out HS.out K4.out hown4.out F4.out G4.out K6.out hown6.out F6.out G6.out)
    clear hkp6 hb6 hfr6 q0 q1 q2 q3 G5 S5 P5 K6 F6 G6 F4 G4 K4 hown4
    obtain ⟨q0, q1, q2, q3⟩ := P6.out.two
    have lg6 := P6.out.lt
    obtain ⟨y0, y1, _, _⟩ := FIN.out.1.two
    go_wp2_with fail
    go_ret
    exact ⟨by simp, _, _, FIN.out⟩
theorem put_any (Y : Nat → Prop) (base g : Nat) (nv sv kv : Value) (ps : List (Nd × Value)) (ss : List Int) (q : Nd) (s : Int) (w : World) (hn : ps.length ≤ 1000000) (hm : ss.length ≤ 1000000) (hM : Mk Y base g nv sv w ps ss) (hk : Kat w (MbY Y g nv sv) kv q.kids) (hnm : q.name.size ≤ maxLen) :
    Calls Try.prog 33 #[.pointer (some ⟨g, 0, none⟩), .agg #[.int .i64 q.op, kv, .int .i64 q.n, .int .i64 q.d, .string q.name], .int .i64 s] w fun e w' => e = .returned (.int .i64 ps.length) ∧ ∃ nv' sv', Mk Y base g nv' sv' w' (ps ++ [(q, kv)]) (ss ++ [s]) ∧ Mv base (Mb g nv sv) w (Mb g nv' sv') w' := by
  obtain ⟨hb, hh, ho, hs, hp⟩ := hM
  obtain ⟨An, nc, rfl⟩ := own_val ho
  obtain ⟨S, sc, rfl⟩ := own_val hs
  have hk' := hk
  obtain ⟨Ak, kc, rfl, _, _, _⟩ := hk
  refine (put1 base g ps.length ss.length An S Ak nc sc q.kids.length kc q.op q.n q.d s q.name _ _ w hn hm hb hh ho hs).mono ?_
  rintro e w' ⟨rfl, nv, sv, h1, h2, h3, h4⟩
  refine ⟨rfl, nv, sv, ⟨hb, h1, by simpa [ndV] using h2, by simpa [intV] using h3, fun p hpp => ?_⟩, h4⟩
  rcases List.mem_append.1 hpp with z | z
  · exact ⟨(hp p z).1, (hp p z).2.mv (mvY Y h4)⟩
  · simp at z
    subst z
    exact ⟨hnm, hk'.mv (mvY Y h4)⟩
end Go.Proofs.Ytjjjgffpmghfgaa
