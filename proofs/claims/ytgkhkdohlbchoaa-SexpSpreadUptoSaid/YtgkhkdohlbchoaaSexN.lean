/-
  What the reader has in memory behind taking in one expression more.
-/
import Derived.Test.YtgkhkdohlbchoaaSexL
namespace Go.Proofs.Ytgkhkdohlbchoaa
open Go.RowKit
section
variable {P : Program} {w : World} {ops : Array Oper} {rest : List Oper} {o : Oper} {a : Act} {K : Act → World → Prop} {Q : Exit → Act → World → Prop} {E : Prop}
/-- An append of one element at a step of a region that draws its order: the row's block is the old one, or new. -/
theorem step_app2 (t e : TypeId) (hut : P.underlying t = some (.slice e)) (z : Value) (sz by_ : Nat) (hinfo : (P.info? e).map (fun i => (i.zero, i.size, i.bytes)) = some (some z, sz, by_)) (hzs : z.cells.size = sz) (hsz : 0 < sz)
    (hgd : o.guard = none) (s x : Operand) (ho : o.op = .call { callee := .builtin .append, args := #[s, x], argTypes := #[t, t] })
    (base : Nat) (v : Value) (n : Nat) (xs : List Value) (hs : a.eval s = v) (hown : w.ownsRow base e sz v n xs) (gb : Nat) (news : Array Value) (hx : a.eval x = .slice (some ⟨gb, 0, none⟩) 1 1) (hnews : HB w gb e news) (hl : news.size = sz) (h1 : ∀ u ∈ news.toList, u.oneCell' = true)
    (hn : (n + 1) * by_ ≤ 140737488355328) (hn2 : n + 1 ≤ maxLen) (hbase : base ≤ w.heap.size)
    (h : ∀ g cap w', Hid (w'.ownsRow base e sz (.slice (some ⟨g, 0, none⟩) (n + 1) cap) (n + 1) (xs ++ news.toList)) → (∀ g t cs, some g ≠ v.ownBlock → HB w g t cs → HB w' g t cs) → (∀ W, Below base W w → Below base W w') → Hid (v.ownBlock = some g ∨ g = w.heap.size) → K (a.put o.dst (.slice (some ⟨g, 0, none⟩) (n + 1) cap)) w') :
    if Region.wanted o (yielded ops a.tmps) = true then Oper.wp P o a w K Q else E := by
  obtain ⟨i0, hi0, hz0, hz1, hz2⟩ := info_parts hinfo
  refine step_append_lies w hgd s x t ho base e i0 z sz by_ hut hi0 hz0 hz1 hz2 hzs hsz v n xs hs hown ⟨gb, 0, none⟩ 1 1 news.toList hx (by simp [hl]) (World.news_of_block (cs := news) hnews) h1 (by omega) hn2 hn hbase _ rfl ?_
  intro g cap w' hown' hg hf _
  exact h g cap w' (Lib.hid hown') (fun g' t cs hne hb => hb.grown hg hne) (fun W hW => bw_grown hbase hW hown hg) hf
end
/-- What an expression that is taken in is in memory. -/
def Kid (w : World) (S : List Nat) (k : Fo) (A : Option Addr) (c : Nat) : Prop := k.len ≤ c ∧ c ≤ maxLen ∧ (0 < k.len → ∃ b cs', A = some ⟨b, 0, none⟩ ∧ b ∉ S ∧ HB w b 42 cs' ∧ k.Rel w S cs'.toList)
theorem Kid.keep {w w' : World} {S S' : List Nat} {k : Fo} {A : Option Addr} {c : Nat} (h : Kid w S k A c) (hk : ∀ b cs, b ∉ S → HB w b 42 cs → HB w' b 42 cs ∧ b ∉ S') : Kid w' S' k A c := by
  refine ⟨h.1, h.2.1, fun z => ?_⟩
  obtain ⟨b, cs', e, hb, hh, hr⟩ := h.2.2 z
  obtain ⟨q1, q2⟩ := hk b cs' hb hh
  exact ⟨b, cs', e, q2, q1, Fo.Rel.keep hk k _ hr⟩
theorem Kid.ke {w w' : World} {S : List Nat} {k : Fo} {A : Option Addr} {c : Nat} (h : Kid w S k A c) (kk : Ke w w') : Kid w' S k A c := h.keep (fun _ _ h1 h2 => ⟨kk _ _ h2, h1⟩)
theorem own_hb {w : World} {B g n cap : Nat} {e : TypeId} {xs : List Value} (h : w.ownsRow B e 1 (.slice (some ⟨g, 0, none⟩) n cap) n xs) (h0 : 0 < n) {j : Nat} {u : Value} (hj : xs[j]? = some u) : ∃ cur, HB w g e cur ∧ cur[j]? = some u ∧ B ≤ g := by
  rcases h.2 with ⟨hv, h1⟩ | ⟨g', cap', cur, hv, hb, hh, hc, hm, hsz, htk⟩
  · omega
  · injection hv with hv _ _
    injection hv with hv
    injection hv with hv _ _
    subst hv
    refine ⟨cur, hh, ?_, hb⟩
    rw [← htk, List.getElem?_take] at hj
    split at hj
    · simpa using hj
    · cases hj
/-- The last of a row's one-cell elements is another one. -/
theorem own_last {w : World} {B g n cap : Nat} {e : TypeId} {xs : List Value} {u u' : Value} (h : w.ownsRow B e 1 (.slice (some ⟨g, 0, none⟩) (n + 1) cap) (n + 1) (xs ++ [u])) :
    (w.setCell ⟨g, n, none⟩ u').ownsRow B e 1 (.slice (some ⟨g, 0, none⟩) (n + 1) cap) (n + 1) (xs ++ [u']) := by
  have hl := h.1
  simp at hl
  rcases h.2 with ⟨hv, h1⟩ | ⟨g', cap', cur, hv, hb, hh, hc, hm, hsz, htk⟩
  · omega
  · injection hv with hv _ hv2
    injection hv with hv
    injection hv with hv _ _
    subst hv hv2
    refine ⟨by simp [hl], .inr ⟨g, cap, _, rfl, hb, HB.set_ hh n u', hc, hm, by simpa using hsz, ?_⟩⟩
    rw [Array.toList_setIfInBounds, List.take_set, htk, List.set_append_right _ _ (by omega)]
    simp [hl]
/-- The last of a row's three-cell elements is another one. -/
theorem own_last3 {w : World} {B g n cap : Nat} {e : TypeId} {xs : List Value} {u1 u2 u3 v1 v2 v3 : Value} (h : w.ownsRow B e 3 (.slice (some ⟨g, 0, none⟩) (n + 1) cap) (n + 1) (xs ++ [u1, u2, u3])) :
    (((w.setCell ⟨g, n * 3, none⟩ v1).setCell ⟨g, n * 3 + 1, none⟩ v2).setCell ⟨g, n * 3 + 2, none⟩ v3).ownsRow B e 3 (.slice (some ⟨g, 0, none⟩) (n + 1) cap) (n + 1) (xs ++ [v1, v2, v3]) := by
  have hl := h.1
  simp at hl
  rcases h.2 with ⟨hv, h1⟩ | ⟨g', cap', cur, hv, hb, hh, hc, hm, hsz, htk⟩
  · omega
  · injection hv with hv _ hv2
    injection hv with hv
    injection hv with hv _ _
    subst hv hv2
    refine ⟨by simp; omega, .inr ⟨g, cap, _, rfl, hb, ((HB.set_ hh (n * 3) v1).set_ (n * 3 + 1) v2).set_ (n * 3 + 2) v3, hc, hm, by simpa using hsz, ?_⟩⟩
    rw [Array.toList_setIfInBounds, Array.toList_setIfInBounds, Array.toList_setIfInBounds, List.take_set, List.take_set, List.take_set, htk]
    have e0 : n * 3 = xs.length := by omega
    rw [e0, List.set_append_right _ _ (by omega), List.set_append_right _ _ (by omega), List.set_append_right _ _ (by omega)]
    simp
theorem own_mem {w : World} {B : Nat} {S : List Nat} {st : List Fo} : ∀ {vs : List Value}, Stk w B S st vs → ∀ g ∈ act vs, ∃ cs, HB w g 42 cs := by
  induction st with
  | nil => intro vs h g hg; cases vs with
    | nil => simp [act] at hg
    | cons _ _ => cases h
  | cons f st ih => intro vs h g hg; cases vs with
    | nil => cases h
    | cons v vs =>
      unfold act at hg
      rw [List.filterMap_cons] at hg
      split at hg
      · exact ih h.2 g hg
      · rename_i b hb
        rcases List.mem_cons.1 hg with rfl | z
        · obtain ⟨xs, ⟨_, h2⟩, _⟩ := h.1
          rcases h2 with ⟨rfl, _⟩ | ⟨g', cap, cur, rfl, _, hh, _⟩
          · simp [Value.ownBlock] at hb
          · simp [Value.ownBlock] at hb; subst hb; exact ⟨cur, hh⟩
        · exact ih h.2 g z
theorem PS.taken {w2 w5 : World} {B p i n : Nat} {s : ByteArray} {f : Fo} {st : List Fo} {vs xs : List Value} {v : Value} {go cap : Nat} {x : ByteArray} {l : Bool} {k : Fo} {A : Option Addr} {c g4 cap4 : Nat}
    (hB : B ≤ p) (hn : (act (v :: vs)).Nodup) (hk : Stk w2 B (act (v :: vs)) (f :: st) (v :: vs)) (hlen : st.length = n) (hkid : Kid w2 (act (v :: vs)) k A c) (hx : x.size ≤ maxLen) (hxl : xs.length = f.len * 3) (hxr : f.Rel w2 (act (v :: vs)) xs)
    (P5 : HB w5 p 55 #[.string s, .int .i64 i, .slice (some ⟨go, 0, none⟩) (n + 1) cap]) (O5 : w5.ownsRow B 23 1 (.slice (some ⟨go, 0, none⟩) (n + 1) cap) (n + 1) (.slice (some ⟨g4, 0, none⟩) (f.len + 1) cap4 :: vs).reverse)
    (K5 : ∀ b cs, some b ≠ v.ownBlock → HB w2 b 42 cs → HB w5 b 42 cs) (hown5 : w5.ownsRow B 42 3 (.slice (some ⟨g4, 0, none⟩) (f.len + 1) cap4) (f.len + 1) (xs ++ [.string x, .bool l, .slice A k.len c])) (hfr : v.ownBlock = some g4 ∨ w2.heap.size ≤ g4) :
    PS w5 B p s i (f.snoc x l k :: st) := by
  have ha : act (.slice (some ⟨g4, 0, none⟩) (f.len + 1) cap4 :: vs) = g4 :: act vs := rfl
  have hnd : (act vs).Nodup ∧ ∀ g ∈ act vs, some g ≠ v.ownBlock := by
    unfold act at hn ⊢
    rw [List.filterMap_cons] at hn
    split at hn
    · rename_i e; exact ⟨hn, fun g _ z => by rw [e] at z; cases z⟩
    · rename_i b e
      obtain ⟨h1, h2⟩ := List.nodup_cons.1 hn
      exact ⟨h2, fun g hg z => by rw [e] at z; cases z; exact h1 hg⟩
  have hsub : ∀ b, b ∉ act (v :: vs) → b ∉ act vs ∧ some b ≠ v.ownBlock := fun b hb => by
    refine ⟨fun z => hb ?_, fun z => hb ?_⟩
    · unfold act at z ⊢
      rw [List.filterMap_cons]
      split
      · exact z
      · exact List.mem_cons_of_mem _ z
    · simp [act, ← z]
  have hkk : ∀ b cs, b ∉ act (v :: vs) → HB w2 b 42 cs → HB w5 b 42 cs ∧ b ∉ g4 :: act vs := fun b cs hb hh => by
    obtain ⟨h1, h2⟩ := hsub b hb
    refine ⟨K5 b cs h2 hh, fun z => ?_⟩
    rcases List.mem_cons.1 z with rfl | z
    · rcases hfr with e | e
      · exact h2 e.symm
      · have := hh.lt; omega
    · exact h1 z
  refine ⟨go, cap, .slice (some ⟨g4, 0, none⟩) (f.len + 1) cap4 :: vs, hB, by rw [List.length_cons, hlen]; exact P5, by rw [List.length_cons, hlen]; exact O5, ?_, ?_⟩
  · rw [ha]
    refine List.nodup_cons.2 ⟨fun z => ?_, hnd.1⟩
    rcases hfr with e | e
    · exact hnd.2 g4 z e.symm
    · obtain ⟨cs, hh⟩ := own_mem hk.2 g4 z
      have := hh.lt; omega
  · rw [ha]
    refine ⟨⟨_, by rw [Fo.len_snoc]; exact hown5, Fo.Rel.snoc f hx hkid.1 hkid.2.1 (hkid.keep hkk).2.2 xs hxl (Fo.Rel.keep hkk f xs hxr)⟩, hk.2.keep hkk (fun g cs hg hh => K5 g cs (hnd.2 g hg) hh)⟩
theorem own_k {w w' : World} {B n sz : Nat} {e : TypeId} {v : Value} {x : List Value} (h : w.ownsRow B e sz v n x) (hk : ∀ g cs, v.ownBlock = some g → HB w g e cs → HB w' g e cs) : w'.ownsRow B e sz v n x := by
  refine ⟨h.1, ?_⟩
  rcases h.2 with z | ⟨g, cap, cur, rfl, hb, hh, r⟩
  · exact .inl z
  · exact .inr ⟨g, cap, cur, rfl, hb, hk g cur rfl hh, r⟩
theorem hb_ne {w : World} {g g' : Nat} {t t' : TypeId} {cs cs' : Array Value} (h : HB w g t cs) (h' : HB w g' t' cs') (ht : t ≠ t') : g ≠ g' := by
  rintro rfl
  unfold HB at h h'
  rw [h] at h'
  injection h' with h'
  injection h' with _ h'
  exact ht h'
section
variable {w w2 w4 : World} {B p i n : Nat} {s : ByteArray} {f : Fo} {st : List Fo} {vs xs : List Value} {A' : Option Addr} {c' : Nat} {go cap : Nat} {x : ByteArray} {l : Bool} {k : Fo} {A : Option Addr} {c g4 cap4 : Nat} {cur : Array Value}
theorem add_false (hB : B ≤ p) (hBg : B ≤ go) (hn : (act (.slice A' f.len c' :: vs)).Nodup) (hk : Stk w2 B (act (.slice A' f.len c' :: vs)) (f :: st) (.slice A' f.len c' :: vs)) (hlen : st.length = n) (hkid : Kid w2 (act (.slice A' f.len c' :: vs)) k A c) (hx : x.size ≤ maxLen)
    (hxo : w2.ownsRow B 42 3 (.slice A' f.len c') f.len xs) (hxr : f.Rel w2 (act (.slice A' f.len c' :: vs)) xs) (K4 : ∀ g t cs, some g ≠ (Value.slice A' f.len c').ownBlock → HB w2 g t cs → HB w4 g t cs) (P4 : HB w4 p 55 #[.string s, .int .i64 i, .slice (some ⟨go, 0, none⟩) (n + 1) cap]) (Q4 : HB w4 go 23 cur) (hgo : HB w2 go 23 cur)
    (ho : w2.ownsRow B 23 1 (.slice (some ⟨go, 0, none⟩) (n + 1) cap) (n + 1) (.slice A' f.len c' :: vs).reverse) (hown4 : w4.ownsRow B 42 3 (.slice (some ⟨g4, 0, none⟩) (f.len + 1) cap4) (f.len + 1) (xs ++ [.string x, .bool l, .slice A k.len c])) (hfr : (Value.slice A' f.len c').ownBlock = some g4 ∨ w2.heap.size ≤ g4) (G4 : Below B w w4) :
    PS (w4.setCell ⟨go, n, none⟩ (.slice (some ⟨g4, 0, none⟩) (f.len + 1) cap4)) B p s i (f.snoc x l k :: st) ∧ Below B w (w4.setCell ⟨go, n, none⟩ (.slice (some ⟨g4, 0, none⟩) (f.len + 1) cap4)) := by
  refine ⟨PS.taken hB hn hk hlen hkid hx hxo.1 hxr (P4.far (hb_ne P4 Q4 (by decide)) _) ?_ (fun b cs h1 h2 => ?_) (own_far hown4 (own_ne hown4 Q4 (by decide)) (far_set _ _ _ _)) hfr, bw_far G4 hBg (far_set _ _ _ _)⟩
  · rw [List.reverse_cons] at ho ⊢
    refine own_last (own_k ho (fun g cs e hh => K4 g 23 cs ?_ hh))
    simp only [Value.ownBlock, Option.some.injEq] at e
    subst e
    exact own_ne hxo hgo (by decide)
  · have := K4 b 42 cs h1 h2
    exact this.far (hb_ne this Q4 (by decide)) _
theorem add_true (hB : B ≤ p) (hBg : B ≤ go) (hBg4 : B ≤ g4) (hn : (act (.slice A' f.len c' :: vs)).Nodup) (hk : Stk w2 B (act (.slice A' f.len c' :: vs)) (f :: st) (.slice A' f.len c' :: vs)) (hlen : st.length = n) (hkid : Kid w2 (act (.slice A' f.len c' :: vs)) k A c) (hx : x.size ≤ maxLen)
    (hxo : w2.ownsRow B 42 3 (.slice A' f.len c') f.len xs) (hxr : f.Rel w2 (act (.slice A' f.len c' :: vs)) xs) (K4 : ∀ g t cs, some g ≠ (Value.slice A' f.len c').ownBlock → HB w2 g t cs → HB w4 g t cs) (P4 : HB w4 p 55 #[.string s, .int .i64 i, .slice (some ⟨go, 0, none⟩) (n + 1) cap]) (Q4 : HB w4 go 23 cur) (hgo : HB w2 go 23 cur)
    (ho : w2.ownsRow B 23 1 (.slice (some ⟨go, 0, none⟩) (n + 1) cap) (n + 1) (.slice A' f.len c' :: vs).reverse) (hown4 : w4.ownsRow B 42 3 (.slice (some ⟨g4, 0, none⟩) (f.len + 1) cap4) (f.len + 1) (xs ++ [.string ⟨#[]⟩, .bool false, .slice none 0 0])) (hfr : (Value.slice A' f.len c').ownBlock = some g4 ∨ w2.heap.size ≤ g4) (G4 : Below B w w4) :
    PS ((((w4.setCell ⟨go, n, none⟩ (.slice (some ⟨g4, 0, none⟩) (f.len + 1) cap4)).setCell ⟨g4, f.len * 3, none⟩ (.string x)).setCell ⟨g4, f.len * 3 + 1, none⟩ (.bool l)).setCell ⟨g4, f.len * 3 + 2, none⟩ (.slice A k.len c)) B p s i (f.snoc x l k :: st) ∧
      Below B w ((((w4.setCell ⟨go, n, none⟩ (.slice (some ⟨g4, 0, none⟩) (f.len + 1) cap4)).setCell ⟨g4, f.len * 3, none⟩ (.string x)).setCell ⟨g4, f.len * 3 + 1, none⟩ (.bool l)).setCell ⟨g4, f.len * 3 + 2, none⟩ (.slice A k.len c)) := by
  have hb4 : ∃ cs, HB w4 g4 42 cs := by
    rcases hown4.2 with ⟨_, h0⟩ | ⟨g', cap', cur', hv, _, hh, _⟩
    · omega
    · injection hv with hv _ _
      injection hv with hv
      injection hv with hv _ _
      subst hv
      exact ⟨cur', hh⟩
  obtain ⟨cs4, hb4⟩ := hb4
  have F3 := ((far_set (w4.setCell ⟨go, n, none⟩ (.slice (some ⟨g4, 0, none⟩) (f.len + 1) cap4)) g4 (f.len * 3) (.string x)).trans (far_set _ g4 (f.len * 3 + 1) (.bool l))).trans (far_set _ g4 (f.len * 3 + 2) (.slice A k.len c))
  have hgg : go ≠ g4 := hb_ne Q4 hb4 (by decide)
  have hpg : p ≠ g4 := hb_ne P4 hb4 (by decide)
  have hO5 := own_far hown4 (own_ne hown4 Q4 (by decide)) (far_set w4 go n (.slice (some ⟨g4, 0, none⟩) (f.len + 1) cap4))
  refine ⟨PS.taken hB hn hk hlen hkid hx hxo.1 hxr ((P4.far (hb_ne P4 Q4 (by decide)) _).far_ hpg F3) ?_ (fun b cs h1 h2 => ?_) (own_last3 hO5) hfr, bw_far (bw_far G4 hBg (far_set _ _ _ _)) hBg4 F3⟩
  · rw [List.reverse_cons] at ho ⊢
    refine own_far (own_last (own_k ho (fun g cs e hh => K4 g 23 cs ?_ hh))) (by simpa [Value.ownBlock] using fun z => hgg z.symm) F3
    simp only [Value.ownBlock, Option.some.injEq] at e
    subst e
    exact own_ne hxo hgo (by decide)
  · have := K4 b 42 cs h1 h2
    refine (this.far (hb_ne this Q4 (by decide)) _).far_ (fun z => ?_) F3
    subst z
    rcases hfr with e | e
    · exact h1 e.symm
    · have := h2.lt; omega
end
theorem own_cells3 {w : World} {B g n cap : Nat} {e : TypeId} {xs : List Value} {u1 u2 u3 : Value} (h : w.ownsRow B e 3 (.slice (some ⟨g, 0, none⟩) (n + 1) cap) (n + 1) (xs ++ [u1, u2, u3])) :
    ∃ cs, HB w g e cs ∧ cs[n * 3]? = some u1 ∧ cs[n * 3 + 1]? = some u2 ∧ cs[n * 3 + 2]? = some u3 ∧ B ≤ g := by
  have hl := h.1
  simp at hl
  rcases h.2 with ⟨hv, h1⟩ | ⟨g', cap', cur, hv, hb, hh, hc, hm, hsz, htk⟩
  · omega
  · injection hv with hv _ hv2
    injection hv with hv
    injection hv with hv _ _
    subst hv hv2
    have e0 : xs.length = n * 3 := by omega
    have q : ∀ j u, j < 3 → [u1, u2, u3][j]? = some u → cur[n * 3 + j]? = some u := fun j u hj hu => by
      have := List.getElem?_take_of_lt (l := cur.toList) (show n * 3 + j < (n + 1) * 3 by omega)
      rw [htk, List.getElem?_append_right (by omega), e0, show n * 3 + j - n * 3 = j by omega, hu] at this
      simpa using this.symm
    exact ⟨cur, hh, q 0 u1 (by omega) rfl, q 1 u2 (by omega) rfl, q 2 u3 (by omega) rfl, hb⟩
end Go.Proofs.Ytgkhkdohlbchoaa
