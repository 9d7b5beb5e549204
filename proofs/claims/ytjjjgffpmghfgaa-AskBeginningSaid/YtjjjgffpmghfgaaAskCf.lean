/-
  Asks that are made of raw numbers: a number, a node more.
-/
import Derived.Test.YtjjjgffpmghfgaaAskCe
namespace Go.Proofs.Ytjjjgffpmghfgaa
open Go.RowKit

/-- What a look for a number yields. -/
def NumQ (Y : Nat → Prop) (base g : Nat) (nv sv : Value) (w : World) (ss : List Int) (e : Ending) (w' : World) : Prop := ∃ sort, (sort = 2 ∨ sort = 3) ∧ LastQ Y base g nv sv w ss sort e w'
set_option maxHeartbeats 2000000 in
theorem mknumber_any (Y : Nat → Prop) (base g : Nat) (nv sv : Value) (ss : List Int) (n deep : Int) (w : World) (hl : ss.length ≤ 900) (hM : Mo Y base g nv sv w ss) :
    Calls Try.prog 35 #[.pointer (some ⟨g, 0, none⟩), .int .i64 n, .int .i64 deep] w (NumQ Y base g nv sv w ss) := by
  have HP5 : Hid (∀ a W, Calls Try.prog 9 #[.int .i64 a, .int .i64 5] W fun e w' => ∃ r : Int, e = .returned (.int .i64 r) ∧ 0 ≤ r ∧ r < 5 ∧ w' = W) := Lib.hid (fun a W => pick_rng a 5 (by decide) (by decide) W)
  have X2 : Hid (∀ back, Calls Try.prog 34 #[.pointer (some ⟨g, 0, none⟩), .int .i64 2, .int .i64 back, .int .i64 deep] w (fun e w' => ∃ j : Nat, e = .returned (.int .i64 j) ∧ Hid (NumQ Y base g nv sv w ss (.returned (.int .i64 j)) w'))) := Lib.hid (fun back => (last_any Y base g nv sv ss 2 back deep w (by simp) hl hM).mono fun e w' h => by
    obtain ⟨j, more, rfl, h2⟩ := h
    exact ⟨j, rfl, Lib.hid ⟨2, .inl rfl, j, more, rfl, h2⟩⟩)
  have X3 : Hid (∀ back, Calls Try.prog 34 #[.pointer (some ⟨g, 0, none⟩), .int .i64 3, .int .i64 back, .int .i64 deep] w (fun e w' => ∃ j : Nat, e = .returned (.int .i64 j) ∧ Hid (NumQ Y base g nv sv w ss (.returned (.int .i64 j)) w'))) := Lib.hid (fun back => (last_any Y base g nv sv ss 3 back deep w (by simp) hl hM).mono fun e w' h => by
    obtain ⟨j, more, rfl, h2⟩ := h
    exact ⟨j, rfl, Lib.hid ⟨3, .inr rfl, j, more, rfl, h2⟩⟩)
  clear hM hl
  generalize NumQ Y base g nv sv w ss = Q0 at *
  go_enter Try.func35, Try.ntmps35
  go_wp2_with fail
  refine (HP5.out _ _).mono ?_
  rintro e w1 ⟨r, rfl, r0, r1, rfl⟩
  by_cases hr : r = 0
  · subst hr
    go_wp2_with fail
    refine (X3.out _).mono ?_
    rintro e w2 ⟨j, rfl, HQ⟩
    go_wp2_with fail
    first | exact HQ.out | (go_ret; exact HQ.out)
  · have t1 : (r == 0) = false := by simpa using hr
    clear hr
    go_wp2_with fail
    refine (X2.out _).mono ?_
    rintro e w2 ⟨j, rfl, HQ⟩
    go_wp2_with fail
    first | exact HQ.out | (go_ret; exact HQ.out)
theorem mb_lt {Y : Nat → Prop} {base g : Nat} {nv sv : Value} {ss : List Int} {w : World} (h : Mo Y base g nv sv w ss) {b : Nat} (hb : Mb g nv sv b) : b < w.heap.size := by
  obtain ⟨ps, ⟨_, h1, h2, h3, _⟩, _⟩ := h
  rcases hb with rfl | z | z
  · exact h1.lt
  · rcases h2.2 with ⟨rfl, _⟩ | ⟨g', cap, cur, rfl, _, hh, _⟩
    · simp [Value.ownBlock] at z
    · simp [Value.ownBlock] at z; subst z; exact HB.lt hh
  · rcases h3.2 with ⟨rfl, _⟩ | ⟨g', cap, cur, rfl, _, hh, _⟩
    · simp [Value.ownBlock] at z
    · simp [Value.ownBlock] at z; subst z; exact HB.lt hh
/-- Kids in memory that was just made. -/
theorem kat_new {base g : Nat} {nv sv : Value} {ss : List Int} {w : World} (h : Mo No base g nv sv w ss) (ks : List Int) (hk : ks.length ≤ maxLen) : Kat (w.alloc (.cells (intV ks).toArray 3)) (MbY No g nv sv) (.slice (some ⟨w.heap.size, 0, none⟩) ks.length ks.length) ks := by
  refine ⟨_, _, rfl, Nat.le_refl _, hk, fun _ => ⟨w.heap.size, 0, _, rfl, HB.new _ _ _, fun z => ?_, fun k hk => ?_⟩⟩
  · rcases z with z | z
    · have := mb_lt h z
      omega
    · exact z.elim
  · rw [Nat.zero_add]
    simp [intV, nth, List.getD, hk]
/-- A node whose kids were just made is put. -/
theorem put_new {base g : Nat} {nv sv : Value} {ss : List Int} (q : Nd) (s : Int) {W : World} (hl : ss.length ≤ 1000000) (hM : Mo No base g nv sv W ss) (hk : q.kids.length ≤ 8) (hnm : q.name.size ≤ maxLen) (hq : ndC dqs q ss.length ss = 0 ∧ ndT dqs q ss = s) :
    Calls Try.prog 33 #[.pointer (some ⟨g, 0, none⟩), .agg #[.int .i64 q.op, .slice (some ⟨W.heap.size, 0, none⟩) q.kids.length q.kids.length, .int .i64 q.n, .int .i64 q.d, .string q.name], .int .i64 s] (W.alloc (.cells (intV q.kids).toArray 3)) fun e w' => e = .returned (.int .i64 ss.length) ∧ Hid (More No base g nv sv W ss [s] w') :=
  put_mo q s hl hM (new_below _ _) (kat_new hM q.kids (by unfold maxLen; omega)) hnm hq
/-- The sorts of kids. -/
theorem kso1 {ss : List Int} {j : Nat} {s : Int} (h : nth ss j = s) : kSo ss [(j : Int)] = [s] := by simp [kSo, h]
theorem kso2 {ss : List Int} {j k : Nat} {s t : Int} (h : nth ss j = s) (h' : nth ss k = t) : kSo ss [(j : Int), (k : Int)] = [s, t] := by simp [kSo, h, h']
theorem kso3 {ss : List Int} {i j k : Nat} {r s t : Int} (h0 : nth ss i = r) (h : nth ss j = s) (h' : nth ss k = t) : kSo ss [(i : Int), (j : Int), (k : Int)] = [r, s, t] := by simp [kSo, h0, h, h']
/-- One more step of the maker. -/
theorem More.step {Y : Nat → Prop} {base g : Nat} {nv sv nv1 sv1 : Value} {ss m1 m2 : List Int} {w w1 w2 : World} (h1 : Mv base (Mb g nv sv) w (Mb g nv1 sv1) w1) (k : More Y base g nv1 sv1 w1 (ss ++ m1) m2 w2) : More Y base g nv sv w ss (m1 ++ m2) w2 := by
  obtain ⟨nv2, sv2, h2, h3⟩ := k
  exact ⟨nv2, sv2, by rw [← List.append_assoc]; exact h2, h1.trans h3⟩
/-- A node without a name and without numbers, of kids that are there. -/
theorem nd_plain {ss : List Int} (op : Int) (ks : List Int) (s : Int) (h1 : 1 ≤ op ∧ op ≤ 25 ∧ op ≠ 9 ∧ op ≠ 10 ∧ op ≠ 12 ∧ op ≠ 15 ∧ op ≠ 23) (h3 : ks.length ≤ 8) (h4 : kcN op = -1 ∨ (ks.length : Int) = kcN op) (h5 : ∀ k ∈ ks, 0 ≤ k ∧ k < ss.length) (h7 : srt op 0 0 (kSo ss ks) = s) (h8 : s ≠ 0) :
    ndC dqs ⟨op, ks, 0, 0, ⟨#[]⟩⟩ ss.length ss = 0 ∧ ndT dqs ⟨op, ks, 0, 0, ⟨#[]⟩⟩ ss = s := by
  obtain ⟨a1, a2, a3, a4, a5, a6, a7⟩ := h1
  refine nd_ok ⟨a1, a2⟩ (fun z => absurd z a3) h3 (by simpa [kWant, a3] using h4) h5 ?_ (by simpa [ndT, kDs, a3] using h7) h8
  simp [flC, a4, a5, a6]
end Go.Proofs.Ytjjjgffpmghfgaa
