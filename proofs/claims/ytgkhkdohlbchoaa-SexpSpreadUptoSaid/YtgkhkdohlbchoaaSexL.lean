/-
  The reader's depth, its beginning of a list, its comments.
-/
import Derived.Test.YtgkhkdohlbchoaaSexK
import Derived.Test.YtgkhkdohlbchoaaShelf
namespace Go.Proofs.Ytgkhkdohlbchoaa
open Go.RowKit

section
variable {w w' : World} {B p : Nat} {s : ByteArray} {i : Nat} {st : List Fo}
theorem PS.cell (h : PS w B p s i st) : ∃ go cap, B ≤ p ∧ HB w p 55 #[.string s, .int .i64 i, .slice (some ⟨go, 0, none⟩) st.length cap] := by
  obtain ⟨go, cap, vs, h1, h2, _⟩ := h
  exact ⟨go, cap, h1, h2⟩
theorem PS.pos (h : PS w B p s i st) : B ≤ p := h.cell.choose_spec.choose_spec.1
theorem PS.lt (h : PS w B p s i st) : p < w.heap.size := by
  obtain ⟨_, _, _, hb⟩ := h.cell
  exact hb.lt
theorem PS.le (h : PS w B p s i st) : B ≤ w.heap.size := Nat.le_of_lt (Nat.lt_of_le_of_lt h.pos h.lt)
theorem PS.below (h : PS w B p s i st) (k : Below w.heap.size w w') : PS w' B p s i st := by
  obtain ⟨go, cap, vs, h1, h2, h3, h4, h5⟩ := h
  exact ⟨go, cap, vs, h1, h2.below k, own_below h3 k, h4, h5.ke (Ke.below k)⟩
theorem PS.alloc (h : PS w B p s i st) (o : Obj) : PS (w.alloc o) B p s i st := h.below (new_below w o)
theorem PS.drewN (h : PS w B p s i st) (n : Nat) : PS (w.drewN n) B p s i st := h.below (below_dn (Below.refl _ _) n)
/-- The place moves on. -/
theorem PS.move (h : PS w B p s i st) (j : Nat) : PS (w.setCell ⟨p, 1, none⟩ (.int .i64 j)) B p s j st := by
  obtain ⟨go, cap, vs, h1, h2, h3, h4, h5⟩ := h
  refine ⟨go, cap, vs, h1, by simpa using h2.set_ 1 (.int .i64 j), own_far h3 (own_ne h3 h2 (by decide)) (far_set _ _ _ _), h4, h5.ke ((Ke.refl w).cell h2 (by decide))⟩
end
theorem depth_any (B p i : Nat) (s : ByteArray) (st : List Fo) (w : World) (h : PS w B p s i st) (hs : st ≠ []) (hl : st.length ≤ 1000000) : Calls Try.prog 24 #[.pointer (some ⟨p, 0, none⟩)] w fun e w' => e = .returned (.int .i64 (st.length - 1 : Nat)) ∧ w' = w := by
  obtain ⟨go, cap, hp, hb⟩ := h.cell
  obtain ⟨c0, c1, c2, _⟩ := hb.three
  have h0 : 0 < st.length := List.length_pos_iff.2 hs
  have HE := Lib.hid (show ((st.length - 1 : Nat) : Int) = (st.length : Int) - 1 by omega)
  generalize st.length = n at *
  clear h hb hs
  go_enter Try.func24, Try.ntmps24
  go_wp2_with fail
  go_ret
  exact ⟨by rw [HE.out]; rfl, rfl⟩
set_option maxHeartbeats 2000000 in
theorem begin_deep (B p i : Nat) (s : ByteArray) (st : List Fo) (w : World) (h : PS w B p s i st) (hs : st ≠ []) (hl : st.length ≤ 1000000) (hd : 40 < st.length - 1) : Calls Try.prog 33 #[.pointer (some ⟨p, 0, none⟩)] w fun e w' => e = .returned (.int .i64 10) ∧ w' = w := by
  have HD := Lib.hid (depth_any B p i s st w h hs hl)
  generalize st.length - 1 = d at *
  clear h hs hl
  go_enter Try.func33, Try.ntmps33
  go_wp2_with fail
  refine HD.out.mono ?_
  rintro e w1 ⟨rfl, rfl⟩
  go_wp2_with fail
  go_ret
  exact ⟨rfl, rfl⟩
theorem info23 : (Try.prog.info? 23).map (fun i => (i.zero, i.size, i.bytes)) = some (some (.slice none 0 0), 1, 24) := by kernel_rfl
theorem act_nil_cons (vs : List Value) : act (.slice none 0 0 :: vs) = act vs := rfl
set_option maxHeartbeats 4000000 in
theorem begin_any (B p i : Nat) (s : ByteArray) (st : List Fo) (w : World) (h : PS w B p s i st) (hs : st ≠ []) (hi : i ≤ 1000000) (hd : ¬ 40 < st.length - 1) : Calls Try.prog 33 #[.pointer (some ⟨p, 0, none⟩)] w fun e w' => e = .returned (.int .i64 0) ∧ PS w' B p s (i + 1) (.nil :: st) ∧ Below B w w' := by
  have HD := Lib.hid (depth_any B p i s st w h hs (by omega))
  have hle := h.le
  obtain ⟨go, cap, vs, hB, hb, ho, hn, hk⟩ := h
  have hd' : st.length ≤ 41 := by omega
  have HL := Lib.hid hk.len
  generalize hlen : st.length = n at *
  have t1 : ¬ 40 < n - 1 := by omega
  have HLn := Lib.hid hlen
  have HHB := Lib.hid hb
  have HO := Lib.hid ho
  have HN := Lib.hid hn
  have HK := Lib.hid hk
  obtain ⟨c0, c1, c2, f0, f1, f2⟩ := hb.three
  clear hb ho hn hk hs hd hlen
  generalize hd2 : n - 1 = d at *
  clear hd2
  go_enter Try.func33, Try.ntmps33
  go_wp2_with fail
  refine HD.out.mono ?_
  rintro e w1 ⟨rfl, rfl⟩
  go_wp2_with (at_builtin; refine wpl_app 53 23 Try.underlying53 (.slice none 0 0) 1 24 info23 rfl (by decide) rfl _ _ rfl B (.slice (some ⟨go, 0, none⟩) n cap) n vs.reverse rfl (own_alloc HO.out _) w1.heap.size #[.slice none 0 0] rfl (HB.new _ _ _) rfl (by simp [Value.oneCell']) (by omega) (by unfold maxLen; omega) (by simp; omega) ?_)
  intro g c2' w2 hown hkp hbw
  have R2 := hkp p 55 _ (own_ne (own_alloc HO.out (.cells #[.slice none 0 0] 23)) (HHB.out.alloc _) (by decide)) (HHB.out.alloc (.cells #[.slice none 0 0] 23))
  have K2 : Hid (Ke w1 w2) := fun b cs hb => hkp b 42 cs (own_ne (own_alloc HO.out (.cells #[.slice none 0 0] 23)) (hb.alloc _) (by decide)) (hb.alloc _)
  have G2 : Hid (Below B w1 w2) := hbw w1 (Below.alloc (Below.refl _ _) hle _)
  clear c0 c1 c2 f0 f1 f2
  obtain ⟨c0, c1, c2, f0, f1, f2⟩ := R2.three
  have HR2 := Lib.hid R2
  clear R2 hkp hbw
  go_wp2_with fail
  go_ret
  have e1 : HB (w2.setCell ⟨p, 2, none⟩ (.slice (some ⟨g, 0, none⟩) (n + 1) c2')) p 55 #[.string s, .int .i64 i, .slice (some ⟨g, 0, none⟩) (n + 1) c2'] := by simpa using HR2.out.set_ 2 (.slice (some ⟨g, 0, none⟩) (n + 1) c2')
  have hps : PS (w2.setCell ⟨p, 2, none⟩ (.slice (some ⟨g, 0, none⟩) (n + 1) c2')) B p s i (.nil :: st) := by
    refine ⟨g, c2', .slice none 0 0 :: vs, hB, by rw [List.length_cons, HLn.out]; exact e1, ?_, by rw [act_nil_cons]; exact HN.out, ⟨[], own_nil _ _ _ _, trivial⟩, ?_⟩
    · rw [List.length_cons, HLn.out, List.reverse_cons]
      exact own_far hown.out (own_ne hown.out HR2.out (by decide)) (far_set _ _ _ _)
    · rw [act_nil_cons]
      exact HK.out.ke (K2.out.cell HR2.out (by decide))
  refine ⟨rfl, ?_, bw_far (bw_far G2.out hB (far_set _ _ _ _)) hB (far_set _ _ _ _)⟩
  have := hps.move (i + 1)
  simpa using this
end Go.Proofs.Ytgkhkdohlbchoaa
