/-
  One step of the reader.
-/
import Derived.Test.YtgkhkdohlbchoaaSexM
import Derived.Test.YtgkhkdohlbchoaaSexP
import Derived.Test.YtgkhkdohlbchoaaSexQ
namespace Go.Proofs.Ytgkhkdohlbchoaa
open Go.RowKit
section
variable {B p i : Nat} {s : ByteArray} {st : List Fo} {w : World}
set_option maxHeartbeats 4000000 in
theorem step_begin (h : PS w B p s i st) (hi : i < s.size) (hc : bs s i = 40) (R : Int) (Q : World → Prop) (hcall : ∀ n, Calls Try.prog 33 #[.pointer (some ⟨p, 0, none⟩)] (w.drewN n) fun e w' => e = .returned (.int .i64 R) ∧ Q w') :
    Calls Try.prog 23 #[.pointer (some ⟨p, 0, none⟩)] w fun e w' => e = .returned (.int .i64 R) ∧ Q w' := by
  have HC := Lib.hid hcall
  obtain ⟨go, cap, hB, hb⟩ := h.cell
  obtain ⟨c0, c1, c2, f0, f1, f2⟩ := hb.three
  generalize st.length = n at *
  have e := bs_of hi
  rw [hc] at e
  clear h hb hcall hc
  go_enter Try.func23, Try.ntmps23
  go_wp2_with fail
  go_quiet (fail)
  go_wp2_with fail
  refine (HC.out _).mono ?_
  rintro e' w1 ⟨rfl, hQ⟩
  have HQ := Lib.hid hQ
  clear hQ
  go_wp2_with fail
  go_ret
  exact ⟨rfl, HQ.out⟩
set_option maxHeartbeats 4000000 in
theorem step_end (h : PS w B p s i st) (hi : i < s.size) (hc : bs s i = 41) (R : Int) (Q : World → Prop) (hcall : ∀ n, Calls Try.prog 34 #[.pointer (some ⟨p, 0, none⟩)] (w.drewN n) fun e w' => e = .returned (.int .i64 R) ∧ Q w') :
    Calls Try.prog 23 #[.pointer (some ⟨p, 0, none⟩)] w fun e w' => e = .returned (.int .i64 R) ∧ Q w' := by
  have HC := Lib.hid hcall
  obtain ⟨go, cap, hB, hb⟩ := h.cell
  obtain ⟨c0, c1, c2, f0, f1, f2⟩ := hb.three
  generalize st.length = n at *
  have e := bs_of hi
  rw [hc] at e
  clear h hb hcall hc
  go_enter Try.func23, Try.ntmps23
  go_wp2_with fail
  go_quiet (fail)
  go_wp2_with fail
  refine (HC.out _).mono ?_
  rintro e' w1 ⟨rfl, hQ⟩
  have HQ := Lib.hid hQ
  clear hQ
  go_wp2_with fail
  go_ret
  exact ⟨rfl, HQ.out⟩
set_option maxHeartbeats 4000000 in
theorem step_comment (h : PS w B p s i st) (hi : i < s.size) (hc : bs s i = 59) (Q : World → Prop) (hcall : ∀ n, Calls Try.prog 35 #[.pointer (some ⟨p, 0, none⟩)] (w.drewN n) fun e w' => e = .returned (.tuple #[]) ∧ Q w') :
    Calls Try.prog 23 #[.pointer (some ⟨p, 0, none⟩)] w fun e w' => e = .returned (.int .i64 0) ∧ Q w' := by
  have HC := Lib.hid hcall
  obtain ⟨go, cap, hB, hb⟩ := h.cell
  obtain ⟨c0, c1, c2, f0, f1, f2⟩ := hb.three
  generalize st.length = n at *
  have e := bs_of hi
  rw [hc] at e
  clear h hb hcall hc
  go_enter Try.func23, Try.ntmps23
  go_wp2_with fail
  go_quiet (fail)
  go_wp2_with fail
  refine (HC.out _).mono ?_
  rintro e' w1 ⟨rfl, hQ⟩
  have HQ := Lib.hid hQ
  clear hQ
  go_wp2_with fail
  go_ret
  exact ⟨rfl, HQ.out⟩
set_option maxHeartbeats 4000000 in
theorem step_word (h : PS w B p s i st) (hi : i < s.size) (hc : inW (bs s i) = true) (R : Int) (Q : World → Prop) (hcall : ∀ n, Calls Try.prog 37 #[.pointer (some ⟨p, 0, none⟩)] (w.drewN n) fun e w' => e = .returned (.int .i64 R) ∧ Q w') :
    Calls Try.prog 23 #[.pointer (some ⟨p, 0, none⟩)] w fun e w' => e = .returned (.int .i64 R) ∧ Q w' := by
  have HC := Lib.hid hcall
  obtain ⟨go, cap, hB, hb⟩ := h.cell
  obtain ⟨c0, c1, c2, f0, f1, f2⟩ := hb.three
  generalize st.length = n at *
  have e := bs_of hi
  have hw : 33 ≤ bs s i ∧ bs s i ≤ 126 ∧ bs s i ≠ 40 ∧ bs s i ≠ 41 ∧ bs s i ≠ 59 := by simpa [inW] using hc
  have HIN := Lib.hid hc
  generalize bs s i = x at *
  obtain ⟨_, _, n1, n2, n3⟩ := hw
  have d1 : (x == 40) = false := by simpa using n1
  have d2 : (x == 41) = false := by simpa using n2
  have d3 : (x == 59) = false := by simpa using n3
  clear h hb hcall hc n1 n2 n3
  go_enter Try.func23, Try.ntmps23
  go_wp2_with fail
  go_quiet (fail)
  go_wp2_with fail
  refine (inword_any _ _).mono ?_
  rintro e' w1 ⟨rfl, rfl⟩
  rw [HIN.out]
  go_wp2_with fail
  refine (HC.out _).mono ?_
  rintro e' w1 ⟨rfl, hQ⟩
  have HQ := Lib.hid hQ
  clear hQ
  go_wp2_with fail
  go_ret
  exact ⟨rfl, HQ.out⟩
set_option maxHeartbeats 4000000 in
theorem step_sp (h : PS w B p s i st) (hi : i < s.size) (hs : s.size ≤ 1000000) (hc : bs s i = 32) :
    Calls Try.prog 23 #[.pointer (some ⟨p, 0, none⟩)] w fun e w' => e = .returned (.int .i64 0) ∧ PS w' B p s (i + 1) st ∧ Below B w w' := by
  have HP := Lib.hid h
  obtain ⟨go, cap, hB, hb⟩ := h.cell
  obtain ⟨c0, c1, c2, f0, f1, f2⟩ := hb.three
  have e := bs_of hi
  rw [hc] at e
  have HIN := Lib.hid (show inW 32 = false by decide)
  clear h hb hc
  go_enter Try.func23, Try.ntmps23
  go_wp2_with fail
  go_quiet (fail)
  go_wp2_with fail
  refine (inword_any _ _).mono ?_
  rintro e' w1 ⟨rfl, rfl⟩
  rw [HIN.out]
  go_wp2_with fail
  go_ret
  have := fun nq => (HP.out.drewN nq).move (i + 1)
  exact ⟨rfl, by simpa using this _, bw_far (below_dn (Below.refl _ _) _) hB (far_set _ _ _ _)⟩
set_option maxHeartbeats 4000000 in
theorem step_tab (h : PS w B p s i st) (hi : i < s.size) (hs : s.size ≤ 1000000) (hc : bs s i = 9) :
    Calls Try.prog 23 #[.pointer (some ⟨p, 0, none⟩)] w fun e w' => e = .returned (.int .i64 0) ∧ PS w' B p s (i + 1) st ∧ Below B w w' := by
  have HP := Lib.hid h
  obtain ⟨go, cap, hB, hb⟩ := h.cell
  obtain ⟨c0, c1, c2, f0, f1, f2⟩ := hb.three
  have e := bs_of hi
  rw [hc] at e
  have HIN := Lib.hid (show inW 9 = false by decide)
  clear h hb hc
  go_enter Try.func23, Try.ntmps23
  go_wp2_with fail
  go_quiet (fail)
  go_wp2_with fail
  refine (inword_any _ _).mono ?_
  rintro e' w1 ⟨rfl, rfl⟩
  rw [HIN.out]
  go_wp2_with fail
  go_ret
  have := fun nq => (HP.out.drewN nq).move (i + 1)
  exact ⟨rfl, by simpa using this _, bw_far (below_dn (Below.refl _ _) _) hB (far_set _ _ _ _)⟩
set_option maxHeartbeats 4000000 in
theorem step_nl (h : PS w B p s i st) (hi : i < s.size) (hs : s.size ≤ 1000000) (hc : bs s i = 10) :
    Calls Try.prog 23 #[.pointer (some ⟨p, 0, none⟩)] w fun e w' => e = .returned (.int .i64 0) ∧ PS w' B p s (i + 1) st ∧ Below B w w' := by
  have HP := Lib.hid h
  obtain ⟨go, cap, hB, hb⟩ := h.cell
  obtain ⟨c0, c1, c2, f0, f1, f2⟩ := hb.three
  have e := bs_of hi
  rw [hc] at e
  have HIN := Lib.hid (show inW 10 = false by decide)
  clear h hb hc
  go_enter Try.func23, Try.ntmps23
  go_wp2_with fail
  go_quiet (fail)
  go_wp2_with fail
  refine (inword_any _ _).mono ?_
  rintro e' w1 ⟨rfl, rfl⟩
  rw [HIN.out]
  go_wp2_with fail
  go_ret
  have := fun nq => (HP.out.drewN nq).move (i + 1)
  exact ⟨rfl, by simpa using this _, bw_far (below_dn (Below.refl _ _) _) hB (far_set _ _ _ _)⟩
set_option maxHeartbeats 4000000 in
theorem step_cr (h : PS w B p s i st) (hi : i < s.size) (hs : s.size ≤ 1000000) (hc : bs s i = 13) :
    Calls Try.prog 23 #[.pointer (some ⟨p, 0, none⟩)] w fun e w' => e = .returned (.int .i64 0) ∧ PS w' B p s (i + 1) st ∧ Below B w w' := by
  have HP := Lib.hid h
  obtain ⟨go, cap, hB, hb⟩ := h.cell
  obtain ⟨c0, c1, c2, f0, f1, f2⟩ := hb.three
  have e := bs_of hi
  rw [hc] at e
  have HIN := Lib.hid (show inW 13 = false by decide)
  clear h hb hc
  go_enter Try.func23, Try.ntmps23
  go_wp2_with fail
  go_quiet (fail)
  go_wp2_with fail
  refine (inword_any _ _).mono ?_
  rintro e' w1 ⟨rfl, rfl⟩
  rw [HIN.out]
  go_wp2_with fail
  go_ret
  have := fun nq => (HP.out.drewN nq).move (i + 1)
  exact ⟨rfl, by simpa using this _, bw_far (below_dn (Below.refl _ _) _) hB (far_set _ _ _ _)⟩
set_option maxHeartbeats 4000000 in
theorem step_other (h : PS w B p s i st) (hi : i < s.size) (hc : inW (bs s i) = false) (n1 : bs s i ≠ 40) (n2 : bs s i ≠ 41) (n3 : bs s i ≠ 59) (n4 : bs s i ≠ 32) (n5 : bs s i ≠ 9) (n6 : bs s i ≠ 10) (n7 : bs s i ≠ 13) :
    Calls Try.prog 23 #[.pointer (some ⟨p, 0, none⟩)] w fun e w' => e = .returned (.int .i64 1) ∧ PS w' B p s i st ∧ Below B w w' := by
  have HP := Lib.hid h
  obtain ⟨go, cap, hB, hb⟩ := h.cell
  obtain ⟨c0, c1, c2, f0, f1, f2⟩ := hb.three
  have e := bs_of hi
  have HIN := Lib.hid hc
  generalize bs s i = x at *
  have d1 : (x == 40) = false := by simpa using n1
  have d2 : (x == 41) = false := by simpa using n2
  have d3 : (x == 59) = false := by simpa using n3
  have d4 : (x == 32) = false := by simpa using n4
  have d5 : (x == 9) = false := by simpa using n5
  have d6 : (x == 10) = false := by simpa using n6
  have d7 : (x == 13) = false := by simpa using n7
  clear h hb hc n1 n2 n3 n4 n5 n6 n7
  go_enter Try.func23, Try.ntmps23
  go_wp2_with fail
  go_quiet (fail)
  go_wp2_with fail
  refine (inword_any _ _).mono ?_
  rintro e' w1 ⟨rfl, rfl⟩
  rw [HIN.out]
  go_wp2_with fail
  go_ret
  exact ⟨rfl, HP.out.drewN _, below_dn (Below.refl _ _) _⟩
/-- Levels as they may be at a place. -/
def Fit (i : Nat) (st : List Fo) : Prop := st ≠ [] ∧ st.length ≤ i + 1 ∧ ∀ f ∈ st, f.len ≤ i
theorem Fit.next {i j : Nat} {st : List Fo} (h : Fit i st) (hij : i ≤ j) : Fit j st := ⟨h.1, by have := h.2.1; omega, fun f hf => by have := h.2.2 f hf; omega⟩
/-- What a step yields. -/
def StepQ (B p : Nat) (s : ByteArray) (i : Nat) (st : List Fo) (w : World) (r : Except Int (Nat × List Fo)) (e : Ending) (w' : World) : Prop :=
  match r with
  | .error c => e = .returned (.int .i64 c) ∧ c ≠ 0 ∧ PS w' B p s i st ∧ Below B w w'
  | .ok (j, st') => e = .returned (.int .i64 0) ∧ i < j ∧ j ≤ s.size ∧ Fit j st' ∧ PS w' B p s j st' ∧ Below B w w'
theorem step_any (h : PS w B p s i st) (hi : i < s.size) (hs : s.size ≤ 4000) (hf : Fit i st) : Calls Try.prog 23 #[.pointer (some ⟨p, 0, none⟩)] w (StepQ B p s i st w (stepR s i st)) := by
  obtain ⟨f1, f2, f3⟩ := hf
  have hfit : Fit i st := ⟨f1, f2, f3⟩
  have bn : ∀ n, Below B w (w.drewN n) := fun n => below_dn (Below.refl _ _) n
  unfold stepR
  by_cases h1 : bs s i = 40
  · rw [if_pos h1]
    by_cases hd : 40 < st.length - 1
    · rw [if_pos hd]
      exact (step_begin h hi h1 10 (fun w' => PS w' B p s i st ∧ Below B w w') (fun n => (begin_deep B p i s st _ (h.drewN n) f1 (by omega) hd).mono fun e w' q => ⟨q.1, by rw [q.2]; exact ⟨h.drewN n, bn n⟩⟩)).mono fun e w' q => ⟨q.1, by decide, q.2.1, q.2.2⟩
    · rw [if_neg hd]
      exact (step_begin h hi h1 0 (fun w' => PS w' B p s (i + 1) (.nil :: st) ∧ Below B w w') (fun n => (begin_any B p i s st _ (h.drewN n) f1 (by omega) hd).mono fun e w' q => ⟨q.1, q.2.1, (bn n).trans q.2.2⟩)).mono fun e w' q => ⟨q.1, by omega, by omega, ⟨by simp, by simp; omega, fun f hf => by
        rcases List.mem_cons.1 hf with rfl | z
        · simp [Fo.len]
        · have := f3 f z; omega⟩, q.2.1, q.2.2⟩
  rw [if_neg h1]
  by_cases h2 : bs s i = 41
  · rw [if_pos h2]
    match st, f1, h, f2, f3, hfit with
    | [f], _, h, _, _, _ =>
      exact (step_end h hi h2 1 (fun w' => PS w' B p s i [f] ∧ Below B w w') (fun n => (end_top B p i s f _ (h.drewN n)).mono fun e w' q => ⟨q.1, by rw [q.2]; exact ⟨h.drewN n, bn n⟩⟩)).mono fun e w' q => ⟨q.1, by decide, q.2.1, q.2.2⟩
    | k :: f :: st, _, h, f2, f3, _ =>
      have hl : st.length ≤ i := by simp at f2; omega
      have hfl := f3 f (by simp)
      exact (step_end h hi h2 0 (fun w' => PS w' B p s (i + 1) (f.snoc ByteArray.empty true k :: st) ∧ Below B w w') (fun n => (end_any B p i s k f st _ (h.drewN n) (by omega) (by omega) (by omega)).mono fun e w' q => ⟨q.1, q.2.1, (bn n).trans q.2.2⟩)).mono fun e w' q => ⟨q.1, by omega, by omega, ⟨by simp, by simp; omega, fun g hg => by
        rcases List.mem_cons.1 hg with rfl | z
        · rw [Fo.len_snoc]; omega
        · have := f3 g (by simp [z]); omega⟩, q.2.1, q.2.2⟩
  rw [if_neg h2]
  by_cases h3 : bs s i = 59
  · rw [if_pos h3]
    have hlt := stepR_lt (st := st) (j := cEnd s i) (st' := st) hi (by unfold stepR; rw [if_neg h1, if_neg h2, if_pos h3])
    exact (step_comment h hi h3 (fun w' => PS w' B p s (cEnd s i) st ∧ Below B w w') (fun n => (comment_any B p i s st _ (h.drewN n) (by omega) (by omega)).mono fun e w' q => ⟨q.1, q.2.1, (bn n).trans q.2.2⟩)).mono fun e w' q => ⟨q.1, hlt.1, hlt.2.1, hfit.next (by omega), q.2.1, q.2.2⟩
  rw [if_neg h3]
  by_cases h4 : inW (bs s i) = true
  · rw [if_pos h4]
    by_cases h5 : 24 < wEnd s i - i
    · rw [if_pos h5]
      exact (step_word h hi h4 12 (fun w' => PS w' B p s i st ∧ Below B w w') (fun n => (word_long B p i s st _ (h.drewN n) (by omega) (by omega) h5).mono fun e w' q => ⟨q.1, q.2.1, (bn n).trans q.2.2⟩)).mono fun e w' q => ⟨q.1, by decide, q.2.1, q.2.2⟩
    rw [if_neg h5]
    by_cases h6 : 40 < st.length - 1
    · rw [if_pos h6]
      exact (step_word h hi h4 10 (fun w' => PS w' B p s i st ∧ Below B w w') (fun n => (word_deep B p i s st _ (h.drewN n) f1 (by omega) (by omega) (by omega) h5 h6).mono fun e w' q => ⟨q.1, q.2.1, (bn n).trans q.2.2⟩)).mono fun e w' q => ⟨q.1, by decide, q.2.1, q.2.2⟩
    rw [if_neg h6]
    match st, f1, h, f2, f3, h6 with
    | f :: st, _, h, f2, f3, h6 =>
      have hl : st.length ≤ i := by simp at f2; omega
      have hfl := f3 f (by simp)
      have e := wEnd_at hi
      rw [if_pos h4] at e
      have hle := wEnd_le (s := s) (i := i + 1) (by omega)
      exact (step_word h hi h4 0 (fun w' => PS w' B p s (wEnd s i) (f.snoc (cut s i (wEnd s i)) false .nil :: st) ∧ Below B w w') (fun n => (word_any B p i s f st _ (h.drewN n) (by omega) (by omega) (by omega) (by omega) h5 (by simpa using h6)).mono fun e w' q => ⟨q.1, q.2.1, (bn n).trans q.2.2⟩)).mono fun e' w' q => ⟨q.1, by omega, by omega, ⟨by simp, by simp; omega, fun g hg => by
        rcases List.mem_cons.1 hg with rfl | z
        · rw [Fo.len_snoc]; omega
        · have := f3 g (by simp [z]); omega⟩, q.2.1, q.2.2⟩
  rw [if_neg h4]
  by_cases h7 : bs s i = 32 ∨ bs s i = 9 ∨ bs s i = 10 ∨ bs s i = 13
  · rw [if_pos h7]
    rcases h7 with z | z | z | z
    · exact (step_sp h hi (by omega) z).mono fun e w' q => ⟨q.1, by omega, by omega, hfit.next (by omega), q.2.1, q.2.2⟩
    · exact (step_tab h hi (by omega) z).mono fun e w' q => ⟨q.1, by omega, by omega, hfit.next (by omega), q.2.1, q.2.2⟩
    · exact (step_nl h hi (by omega) z).mono fun e w' q => ⟨q.1, by omega, by omega, hfit.next (by omega), q.2.1, q.2.2⟩
    · exact (step_cr h hi (by omega) z).mono fun e w' q => ⟨q.1, by omega, by omega, hfit.next (by omega), q.2.1, q.2.2⟩
  · rw [if_neg h7]
    exact (step_other h hi (by simpa using h4) h1 h2 h3 (fun z => h7 (.inl z)) (fun z => h7 (.inr (.inl z))) (fun z => h7 (.inr (.inr (.inl z)))) (fun z => h7 (.inr (.inr (.inr z))))).mono fun e w' q => ⟨q.1, by decide, q.2.1, q.2.2⟩
end
end Go.Proofs.Ytgkhkdohlbchoaa
