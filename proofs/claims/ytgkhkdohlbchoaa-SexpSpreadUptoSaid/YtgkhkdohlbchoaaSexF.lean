/-
  A strings.Builder of the call's own: what its writers do.
-/
import Derived.Test.YtgkhkdohlbchoaaShelf
import Derived.Test.YtgkhkdohlbchoaaSexA
import Derived.Lib.AppendStr
import Derived.Lib.Builder
namespace Go.Proofs.Ytgkhkdohlbchoaa
open Go.RowKit

/-- A builder in block b that holds these bytes; its row is one of the blocks from B on. -/
def Bd (B b : Nat) (l : List UInt8) (w : World) : Prop :=
  B ≤ b ∧ ∃ p v, (p = .pointer none ∨ p = .pointer (some ⟨b, 0, none⟩)) ∧ HB w b 46 #[p, v] ∧ w.ownsRow B 5 1 v l.length (Lib.byteCells l)
/-- All blocks but one, and but rows of bytes, stand as they stood. -/
def Kp (b : Nat) (w w' : World) : Prop := ∀ g t cs, g ≠ b → t ≠ 5 → HB w g t cs → HB w' g t cs
section
variable {B b : Nat} {l : List UInt8} {w w' w'' : World}
theorem Kp.refl (b : Nat) (w : World) : Kp b w w := fun _ _ _ _ _ h => h
theorem Kp.trans (h : Kp b w w') (k : Kp b w' w'') : Kp b w w'' := fun g t cs h1 h2 h3 => k g t cs h1 h2 (h g t cs h1 h2 h3)
theorem Kp.alloc (h : Kp b w w') (o : Obj) : Kp b w (w'.alloc o) := fun g t cs h1 h2 h3 => (h g t cs h1 h2 h3).alloc o
theorem Bd.lt (h : Bd B b l w) : b < w.heap.size := by
  obtain ⟨_, p, v, _, hb, _⟩ := h
  exact hb.lt
theorem Bd.le (h : Bd B b l w) : B ≤ w.heap.size := Nat.le_of_lt (Nat.lt_of_le_of_lt h.1 h.lt)
theorem Bd.alloc (h : Bd B b l w) (o : Obj) : Bd B b l (w.alloc o) := by
  obtain ⟨h0, p, v, hp, hb, ho⟩ := h
  exact ⟨h0, p, v, hp, hb.alloc o, own_alloc ho o⟩
theorem Bd.new (w : World) : Bd w.heap.size w.heap.size [] (w.alloc (.cells #[.pointer none, .slice none 0 0] 46)) :=
  ⟨Nat.le_refl _, _, _, .inl rfl, HB.new _ _ _, own_nil _ _ _ _⟩
theorem Bd.lib (h : Bd B b l w) : Lib.IsBuilder 46 5 B b (Lib.byteCells l) w := by
  obtain ⟨h0, p, v, hp, hb, ho⟩ := h
  have hne : v.ownBlock ≠ some b := fun e => own_ne ho hb (by decide) e.symm
  rw [← Lib.byteCells_length l] at ho
  rcases hp with rfl | rfl
  · exact .inl ⟨h0, v, hb, ho, hne⟩
  · exact .inr ⟨h0, v, hb, ho, hne⟩
theorem kp_cell {i : Nat} {u : Value} (k : Kp b w w') : Kp b w (w'.setCell ⟨b, i, none⟩ u) := fun g t cs h1 h2 h3 => (k g t cs h1 h2 h3).far h1 u
theorem bw_cell {i : Nat} {u : Value} {W : World} (h : Below B W w) (hB : B ≤ b) : Below B W (w.setCell ⟨b, i, none⟩ u) := bw_far h hB (far_set _ _ _ _)
end
theorem copycheck_used (b : Nat) (v : Value) (w : World) (h : HB w b 46 #[.pointer (some ⟨b, 0, none⟩), v]) : Calls Try.prog 32 #[.pointer (some ⟨b, 0, none⟩)] w fun e w' => e = .returned (.tuple #[]) ∧ w' = w := by
  obtain ⟨c0, c1, _, _⟩ := h.two
  obtain ⟨j, hj, hjs⟩ := Option.map_eq_some_iff.1 (show (Try.prog.info? 46).map (·.size) = some 2 by kernel_rfl)
  have hneq := Lib.run_neq_ptr_same (P := Try.prog) w ⟨b, 0, none⟩ Try.underlying43 hj
  clear h hj hjs
  go_enter Try.func32, Try.ntmps32
  go_wp2_with fail
  go_end0
  exact ⟨rfl, rfl⟩
theorem copycheck_new (b : Nat) (v : Value) (w : World) (h : HB w b 46 #[.pointer none, v]) : Calls Try.prog 32 #[.pointer (some ⟨b, 0, none⟩)] w fun e w' => e = .returned (.tuple #[]) ∧ w' = w.setCell ⟨b, 0, none⟩ (.pointer (some ⟨b, 0, none⟩)) := by
  obtain ⟨c0, c1, f0, _⟩ := h.two
  have hsh : w.shape? b = some (46, 2) := by unfold HB at h; simp [World.shape?, h]
  obtain ⟨j, hj, hjs⟩ := Option.map_eq_some_iff.1 (show (Try.prog.info? 46).map (·.size) = some 2 by kernel_rfl)
  go_enter Try.func32, Try.ntmps32
  go_wp2_with fail
  rw [Lib.run_to_unsafe w ⟨b, 0, none⟩ Try.underlying43 Try.underlying69 hj (by rw [hjs]; decide) hsh (Nat.zero_lt_succ 1)]
  simp only [Result.andThen]
  rw [Oper.upon_value]
  go_wp2_with fail
  rw [run_callFunc_extern Try.func41 (by kernel_rfl) (by kernel_rfl) (by kernel_rfl) (e := Extern.AbiNoEscape.same) (by kernel_rfl)]
  rw [Lib.run_noEscape]
  simp only [Result.andThen]
  rw [Oper.upon_value]
  go_wp2_with fail
  rw [Lib.run_from_unsafe w ⟨b, 0, none⟩ Try.underlying69 Try.underlying43 hj hsh (by kernel_rfl)]
  simp only [Result.andThen]
  rw [Oper.upon_value]
  go_wp2_with fail
  go_end0
  exact ⟨rfl, rfl⟩
theorem copycheck_any (B b : Nat) (l : List UInt8) (w : World) (h : Bd B b l w) : Calls Try.prog 32 #[.pointer (some ⟨b, 0, none⟩)] w fun e w' => e = .returned (.tuple #[]) ∧ (∃ v, HB w' b 46 #[.pointer (some ⟨b, 0, none⟩), v] ∧ w'.ownsRow B 5 1 v l.length (Lib.byteCells l)) ∧ Below B w w' ∧ Kp b w w' ∧ w'.heap.size = w.heap.size := by
  obtain ⟨h0, p, v, hp, hb, ho⟩ := h
  rcases hp with rfl | rfl
  · refine (copycheck_new b v w hb).mono ?_
    rintro e w' ⟨rfl, rfl⟩
    refine ⟨rfl, ⟨v, by simpa using hb.set_ 0 (.pointer (some ⟨b, 0, none⟩)), own_far ho (own_ne ho hb (by decide)) (far_set _ _ _ _)⟩, bw_cell (Below.refl _ _) h0, kp_cell (Kp.refl _ _), by simp [World.setCell]⟩
  · refine (copycheck_used b v w hb).mono ?_
    rintro e w' ⟨rfl, rfl⟩
    exact ⟨rfl, ⟨v, hb, ho⟩, Below.refl _ _, Kp.refl _ _, rfl⟩
theorem info5 : (Try.prog.info? 5).map (fun i => (i.zero, i.size, i.bytes)) = some (some (.int .u8 0), 1, 1) := by kernel_rfl
set_option maxHeartbeats 2000000 in
theorem writebyte_any (B b : Nat) (l : List UInt8) (c : UInt8) (w : World) (h : Bd B b l w) (hl : l.length + 1 ≤ 1000000000) : Calls Try.prog 20 #[.pointer (some ⟨b, 0, none⟩), .int .u8 c.toNat] w fun e w' => e = .returned .nilIface ∧ Bd B b (l ++ [c]) w' ∧ Below B w w' ∧ Kp b w w' := by
  have HW := Lib.hid h
  have hB := h.1
  have hle := h.le
  have HC := Lib.hid (fun (W : World) (hW : Bd B b l W) => copycheck_any B b l W hW)
  clear h
  go_enter Try.func20, Try.ntmps20
  go_wp2_with fail
  refine (HC.out _ HW.out).mono ?_
  rintro e w1 ⟨rfl, ⟨v, hb, ho⟩, hbl, hk, hsz⟩
  have HBB := Lib.hid hb
  have HO := Lib.hid ho
  have G1 := Lib.hid hbl
  have K1 := Lib.hid hk
  have hge : w.heap.size ≤ w1.heap.size := by omega
  obtain ⟨c0, c1, f0, f1⟩ := hb.two
  have hlt := hb.lt
  clear hb ho hbl hk hsz
  go_wp2_with (at_builtin; refine wpl_app 44 5 Try.underlying44 (.int .u8 0) 1 1 info5 rfl (by decide) rfl _ _ rfl B v l.length (Lib.byteCells l) rfl (own_alloc HO.out _) w1.heap.size #[.int .u8 c.toNat] rfl (HB.new _ _ _) rfl (by simp [Value.oneCell']) (by omega) (by unfold maxLen; omega) (by simp; omega) ?_)
  intro g cap w2 hown hkp hbw
  have R2 := hkp b 46 _ (own_ne (own_alloc HO.out (.cells #[.int .u8 c.toNat] 5)) (HBB.out.alloc _) (by decide)) (HBB.out.alloc (.cells #[.int .u8 c.toNat] 5))
  have K2 : Hid (Kp b w w2) := fun g' t' cs' h1 h2 h3 => hkp g' t' cs' (own_ne (own_alloc HO.out (.cells #[.int .u8 c.toNat] 5)) ((K1.out g' t' cs' h1 h2 h3).alloc _) h2) ((K1.out g' t' cs' h1 h2 h3).alloc _)
  have G2 : Hid (Below B w w2) := hbw w (Below.alloc G1.out (by omega) _)
  clear c0 c1 f0 f1
  obtain ⟨c0, c1, f0, f1⟩ := R2.two
  have HR2 := Lib.hid R2
  clear R2 hkp hbw
  go_wp2_with fail
  go_ret
  refine ⟨rfl, ⟨hB, _, _, .inr rfl, by simpa using HR2.out.set_ 1 (.slice (some ⟨g, 0, none⟩) (l.length + 1) cap), ?_⟩, bw_cell G2.out hB, kp_cell K2.out⟩
  have := hown.out
  rw [Lib.byteCells_append, List.length_append]
  exact own_far this (own_ne this HR2.out (by decide)) (far_set _ _ _ _)
set_option maxHeartbeats 2000000 in
theorem writestring_any (B b : Nat) (l : List UInt8) (s : ByteArray) (w : World) (h : Bd B b l w) (hl : l.length + s.size ≤ 1000000000) : Calls Try.prog 31 #[.pointer (some ⟨b, 0, none⟩), .string s] w fun e w' => e = .returned (.tuple #[.int .i64 s.size, .nilIface]) ∧ Bd B b (l ++ s.data.toList) w' ∧ Below B w w' ∧ Kp b w w' := by
  have HW := Lib.hid h
  have hB := h.1
  have hle := h.le
  have HC := Lib.hid (fun (W : World) (hW : Bd B b l W) => copycheck_any B b l W hW)
  obtain ⟨i0, hi, hz0, hz1, hz2⟩ := info_parts info5
  clear h
  have HI := Lib.hid hi
  have HZ0 := Lib.hid hz0
  have HZ1 := Lib.hid hz1
  have HZ2 := Lib.hid hz2
  clear hi hz0 hz1 hz2
  go_enter Try.func31, Try.ntmps31
  go_wp2_with fail
  refine (HC.out _ HW.out).mono ?_
  rintro e w1 ⟨rfl, ⟨v, hb, ho⟩, hbl, hk, hsz⟩
  have HBB := Lib.hid hb
  have HO := Lib.hid ho
  have G1 := Lib.hid hbl
  have K1 := Lib.hid hk
  have hge : w.heap.size ≤ w1.heap.size := by omega
  obtain ⟨c0, c1, f0, f1⟩ := hb.two
  have hlt := hb.lt
  clear hb ho hbl hk hsz
  go_wp2_with (at_builtin; refine Lib.wpList_append_own_string _ rfl _ _ 44 9 rfl B 5 i0 Try.underlying44 Try.underlying9 HI.out HZ0.out HZ1.out HZ2.out v l.length (Lib.byteCells l) rfl HO.out s rfl (by unfold maxLen; omega) (by omega) (by omega) ?_)
  intro v' w2 hown hg _
  have R2 := HBB.out.grown hg (own_ne HO.out HBB.out (by decide))
  have K2 : Hid (Kp b w w2) := fun g' t' cs' h1 h2 h3 => (K1.out g' t' cs' h1 h2 h3).grown hg (own_ne HO.out (K1.out g' t' cs' h1 h2 h3) h2)
  have G2 : Hid (Below B w w2) := bw_grown (by omega) G1.out HO.out hg
  clear c0 c1 f0 f1
  obtain ⟨c0, c1, f0, f1⟩ := R2.two
  have HR2 := Lib.hid R2
  have HO2 := Lib.hid hown
  obtain ⟨ao, n', cap, rfl⟩ : ∃ ao n' cap, v' = .slice ao n' cap := by
    rcases hown.2 with ⟨hv, _⟩ | ⟨g, cap, cur, hv, _⟩
    · exact ⟨_, _, _, hv⟩
    · exact ⟨_, _, _, hv⟩
  clear R2 hg hown
  go_wp2_with fail
  go_ret2
  refine ⟨rfl, ⟨hB, _, _, .inr rfl, by simpa using HR2.out.set_ 1 (.slice ao n' cap), ?_⟩, bw_cell G2.out hB, kp_cell K2.out⟩
  have := HO2.out
  rw [Lib.strCells_eq, ← Lib.byteCells_append] at this
  rw [List.length_append, show s.data.toList.length = s.size from rfl]
  exact own_far this (own_ne this HR2.out (by decide)) (far_set _ _ _ _)
end Go.Proofs.Ytgkhkdohlbchoaa
