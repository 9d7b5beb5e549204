/-
  sexp.Text.
-/
import Derived.Test.YtgkhkdohlbchoaaSexG
namespace Go.Proofs.Ytgkhkdohlbchoaa
open Go.RowKit

theorem wrong_word {s : ByteArray} {kl d : Nat} (h : wrongC s false kl d = 0) : s.size ≤ 24 := by
  by_cases z : okW s = true
  · simp [okW] at z; omega
  · unfold wrongC at h
    simp at z
    split at h
    · omega
    · simp [z] at h
theorem Fo.bad_cons {s : ByteArray} {l : Bool} {k r : Fo} {d : Nat} (h : (Fo.cons s l k r).bad d = 0) : wrongC s l k.len d = 0 ∧ k.bad (d + 1) = 0 ∧ r.bad d = 0 := by
  unfold Fo.bad at h
  by_cases h1 : wrongC s l k.len d = 0
  · rw [if_pos h1] at h
    by_cases h2 : k.bad (d + 1) = 0
    · rw [if_pos h2] at h; exact ⟨h1, h2, h⟩
    · rw [if_neg h2] at h; exact absurd h h2
  · rw [if_neg h1] at h; exact absurd h h1
theorem oneT_len {s : ByteArray} {l : Bool} {k : Fo} {d : Nat} (h : wrongC s l k.len d = 0) (hk : (k.tk true).length ≤ 28 * k.size) : (oneT s l k).length ≤ 28 * k.size + 26 := by
  unfold oneT
  cases l with
  | true => simp; omega
  | false => have := wrong_word h; simp; omega
theorem Fo.tk_len (f : Fo) : ∀ d z, f.bad d = 0 → (f.tk z).length ≤ 28 * f.size := by
  induction f with
  | nil => intro d z _; simp [Fo.tk]
  | cons s l k r ihk ihr =>
    intro d z h
    obtain ⟨h1, h2, h3⟩ := Fo.bad_cons h
    have a := oneT_len h1 (ihk _ _ h2)
    have b := ihr _ false h3
    rw [Fo.tk_cons, Fo.size_cons, List.length_append, List.length_append]
    have : (if z then [] else [32] : List UInt8).length ≤ 1 := by cases z <;> simp
    omega
theorem Fo.lines_len (f : Fo) : ∀ d, f.bad d = 0 → f.lines.length ≤ 28 * f.size := by
  induction f with
  | nil => intro d _; simp [Fo.lines]
  | cons s l k r ihk ihr =>
    intro d h
    obtain ⟨h1, h2, h3⟩ := Fo.bad_cons h
    have a := oneT_len h1 (Fo.tk_len k _ _ h2)
    have b := ihr _ h3
    rw [Fo.lines, Fo.size_cons, List.length_append, List.length_cons]
    omega
theorem Fo.lines_drop {f : Fo} {j : Nat} {s : ByteArray} {l : Bool} {k r : Fo} (h : f.drop j = .cons s l k r) : (f.drop j).lines = oneT s l k ++ (10 :: r.lines) := by rw [h]; rfl
theorem Fo.chk_good {f : Fo} (h : f.chkC = 0) : f.chkI = 0 ∧ f.size ≤ 4000 ∧ f.bad 0 = 0 := by
  unfold Fo.chkC at h
  by_cases z : 4000 < f.size
  · rw [if_pos z] at h; cases h
  · rw [if_neg z] at h
    unfold Fo.chkI
    rw [if_neg z, if_pos h]
    exact ⟨rfl, by omega, h⟩
/-- What Text yields: the code, the place, the text. -/
def Fo.txC (f : Fo) : Int := if f.chkC = 0 then (if 4000 < f.lines.length then 10 else 0) else f.chkC
def Fo.txI (f : Fo) : Int := if f.chkC = 0 then 0 else f.chkI
def Fo.txS (f : Fo) : List UInt8 := if f.chkC = 0 then (if 4000 < f.lines.length then [] else f.lines) else []
/-- The way in which a call that yields a text and a fault ends. -/
def GivesS (t : List UInt8) (c i : Int) (w : World) (e : Ending) (w' : World) : Prop := e = .returned (.tuple #[.string ⟨t.toArray⟩, .agg #[.int .i64 c, .int .i64 i]]) ∧ Below w.heap.size w w'
set_option maxHeartbeats 2000000 in
theorem text_bad (f : Fo) (A : Option Addr) (c : Nat) (w : World) (hl : f.len ≤ maxLen) (h : f.At w A) (hc : ¬ f.chkC = 0) : Calls Try.prog 10 #[.slice A f.len c] w (GivesS [] f.chkC f.chkI w) := by
  have H1 := Lib.hid (fun (W : World) (hW : f.At W A) => check_any f A c W hl hW)
  have HA := Lib.hid h
  generalize f.chkC = q at *
  generalize f.chkI = i at *
  generalize f.len = L at *
  have d1 : (q == 0) = false := by simpa using hc
  clear h hl
  go_enter Try.func10, Try.ntmps10
  go_wp2_with fail
  refine (H1.out _ (HA.out.below (new_below _ _))).mono ?_
  rintro e w1 ⟨rfl, hb1⟩
  have R1 := (HB.new w 27 #[.int .i64 0, .int .i64 0]).below hb1
  have HR1 := Lib.hid R1
  have G1 : Hid (Below w.heap.size w w1) := bw_below (Nat.le_refl _) (new_below _ _) hb1
  have l1 := R1.lt
  obtain ⟨r0, r1, r2, r3⟩ := R1.two
  clear hb1 R1
  go_wp2_with fail
  have HT := Lib.hid ((((hb_set2 (n := .int .i64 q) (d := .int .i64 i) HR1.out).alloc (.cells #[.int .i64 q, .int .i64 i] 27))).drew)
  go_region
  go_wp2_with fail
  obtain ⟨y0, y1, _, _⟩ := HT.out.two
  refine bodyPost_ret (v := .tuple #[.string ⟨#[]⟩, .agg #[.int .i64 q, .int .i64 i]]) (by simp [results, Try.results10, go_sem, y0, y1]) rfl ⟨rfl, ?_⟩
  have F := bw_far G1.out (Nat.le_refl _) (far2 w1 w.heap.size (.int .i64 q) (.int .i64 i))
  exact below_dn (Below.alloc F F.size _) 1
theorem HB.into {B g t : Nat} {cs : Array Value} {w w' : World} (h : HB w g t cs) (k : Below B w w') (hg : g < B) : HB w' g t cs := (k.block g hg).trans h
set_option maxHeartbeats 4000000 in
theorem text_good (f : Fo) (A : Option Addr) (c : Nat) (w : World) (hl : f.len ≤ maxLen) (h : f.At w A) (hc : f.chkC = 0) (T : List UInt8) (C : Int) (hT : (4000 < f.lines.length → T = [] ∧ C = 10) ∧ (¬ 4000 < f.lines.length → T = f.lines ∧ C = 0)) : Calls Try.prog 10 #[.slice A f.len c] w (GivesS T C 0 w) := by
  have H1 := Lib.hid (fun (W : World) (hW : f.At W A) => check_any f A c W hl hW)
  obtain ⟨hi0, hsz, hb0⟩ := Fo.chk_good hc
  rw [hc, hi0] at H1
  have hlen := Fo.lines_len f 0 hb0
  have hlen2 : f.lines.length ≤ 200000 := by omega
  have HA := Lib.hid h
  have HT := Lib.hid hT
  unfold maxLen at hl
  generalize hL : f.len = L at *
  have HL := Lib.hid hL
  clear h hi0 hc hb0 hlen hL hsz hT
  go_enter Try.func10, Try.ntmps10
  go_wp2_with fail
  refine (H1.out _ (HA.out.below (new_below _ _))).mono ?_
  rintro e w1 ⟨rfl, hb1⟩
  have R1 := (HB.new w 27 #[.int .i64 0, .int .i64 0]).below hb1
  have HR1 := Lib.hid R1
  have G1 : Hid (Below w.heap.size w w1) := bw_below (Nat.le_refl _) (new_below _ _) hb1
  have l1 := R1.lt
  clear hb1 R1
  go_wp2_with fail
  have HR2 := Lib.hid ((HR1.out.alloc (.cells #[.int .i64 0, .int .i64 0] 27)).alloc (.cells #[.pointer none, .slice none 0 0] 46))
  have G2 : Hid (Below w.heap.size w ((w1.alloc (.cells #[.int .i64 0, .int .i64 0] 27)).alloc (.cells #[.pointer none, .slice none 0 0] 46))) := Lib.hid (Below.alloc (Below.alloc G1.out G1.out.size _) (by have := G1.out.size; simp; omega) _)
  have HBD := Lib.hid (Bd.new (w1.alloc (.cells #[.int .i64 0, .int .i64 0] 27)))
  have hsz : (w1.alloc (.cells #[.int .i64 0, .int .i64 0] 27)).heap.size = w1.heap.size + 1 := by simp
  rw [hsz] at HBD
  have hG1 := G1.out.size
  generalize hw2 : (w1.alloc (.cells #[.int .i64 0, .int .i64 0] 27)).alloc (.cells #[.pointer none, .slice none 0 0] 46) = w2 at *
  generalize hb : w1.heap.size + 1 = b at *
  have hbb : w.heap.size ≤ b ∧ w.heap.size < b := by omega
  obtain ⟨hbb1, hbb2⟩ := hbb
  clear hsz hw2 hb
  go_loopw [16] (fun i wr => ∃ j : Nat, j ≤ L ∧ i = .int .i64 j ∧ Hid (∃ pre, Bd b b pre wr ∧ pre ++ (f.drop j).lines = f.lines) ∧ Hid (HB wr w.heap.size 27 #[.int .i64 0, .int .i64 0]) ∧ Hid (Below w.heap.size w wr)) (fun i _ => L - (intOf i).toNat)
  case atStart => exact ⟨0, by omega, rfl, ⟨_, HBD.out, by rw [Fo.drop_zero]; simp⟩, HR2.out, G2.out⟩
  case round =>
    obtain ⟨j, hj, rfl, HP, HR, HW⟩ := hrel
    obtain ⟨pre, hbd, he⟩ := HP.out
    have HBB := Lib.hid hbd
    have HE := Lib.hid he
    have hbl := hbd.lt
    have hwl := HR.out.lt
    have hble := hbd.le
    clear hbd he HP HBD HR2 G2
    by_cases hlj : j < L
    · obtain ⟨bb, o, s', l', k', A', c', rfl, hbb, hd, c0, c1, c2, hs, hk1, hk2, hk3⟩ := fo_cell_in HA.out HW.out (by rw [HL.out]; exact hlj)
      have HD := Lib.hid hd
      have HKA := Lib.hid hk3
      have LK := Lib.hid (Nat.le_trans hk1 hk2)
      have t3 : decide ((j : Int) < L) = true := by simpa using hlj
      have hlenE : pre.length + ((oneT s' l' k').length + 1) ≤ 200000 := by
        have := congrArg List.length HE.out
        rw [Fo.lines_drop HD.out] at this
        simp only [List.length_append, List.length_cons] at this
        omega
      clear hd hk3 hk1 hk2 hs
      go_wp2_with fail
      refine (write_any (k'.size + 1) s' l' k' A' c' b b pre w _ (by omega) LK.out HKA.out (HBB.out.alloc _) (Below.alloc HW.out HW.out.size _) hbb1 (by omega)).mono ?_
      rintro e w3 ⟨rfl, hb3, hw3, hk3⟩
      have H3 := Lib.hid hb3
      have G3 : Hid (Below b wr w3) := (Below.alloc (Below.refl b wr) hble _).trans hw3
      clear hb3 hw3 hk3
      go_wp2_with fail
      refine (writebyte_any b b (pre ++ oneT s' l' k') 10 _ H3.out (by simp; omega)).mono ?_
      rintro e w4 ⟨rfl, hb4, hw4, hk4⟩
      have H4 := Lib.hid hb4
      have G4 : Hid (Below b wr w4) := G3.out.trans hw4
      clear hb4 hw4 hk4
      go_wp2_with fail
      go_round
      case rel => exact ⟨j + 1, by omega, by go_num, ⟨_, H4.out, by
        have := HE.out
        rw [Fo.lines_drop HD.out] at this
        simpa using this⟩, HR.out.into G4.out hbb2, HW.out.trans (G4.out.mono hbb1)⟩
      case measure => simp [intOf]; omega
    · have HE2 := Lib.hid (show pre = f.lines by have := HE.out; rw [drop_here HL.out hlj hj] at this; simpa [Fo.lines] using this)
      obtain rfl : j = L := by omega
      have t3 : decide ((j : Int) < j) = false := by simp
      obtain ⟨r0, r1, r2, r3⟩ := HR.out.two
      go_wp2_with fail
      refine (Try.Builder_Len b b (Lib.byteCells pre) _ HBB.out.lib).mono ?_
      rintro e w3 ⟨rfl, rfl⟩
      rw [Lib.byteCells_length, show pre.length = f.lines.length by rw [HE2.out]]
      by_cases h4 : 4000 < f.lines.length
      · have d4 : decide ((4000 : Int) < f.lines.length) = true := by simp; omega
        obtain ⟨rfl, rfl⟩ := HT.out.1 h4
        go_wp2_with fail
        refine bodyPost_ret (v := .tuple #[.string ⟨#[]⟩, .agg #[.int .i64 10, .int .i64 0]]) (by simp [results, Try.results10, go_sem, r0, r1]) rfl ⟨rfl, ?_⟩
        exact bw_far HW.out (Nat.le_refl _) (far2 _ _ _ _)
      · have d4 : decide ((4000 : Int) < f.lines.length) = false := by simp; omega
        obtain ⟨rfl, rfl⟩ := HT.out.2 h4
        clear HT
        go_wp2_with fail
        refine (Try.Builder_String_any b b pre _ HBB.out.lib hble).mono ?_
        rintro e w4 ⟨rfl, hw4⟩
        have G4 : Hid (Below w.heap.size w w4) := HW.out.trans (hw4.mono hbb1)
        have R4 := HR.out.into hw4 hbb2
        clear hw4 r0 r1 r2 r3
        obtain ⟨r0, r1, r2, r3⟩ := R4.two
        rw [HE2.out]
        go_wp2_with fail
        refine bodyPost_ret (v := .tuple #[.string ⟨f.lines.toArray⟩, .agg #[.int .i64 0, .int .i64 0]]) (by simp [results, Try.results10, go_sem, r0, r1]) rfl ⟨rfl, ?_⟩
        exact bw_far G4.out (Nat.le_refl _) (far2 _ _ _ _)
theorem text_any (f : Fo) (A : Option Addr) (c : Nat) (w : World) (hl : f.len ≤ maxLen) (h : f.At w A) : Calls Try.prog 10 #[.slice A f.len c] w (GivesS f.txS f.txC f.txI w) := by
  by_cases hc : f.chkC = 0
  · have e : f.txI = 0 := by simp [Fo.txI, hc]
    rw [e]
    refine text_good f A c w hl h hc f.txS f.txC ⟨fun z => ?_, fun z => ?_⟩
    · simp [Fo.txS, Fo.txC, hc, z]
    · simp [Fo.txS, Fo.txC, hc, z]
  · have e : f.txS = [] ∧ f.txC = f.chkC ∧ f.txI = f.chkI := by simp [Fo.txS, Fo.txC, Fo.txI, hc]
    rw [e.1, e.2.1, e.2.2]
    exact text_bad f A c w hl h hc
end Go.Proofs.Ytgkhkdohlbchoaa
