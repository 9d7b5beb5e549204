/-
  sexp.Check and the reference's; the law that compares them.
-/
import Derived.Test.YtgkhkdohlbchoaaSexD
namespace Go.Proofs.Ytgkhkdohlbchoaa
open Go.RowKit

/-- The way in which a call that yields a fault ends. -/
def GivesF (c i : Int) (w : World) (e : Ending) (w' : World) : Prop := e = .returned (.agg #[.int .i64 c, .int .i64 i]) ∧ Below w.heap.size w w'
def Fo.chkC (f : Fo) : Int := if 4000 < f.size then 2 else f.bad 0
def Fo.chkI (f : Fo) : Int := if 4000 < f.size then 0 else if f.bad 0 = 0 then 0 else (f.end_ 0 0 : Int)
set_option maxHeartbeats 2000000 in
theorem check_any (f : Fo) (A : Option Addr) (c : Nat) (w : World) (hl : f.len ≤ maxLen) (h : f.At w A) : Calls Try.prog 15 #[.slice A f.len c] w (GivesF f.chkC f.chkI w) := by
  have HA := Lib.hid h
  have HL := Lib.hid hl
  clear h hl
  generalize hL : f.len = L at *
  have HLL := Lib.hid hL
  have HC := Lib.hid (fun (W : World) (hW : f.At W A) => by have := count_any (f.size + 1) f A c 4001 W (by omega) (by rw [HLL.out]; exact HL.out) (by omega) hW; rw [HLL.out] at this; exact this)
  by_cases hs : 4000 < f.size
  · have e : min f.size 4001 = 4001 := by omega
    rw [e] at HC
    have h1 : Hid (f.chkC = 2 ∧ f.chkI = 0) := Lib.hid (by unfold Fo.chkC Fo.chkI; rw [if_pos hs, if_pos hs]; exact ⟨rfl, rfl⟩)
    clear hs e hL
    go_enter Try.func15, Try.ntmps15
    go_wp2_with fail
    refine (HC.out _ (HA.out.below (new_below _ _))).mono ?_
    rintro e w1 ⟨rfl, hb1⟩
    have R1 := (HB.new w 27 #[.int .i64 0, .int .i64 0]).below hb1
    have G1 : Hid (Below w.heap.size w w1) := bw_below (Nat.le_refl _) (new_below _ _) hb1
    obtain ⟨r0, r1, r2, r3⟩ := R1.two
    clear hb1 R1
    go_wp2_with fail
    refine bodyPost_ret (v := .agg #[.int .i64 2, .int .i64 0]) (by simp [results, Try.results15, go_sem, r0, r1]) rfl ⟨by rw [h1.out.1, h1.out.2], ?_⟩
    exact bw_far G1.out (Nat.le_refl _) (far2 _ _ _ _)
  · have e : min f.size 4001 = f.size := by omega
    rw [e] at HC
    have d1 : decide ((4000 : Int) < f.size) = false := by simp; omega
    have HK := Lib.hid (fun (W : World) (hW : f.At W A) => by have := checkfrom_any (f.size + 1) f A c 0 0 W (by omega) (by rw [HLL.out]; exact HL.out) (by omega) (by omega) hW; rw [HLL.out] at this; exact this)
    unfold GivesC at HK
    generalize hq : f.bad 0 = q at *
    generalize hi : (if q = 0 then 0 else (f.end_ 0 0 : Int)) = i at *
    have h1 : Hid (f.chkC = q ∧ f.chkI = i) := Lib.hid (by unfold Fo.chkC Fo.chkI; rw [if_neg hs, if_neg hs, hq]; exact ⟨rfl, hi⟩)
    clear hs e hL hq hi
    go_enter Try.func15, Try.ntmps15
    go_wp2_with fail
    refine (HC.out _ (HA.out.below (new_below _ _))).mono ?_
    rintro e w1 ⟨rfl, hb1⟩
    have R1 := (HB.new w 27 #[.int .i64 0, .int .i64 0]).below hb1
    have G1 : Hid (Below w.heap.size w w1) := bw_below (Nat.le_refl _) (new_below _ _) hb1
    have HR1 := Lib.hid R1
    clear hb1 R1
    go_wp2_with fail
    refine (HK.out _ (HA.out.below G1.out)).mono ?_
    rintro e w2 ⟨rfl, hb2⟩
    have R2 := HR1.out.below hb2
    have HR2 := Lib.hid R2
    have G2 : Hid (Below w.heap.size w w2) := bw_below (Nat.le_refl _) G1.out hb2
    have l2 := R2.lt
    obtain ⟨r0, r1, r2, r3⟩ := R2.two
    clear hb2 R2
    go_wp2_with fail
    have RR := (hb_set2 (n := .int .i64 q) (d := .int .i64 i) HR2.out).alloc (.cells #[.int .i64 q, .int .i64 i] 27)
    obtain ⟨y0, y1, _, _⟩ := RR.two
    refine bodyPost_ret (v := .agg #[.int .i64 q, .int .i64 i]) (by simp [results, Try.results15, go_sem, y0, y1]) rfl ⟨by rw [h1.out.1, h1.out.2], ?_⟩
    have F := bw_far G2.out (Nat.le_refl _) (far2 w2 w.heap.size (.int .i64 q) (.int .i64 i))
    exact Below.alloc F F.size _
set_option maxHeartbeats 2000000 in
theorem refcheck_any (f : Fo) (A : Option Addr) (c : Nat) (w : World) (hl : f.len ≤ maxLen) (hbig : f.size ≤ 1000000000000000000) (h : f.At w A) : Calls Try.prog 16 #[.slice A f.len c] w (GivesF f.chkC f.chkI w) := by
  have HA := Lib.hid h
  have HL := Lib.hid hl
  clear h hl
  generalize hL : f.len = L at *
  have HLL := Lib.hid hL
  have HC := Lib.hid (fun (W : World) (hW : f.At W A) => by have := sexpcount_any (f.size + 1) f A c W (by omega) (by rw [HLL.out]; exact HL.out) hbig hW; rw [HLL.out] at this; exact this)
  by_cases hs : 4000 < f.size
  · have h1 : Hid (f.chkC = 2 ∧ f.chkI = 0) := Lib.hid (by unfold Fo.chkC Fo.chkI; rw [if_pos hs, if_pos hs]; exact ⟨rfl, rfl⟩)
    have d1 : decide ((4000 : Int) < f.size) = true := by simp; omega
    clear hL
    go_enter Try.func16, Try.ntmps16
    go_wp2_with fail
    refine (HC.out _ (HA.out.below (new_below _ _))).mono ?_
    rintro e w1 ⟨rfl, hb1⟩
    have R1 := (HB.new w 27 #[.int .i64 0, .int .i64 0]).below hb1
    have G1 : Hid (Below w.heap.size w w1) := bw_below (Nat.le_refl _) (new_below _ _) hb1
    obtain ⟨r0, r1, r2, r3⟩ := R1.two
    clear hb1 R1
    go_wp2_with fail
    refine bodyPost_ret (v := .agg #[.int .i64 2, .int .i64 0]) (by simp [results, Try.results16, go_sem, r0, r1]) rfl ⟨by rw [h1.out.1, h1.out.2], ?_⟩
    exact bw_far G1.out (Nat.le_refl _) (far2 _ _ _ _)
  · have d1 : decide ((4000 : Int) < f.size) = false := by simp; omega
    have HK := Lib.hid (fun (W : World) (hW : f.At W A) => by have := sexpfault_any (f.size + 1) f A c 0 0 W (by omega) (by rw [HLL.out]; exact HL.out) (by omega) (by omega) hW; rw [HLL.out] at this; exact this)
    unfold GivesC at HK
    generalize hq : f.bad 0 = q at *
    generalize hi : (if q = 0 then 0 else (f.end_ 0 0 : Int)) = i at *
    have h1 : Hid (f.chkC = q ∧ f.chkI = i) := Lib.hid (by unfold Fo.chkC Fo.chkI; rw [if_neg hs, if_neg hs, hq]; exact ⟨rfl, hi⟩)
    clear hL hq hi
    go_enter Try.func16, Try.ntmps16
    go_wp2_with fail
    refine (HC.out _ (HA.out.below (new_below _ _))).mono ?_
    rintro e w1 ⟨rfl, hb1⟩
    have R1 := (HB.new w 27 #[.int .i64 0, .int .i64 0]).below hb1
    have G1 : Hid (Below w.heap.size w w1) := bw_below (Nat.le_refl _) (new_below _ _) hb1
    have HR1 := Lib.hid R1
    clear hb1 R1
    go_wp2_with fail
    refine (HK.out _ (HA.out.below G1.out)).mono ?_
    rintro e w2 ⟨rfl, hb2⟩
    have R2 := HR1.out.below hb2
    have HR2 := Lib.hid R2
    have G2 : Hid (Below w.heap.size w w2) := bw_below (Nat.le_refl _) G1.out hb2
    have l2 := R2.lt
    obtain ⟨r0, r1, r2, r3⟩ := R2.two
    clear hb2 R2
    go_wp2_with fail
    have RR := (hb_set2 (n := .int .i64 q) (d := .int .i64 i) HR2.out).alloc (.cells #[.int .i64 q, .int .i64 i] 27)
    obtain ⟨y0, y1, _, _⟩ := RR.two
    refine bodyPost_ret (v := .agg #[.int .i64 q, .int .i64 i]) (by simp [results, Try.results16, go_sem, y0, y1]) rfl ⟨by rw [h1.out.1, h1.out.2], ?_⟩
    have F := bw_far G2.out (Nat.le_refl _) (far2 w2 w.heap.size (.int .i64 q) (.int .i64 i))
    exact Below.alloc F F.size _
theorem checksays_any (f : Fo) (A : Option Addr) (c : Nat) (w : World) (hl : f.len ≤ maxLen) (hbig : f.size ≤ 1000000000000000000) (h : f.At w A) : Calls Try.prog 6 #[.slice A f.len c] w fun e w' => e = .returned (.bool true) ∧ Below w.heap.size w w' := by
  have H1 := Lib.hid (fun (W : World) (hW : f.At W A) => check_any f A c W hl hW)
  have H2 := Lib.hid (fun (W : World) (hW : f.At W A) => refcheck_any f A c W hl hbig hW)
  have HA := Lib.hid h
  generalize f.chkC = q at *
  generalize f.chkI = i at *
  generalize f.len = L at *
  clear h hl hbig
  go_enter Try.func6, Try.ntmps6
  go_wp2_with fail
  refine (H1.out _ HA.out).mono ?_
  rintro e w1 ⟨rfl, hb1⟩
  have G1 : Hid (Below w.heap.size w w1) := hb1
  clear hb1
  go_wp2_with fail
  refine (H2.out _ (HA.out.below G1.out)).mono ?_
  rintro e w2 ⟨rfl, hb2⟩
  have G2 : Hid (Below w.heap.size w w2) := bw_below (Nat.le_refl _) G1.out hb2
  clear hb2
  go_wp2_with fail
  go_ret
  exact ⟨by simp, G2.out⟩
end Go.Proofs.Ytgkhkdohlbchoaa
