/-
  Values of nodes: words.
-/
import Derived.Test.YtaodebpogibimaaGreatG02
namespace Go.Proofs.YtaodebpogibimaaGreat
open Go.RowKit

/-- The value of an operator on words of a sort with m values. -/
def wrdF (op N m : Int) (fs : List (Int × Int)) : Int :=
  if op = 15 then N else if op = 16 then m - 1 - (cn fs 0).1 else if op = 17 then bits .and .i64 (cn fs 0).1 (cn fs 1).1 else if op = 18 then bits .or .i64 (cn fs 0).1 (cn fs 1).1 else if op = 19 then bits .xor .i64 (cn fs 0).1 (cn fs 1).1
  else if op = 20 then ((cn fs 0).1 + (cn fs 1).1) % m else if op = 21 then ((cn fs 0).1 * (cn fs 1).1) % m else ((cn fs 0).1 * 2 ^ N.toNat) % m
theorem word1_any (fs : List (Int × Int)) (A : Option Addr) (c i g : Nat) (hi : i < fs.length) (_hm : fs.length ≤ maxLen) (w : World) (hg : HB w g 73 #[.slice A fs.length c]) (h : CsAt w A fs) :
    Calls Tryz.prog 85 #[.int .i64 i, .pointer (some ⟨g, 0, none⟩)] w fun e w' => e = .returned (.int .i64 (cn fs i).1) ∧ w' = w := by
  obtain ⟨b, o, rfl, hb, c0, c1⟩ := cs_at (i := i) h hi
  have g0 := hg.cell 0
  simp only [List.getElem?_toArray, List.getElem?_cons_zero] at g0
  unfold maxLen at _hm
  have l0 : (i : Int) < fs.length := by omega
  generalize fs.length = L at *
  generalize (cn fs i).1 = n0 at *
  generalize (cn fs i).2 = d0 at *
  clear h hg c1
  go_enter Tryz.func85, Tryz.ntmps85
  go_wp2_with fail
  go_ret
  exact ⟨rfl, rfl⟩
theorem bw_dn {B : Nat} {a w : World} (h : Below B a w) (n : Nat) : Below B a (w.drewN n) := ⟨h.os, h.tape, h.output, h.size, h.block⟩
theorem enters_wrd1 : Enters 85 := fun args w => by kernel_rfl
set_option maxRecDepth 100000 in
set_option maxHeartbeats 2000000 in
theorem word_const (N D m : Int) (nm : ByteArray) (Ak : Option Addr) (kl kc : Nat) (fs : List (Int × Int)) (A : Option Addr) (c : Nat) (w : World) :
    Calls Tryz.prog 40 #[.agg #[.int .i64 15, .slice Ak kl kc, .int .i64 N, .int .i64 D, .string nm], .int .i64 m, .slice A fs.length c] w fun e w' => e = .returned (.int .i64 (wrdF 15 N m fs)) ∧ Below w.heap.size w w' := by
  rw [show wrdF 15 N m fs = N from rfl]
  generalize fs.length = L at *
  go_enter Tryz.func40, Tryz.ntmps40
  go_wp2_with fail
  go_ret
  exact ⟨rfl, by go_grown⟩
set_option maxRecDepth 100000 in
set_option maxHeartbeats 2000000 in
theorem word_not (N D m : Int) (nm : ByteArray) (Ak : Option Addr) (kl kc : Nat) (fs : List (Int × Int)) (A : Option Addr) (c : Nat) (hl : 1 ≤ fs.length) (hm : fs.length ≤ maxLen) (m1 : 2 ≤ m) (m2 : m ≤ 256) (a0 : 0 ≤ (cn fs 0).1) (a1 : (cn fs 0).1 < m) (w : World) (h : CsAt w A fs) :
    Calls Tryz.prog 40 #[.agg #[.int .i64 16, .slice Ak kl kc, .int .i64 N, .int .i64 D, .string nm], .int .i64 m, .slice A fs.length c] w fun e w' => e = .returned (.int .i64 (wrdF 16 N m fs)) ∧ Below w.heap.size w w' := by
  rw [show wrdF 16 N m fs = m - 1 - (cn fs 0).1 from rfl]
  have HW : Hid (∀ W (i g : Nat), i < 1 → Below w.heap.size w W → HB W g 73 #[.slice A fs.length c] → Calls Tryz.prog 85 #[.int .i64 i, .pointer (some ⟨g, 0, none⟩)] W fun e w' => e = .returned (.int .i64 (cn fs i).1) ∧ w' = W) := Lib.hid (fun W i g hi k hg => word1_any fs A c i g (by omega) hm W hg (h.below k))
  have X0 : Hid (∀ W (g : Nat), Below w.heap.size w W → HB W g 73 #[.slice A fs.length c] → Calls Tryz.prog 85 #[.int .i64 0, .pointer (some ⟨g, 0, none⟩)] W fun e w' => e = .returned (.int .i64 (cn fs 0).1) ∧ w' = W) := Lib.hid (fun W g k hg => HW.out W 0 g (by omega) k hg)
  unfold maxLen at hm
  generalize fs.length = L at *
  generalize (cn fs 0).1 = a at *
  have q0 : IntKind.i64.wrap (m - 1) = m - 1 := IntWalk.i64_in _ (by omega)
  have q1 : IntKind.i64.wrap (m - 1 - a) = m - 1 - a := IntWalk.i64_in _ (by omega)
  clear HW h
  have HG : Hid (HB (((w.alloc (.cells #[.int .i64 16, .slice Ak kl kc, .int .i64 N, .int .i64 D, .string nm] 56))).alloc (.cells #[.slice A L c] 73)) (w.heap.size + 1) 73 #[.slice A L c]) := Lib.hid (HB.new1 _ _ _ _)
  have BW : Hid (Below w.heap.size w (((w.alloc (.cells #[.int .i64 16, .slice Ak kl kc, .int .i64 N, .int .i64 D, .string nm] 56))).alloc (.cells #[.slice A L c] 73))) := Lib.hid (by go_grown)
  go_enter Tryz.func40, Tryz.ntmps40
  go_wp2_with fail
  refine (X0.out _ _ BW.out HG.out).mono ?_
  rintro e w1 ⟨rfl, rfl⟩
  go_wp2_with fail
  go_ret
  exact ⟨rfl, BW.out⟩
set_option maxRecDepth 100000 in
set_option maxHeartbeats 2000000 in
theorem word_and (N D m : Int) (nm : ByteArray) (Ak : Option Addr) (kl kc : Nat) (fs : List (Int × Int)) (A : Option Addr) (c : Nat) (hl : 2 ≤ fs.length) (hm : fs.length ≤ maxLen) (_m1 : 2 ≤ m) (_m2 : m ≤ 256) (_a0 : 0 ≤ (cn fs 0).1) (_a1 : (cn fs 0).1 < m) (_b0 : 0 ≤ (cn fs 1).1) (_b1 : (cn fs 1).1 < m) (w : World) (h : CsAt w A fs) :
    Calls Tryz.prog 40 #[.agg #[.int .i64 17, .slice Ak kl kc, .int .i64 N, .int .i64 D, .string nm], .int .i64 m, .slice A fs.length c] w fun e w' => e = .returned (.int .i64 (wrdF 17 N m fs)) ∧ Below w.heap.size w w' := by
  rw [show wrdF 17 N m fs = bits .and .i64 (cn fs 0).1 (cn fs 1).1 from rfl]
  have HW : Hid (∀ W (i g : Nat), i < 2 → Below w.heap.size w W → HB W g 73 #[.slice A fs.length c] → Calls Tryz.prog 85 #[.int .i64 i, .pointer (some ⟨g, 0, none⟩)] W fun e w' => e = .returned (.int .i64 (cn fs i).1) ∧ w' = W) := Lib.hid (fun W i g hi k hg => word1_any fs A c i g (by omega) hm W hg (h.below k))
  have X0 : Hid (∀ W (g : Nat), Below w.heap.size w W → HB W g 73 #[.slice A fs.length c] → Calls Tryz.prog 85 #[.int .i64 0, .pointer (some ⟨g, 0, none⟩)] W fun e w' => e = .returned (.int .i64 (cn fs 0).1) ∧ w' = W) := Lib.hid (fun W g k hg => HW.out W 0 g (by omega) k hg)
  have X1 : Hid (∀ W (g : Nat), Below w.heap.size w W → HB W g 73 #[.slice A fs.length c] → Calls Tryz.prog 85 #[.int .i64 1, .pointer (some ⟨g, 0, none⟩)] W fun e w' => e = .returned (.int .i64 (cn fs 1).1) ∧ w' = W) := Lib.hid (fun W g k hg => HW.out W 1 g (by omega) k hg)
  unfold maxLen at hm
  generalize fs.length = L at *
  generalize (cn fs 0).1 = a at *
  generalize (cn fs 1).1 = b at *
  clear HW h
  have HG : Hid (HB (((w.alloc (.cells #[.int .i64 17, .slice Ak kl kc, .int .i64 N, .int .i64 D, .string nm] 56))).alloc (.cells #[.slice A L c] 73)) (w.heap.size + 1) 73 #[.slice A L c]) := Lib.hid (HB.new1 _ _ _ _)
  have BW : Hid (Below w.heap.size w (((w.alloc (.cells #[.int .i64 17, .slice Ak kl kc, .int .i64 N, .int .i64 D, .string nm] 56))).alloc (.cells #[.slice A L c] 73))) := Lib.hid (by go_grown)
  go_enter Tryz.func40, Tryz.ntmps40
  go_wp2_with fail
  refine (X0.out _ _ BW.out HG.out).mono ?_
  rintro e w1 ⟨rfl, rfl⟩
  go_wp2_with fail
  refine (X1.out _ _ BW.out HG.out).mono ?_
  rintro e w2 ⟨rfl, rfl⟩
  go_wp2_with fail
  go_ret
  exact ⟨rfl, BW.out⟩
set_option maxRecDepth 100000 in
set_option maxHeartbeats 2000000 in
theorem word_or (N D m : Int) (nm : ByteArray) (Ak : Option Addr) (kl kc : Nat) (fs : List (Int × Int)) (A : Option Addr) (c : Nat) (hl : 2 ≤ fs.length) (hm : fs.length ≤ maxLen) (_m1 : 2 ≤ m) (_m2 : m ≤ 256) (_a0 : 0 ≤ (cn fs 0).1) (_a1 : (cn fs 0).1 < m) (_b0 : 0 ≤ (cn fs 1).1) (_b1 : (cn fs 1).1 < m) (w : World) (h : CsAt w A fs) :
    Calls Tryz.prog 40 #[.agg #[.int .i64 18, .slice Ak kl kc, .int .i64 N, .int .i64 D, .string nm], .int .i64 m, .slice A fs.length c] w fun e w' => e = .returned (.int .i64 (wrdF 18 N m fs)) ∧ Below w.heap.size w w' := by
  rw [show wrdF 18 N m fs = bits .or .i64 (cn fs 0).1 (cn fs 1).1 from rfl]
  have HW : Hid (∀ W (i g : Nat), i < 2 → Below w.heap.size w W → HB W g 73 #[.slice A fs.length c] → Calls Tryz.prog 85 #[.int .i64 i, .pointer (some ⟨g, 0, none⟩)] W fun e w' => e = .returned (.int .i64 (cn fs i).1) ∧ w' = W) := Lib.hid (fun W i g hi k hg => word1_any fs A c i g (by omega) hm W hg (h.below k))
  have X0 : Hid (∀ W (g : Nat), Below w.heap.size w W → HB W g 73 #[.slice A fs.length c] → Calls Tryz.prog 85 #[.int .i64 0, .pointer (some ⟨g, 0, none⟩)] W fun e w' => e = .returned (.int .i64 (cn fs 0).1) ∧ w' = W) := Lib.hid (fun W g k hg => HW.out W 0 g (by omega) k hg)
  have X1 : Hid (∀ W (g : Nat), Below w.heap.size w W → HB W g 73 #[.slice A fs.length c] → Calls Tryz.prog 85 #[.int .i64 1, .pointer (some ⟨g, 0, none⟩)] W fun e w' => e = .returned (.int .i64 (cn fs 1).1) ∧ w' = W) := Lib.hid (fun W g k hg => HW.out W 1 g (by omega) k hg)
  unfold maxLen at hm
  generalize fs.length = L at *
  generalize (cn fs 0).1 = a at *
  generalize (cn fs 1).1 = b at *
  clear HW h
  have HG : Hid (HB (((w.alloc (.cells #[.int .i64 18, .slice Ak kl kc, .int .i64 N, .int .i64 D, .string nm] 56))).alloc (.cells #[.slice A L c] 73)) (w.heap.size + 1) 73 #[.slice A L c]) := Lib.hid (HB.new1 _ _ _ _)
  have BW : Hid (Below w.heap.size w (((w.alloc (.cells #[.int .i64 18, .slice Ak kl kc, .int .i64 N, .int .i64 D, .string nm] 56))).alloc (.cells #[.slice A L c] 73))) := Lib.hid (by go_grown)
  go_enter Tryz.func40, Tryz.ntmps40
  go_wp2_with fail
  refine (X0.out _ _ BW.out HG.out).mono ?_
  rintro e w1 ⟨rfl, rfl⟩
  go_wp2_with fail
  refine (X1.out _ _ BW.out HG.out).mono ?_
  rintro e w2 ⟨rfl, rfl⟩
  go_wp2_with fail
  go_ret
  exact ⟨rfl, BW.out⟩
set_option maxRecDepth 100000 in
set_option maxHeartbeats 2000000 in
theorem word_xor (N D m : Int) (nm : ByteArray) (Ak : Option Addr) (kl kc : Nat) (fs : List (Int × Int)) (A : Option Addr) (c : Nat) (hl : 2 ≤ fs.length) (hm : fs.length ≤ maxLen) (_m1 : 2 ≤ m) (_m2 : m ≤ 256) (_a0 : 0 ≤ (cn fs 0).1) (_a1 : (cn fs 0).1 < m) (_b0 : 0 ≤ (cn fs 1).1) (_b1 : (cn fs 1).1 < m) (w : World) (h : CsAt w A fs) :
    Calls Tryz.prog 40 #[.agg #[.int .i64 19, .slice Ak kl kc, .int .i64 N, .int .i64 D, .string nm], .int .i64 m, .slice A fs.length c] w fun e w' => e = .returned (.int .i64 (wrdF 19 N m fs)) ∧ Below w.heap.size w w' := by
  rw [show wrdF 19 N m fs = bits .xor .i64 (cn fs 0).1 (cn fs 1).1 from rfl]
  have HW : Hid (∀ W (i g : Nat), i < 2 → Below w.heap.size w W → HB W g 73 #[.slice A fs.length c] → Calls Tryz.prog 85 #[.int .i64 i, .pointer (some ⟨g, 0, none⟩)] W fun e w' => e = .returned (.int .i64 (cn fs i).1) ∧ w' = W) := Lib.hid (fun W i g hi k hg => word1_any fs A c i g (by omega) hm W hg (h.below k))
  have X0 : Hid (∀ W (g : Nat), Below w.heap.size w W → HB W g 73 #[.slice A fs.length c] → Calls Tryz.prog 85 #[.int .i64 0, .pointer (some ⟨g, 0, none⟩)] W fun e w' => e = .returned (.int .i64 (cn fs 0).1) ∧ w' = W) := Lib.hid (fun W g k hg => HW.out W 0 g (by omega) k hg)
  have X1 : Hid (∀ W (g : Nat), Below w.heap.size w W → HB W g 73 #[.slice A fs.length c] → Calls Tryz.prog 85 #[.int .i64 1, .pointer (some ⟨g, 0, none⟩)] W fun e w' => e = .returned (.int .i64 (cn fs 1).1) ∧ w' = W) := Lib.hid (fun W g k hg => HW.out W 1 g (by omega) k hg)
  unfold maxLen at hm
  generalize fs.length = L at *
  generalize (cn fs 0).1 = a at *
  generalize (cn fs 1).1 = b at *
  clear HW h
  have HG : Hid (HB (((w.alloc (.cells #[.int .i64 19, .slice Ak kl kc, .int .i64 N, .int .i64 D, .string nm] 56))).alloc (.cells #[.slice A L c] 73)) (w.heap.size + 1) 73 #[.slice A L c]) := Lib.hid (HB.new1 _ _ _ _)
  have BW : Hid (Below w.heap.size w (((w.alloc (.cells #[.int .i64 19, .slice Ak kl kc, .int .i64 N, .int .i64 D, .string nm] 56))).alloc (.cells #[.slice A L c] 73))) := Lib.hid (by go_grown)
  go_enter Tryz.func40, Tryz.ntmps40
  go_wp2_with fail
  refine (X0.out _ _ BW.out HG.out).mono ?_
  rintro e w1 ⟨rfl, rfl⟩
  go_wp2_with fail
  refine (X1.out _ _ BW.out HG.out).mono ?_
  rintro e w2 ⟨rfl, rfl⟩
  go_wp2_with fail
  go_ret
  exact ⟨rfl, BW.out⟩
set_option maxRecDepth 100000 in
set_option maxHeartbeats 2000000 in
theorem word_add (N D m : Int) (nm : ByteArray) (Ak : Option Addr) (kl kc : Nat) (fs : List (Int × Int)) (A : Option Addr) (c : Nat) (hl : 2 ≤ fs.length) (hm : fs.length ≤ maxLen) (m1 : 2 ≤ m) (m2 : m ≤ 256) (a0 : 0 ≤ (cn fs 0).1) (a1 : (cn fs 0).1 < m) (b0 : 0 ≤ (cn fs 1).1) (b1 : (cn fs 1).1 < m) (w : World) (h : CsAt w A fs) :
    Calls Tryz.prog 40 #[.agg #[.int .i64 20, .slice Ak kl kc, .int .i64 N, .int .i64 D, .string nm], .int .i64 m, .slice A fs.length c] w fun e w' => e = .returned (.int .i64 (wrdF 20 N m fs)) ∧ Below w.heap.size w w' := by
  rw [show wrdF 20 N m fs = ((cn fs 0).1 + (cn fs 1).1) % m from rfl]
  have HW : Hid (∀ W (i g : Nat), i < 2 → Below w.heap.size w W → HB W g 73 #[.slice A fs.length c] → Calls Tryz.prog 85 #[.int .i64 i, .pointer (some ⟨g, 0, none⟩)] W fun e w' => e = .returned (.int .i64 (cn fs i).1) ∧ w' = W) := Lib.hid (fun W i g hi k hg => word1_any fs A c i g (by omega) hm W hg (h.below k))
  have X0 : Hid (∀ W (g : Nat), Below w.heap.size w W → HB W g 73 #[.slice A fs.length c] → Calls Tryz.prog 85 #[.int .i64 0, .pointer (some ⟨g, 0, none⟩)] W fun e w' => e = .returned (.int .i64 (cn fs 0).1) ∧ w' = W) := Lib.hid (fun W g k hg => HW.out W 0 g (by omega) k hg)
  have X1 : Hid (∀ W (g : Nat), Below w.heap.size w W → HB W g 73 #[.slice A fs.length c] → Calls Tryz.prog 85 #[.int .i64 1, .pointer (some ⟨g, 0, none⟩)] W fun e w' => e = .returned (.int .i64 (cn fs 1).1) ∧ w' = W) := Lib.hid (fun W g k hg => HW.out W 1 g (by omega) k hg)
  unfold maxLen at hm
  generalize fs.length = L at *
  generalize (cn fs 0).1 = a at *
  generalize (cn fs 1).1 = b at *
  have tm : (m == 0) = false := by simp; omega
  have tm' : m ≠ 0 := by omega
  have q0 : IntKind.i64.wrap (a + b) = a + b := IntWalk.i64_in _ (by omega)
  clear HW h
  have HG : Hid (HB (((w.alloc (.cells #[.int .i64 20, .slice Ak kl kc, .int .i64 N, .int .i64 D, .string nm] 56))).alloc (.cells #[.slice A L c] 73)) (w.heap.size + 1) 73 #[.slice A L c]) := Lib.hid (HB.new1 _ _ _ _)
  have BW : Hid (Below w.heap.size w (((w.alloc (.cells #[.int .i64 20, .slice Ak kl kc, .int .i64 N, .int .i64 D, .string nm] 56))).alloc (.cells #[.slice A L c] 73))) := Lib.hid (by go_grown)
  go_enter Tryz.func40, Tryz.ntmps40
  go_wp2_with fail
  refine (X0.out _ _ BW.out HG.out).mono ?_
  rintro e w1 ⟨rfl, rfl⟩
  go_wp2_with fail
  refine (X1.out _ _ BW.out HG.out).mono ?_
  rintro e w2 ⟨rfl, rfl⟩
  go_wp2_with fail
  go_ret
  exact ⟨rfl, BW.out⟩
set_option maxRecDepth 100000 in
set_option maxHeartbeats 2000000 in
theorem word_times (N D m : Int) (nm : ByteArray) (Ak : Option Addr) (kl kc : Nat) (fs : List (Int × Int)) (A : Option Addr) (c : Nat) (hl : 2 ≤ fs.length) (hm : fs.length ≤ maxLen) (m1 : 2 ≤ m) (m2 : m ≤ 256) (a0 : 0 ≤ (cn fs 0).1) (a1 : (cn fs 0).1 < m) (b0 : 0 ≤ (cn fs 1).1) (b1 : (cn fs 1).1 < m) (w : World) (h : CsAt w A fs) :
    Calls Tryz.prog 40 #[.agg #[.int .i64 21, .slice Ak kl kc, .int .i64 N, .int .i64 D, .string nm], .int .i64 m, .slice A fs.length c] w fun e w' => e = .returned (.int .i64 (wrdF 21 N m fs)) ∧ Below w.heap.size w w' := by
  rw [show wrdF 21 N m fs = ((cn fs 0).1 * (cn fs 1).1) % m from rfl]
  have HW : Hid (∀ W (i g : Nat), i < 2 → Below w.heap.size w W → HB W g 73 #[.slice A fs.length c] → Calls Tryz.prog 85 #[.int .i64 i, .pointer (some ⟨g, 0, none⟩)] W fun e w' => e = .returned (.int .i64 (cn fs i).1) ∧ w' = W) := Lib.hid (fun W i g hi k hg => word1_any fs A c i g (by omega) hm W hg (h.below k))
  have X0 : Hid (∀ W (g : Nat), Below w.heap.size w W → HB W g 73 #[.slice A fs.length c] → Calls Tryz.prog 85 #[.int .i64 0, .pointer (some ⟨g, 0, none⟩)] W fun e w' => e = .returned (.int .i64 (cn fs 0).1) ∧ w' = W) := Lib.hid (fun W g k hg => HW.out W 0 g (by omega) k hg)
  have X1 : Hid (∀ W (g : Nat), Below w.heap.size w W → HB W g 73 #[.slice A fs.length c] → Calls Tryz.prog 85 #[.int .i64 1, .pointer (some ⟨g, 0, none⟩)] W fun e w' => e = .returned (.int .i64 (cn fs 1).1) ∧ w' = W) := Lib.hid (fun W g k hg => HW.out W 1 g (by omega) k hg)
  unfold maxLen at hm
  generalize fs.length = L at *
  generalize (cn fs 0).1 = a at *
  generalize (cn fs 1).1 = b at *
  have tm : (m == 0) = false := by simp; omega
  have tm' : m ≠ 0 := by omega
  have ab1 : 0 ≤ a * b := Int.mul_nonneg a0 b0
  have ab2 : a * b ≤ 65536 := by
    have h1 : a * b ≤ 256 * b := Int.mul_le_mul_of_nonneg_right (by omega) b0
    omega
  have q0 : IntKind.i64.wrap (a * b) = a * b := IntWalk.i64_in _ (by omega)
  clear HW h
  have HG : Hid (HB (((w.alloc (.cells #[.int .i64 21, .slice Ak kl kc, .int .i64 N, .int .i64 D, .string nm] 56))).alloc (.cells #[.slice A L c] 73)) (w.heap.size + 1) 73 #[.slice A L c]) := Lib.hid (HB.new1 _ _ _ _)
  have BW : Hid (Below w.heap.size w (((w.alloc (.cells #[.int .i64 21, .slice Ak kl kc, .int .i64 N, .int .i64 D, .string nm] 56))).alloc (.cells #[.slice A L c] 73))) := Lib.hid (by go_grown)
  go_enter Tryz.func40, Tryz.ntmps40
  go_wp2_with fail
  refine (X0.out _ _ BW.out HG.out).mono ?_
  rintro e w1 ⟨rfl, rfl⟩
  go_wp2_with fail
  refine (X1.out _ _ BW.out HG.out).mono ?_
  rintro e w2 ⟨rfl, rfl⟩
  go_wp2_with fail
  go_ret
  exact ⟨rfl, BW.out⟩
set_option maxRecDepth 100000 in
set_option maxHeartbeats 2000000 in
theorem word_left (N D m : Int) (nm : ByteArray) (Ak : Option Addr) (kl kc : Nat) (fs : List (Int × Int)) (A : Option Addr) (c : Nat) (hl : 1 ≤ fs.length) (hm : fs.length ≤ maxLen) (m1 : 2 ≤ m) (m2 : m ≤ 256) (a0 : 0 ≤ (cn fs 0).1) (a1 : (cn fs 0).1 < m) (n0 : 0 ≤ N) (n8 : N ≤ 8) (w : World) (h : CsAt w A fs) :
    Calls Tryz.prog 40 #[.agg #[.int .i64 23, .slice Ak kl kc, .int .i64 N, .int .i64 D, .string nm], .int .i64 m, .slice A fs.length c] w fun e w' => e = .returned (.int .i64 (wrdF 23 N m fs)) ∧ Below w.heap.size w w' := by
  rw [show wrdF 23 N m fs = ((cn fs 0).1 * 2 ^ N.toNat) % m from rfl]
  obtain ⟨k, rfl⟩ : ∃ k : Nat, N = k := ⟨N.toNat, by omega⟩
  rw [show ((k : Int)).toNat = k by simp]
  have HW : Hid (∀ W (i g : Nat), i < 1 → Below w.heap.size w W → HB W g 73 #[.slice A fs.length c] → Calls Tryz.prog 85 #[.int .i64 i, .pointer (some ⟨g, 0, none⟩)] W fun e w' => e = .returned (.int .i64 (cn fs i).1) ∧ w' = W) := Lib.hid (fun W i g hi k hg => word1_any fs A c i g (by omega) hm W hg (h.below k))
  have X0 : Hid (∀ W (g : Nat), Below w.heap.size w W → HB W g 73 #[.slice A fs.length c] → Calls Tryz.prog 85 #[.int .i64 0, .pointer (some ⟨g, 0, none⟩)] W fun e w' => e = .returned (.int .i64 (cn fs 0).1) ∧ w' = W) := Lib.hid (fun W g k hg => HW.out W 0 g (by omega) k hg)
  unfold maxLen at hm
  generalize fs.length = L at *
  generalize (cn fs 0).1 = a at *
  have tm : (m == 0) = false := by simp; omega
  have tm' : m ≠ 0 := by omega
  have k8 : k ≤ 8 := by omega
  have s0 : 0 ≤ a * 2 ^ k := Int.mul_nonneg a0 (Int.le_of_lt (Int.pow_pos (by decide)))
  have s1 : a * 2 ^ k ≤ 65536 := by
    have h2 : (2 : Int) ^ k ≤ 256 := by
      have : k = 0 ∨ k = 1 ∨ k = 2 ∨ k = 3 ∨ k = 4 ∨ k = 5 ∨ k = 6 ∨ k = 7 ∨ k = 8 := by omega
      rcases this with rfl | rfl | rfl | rfl | rfl | rfl | rfl | rfl | rfl <;> decide
    have h1 : a * 2 ^ k ≤ 256 * 2 ^ k := Int.mul_le_mul_of_nonneg_right (by omega) (Int.le_of_lt (Int.pow_pos (by decide)))
    omega
  have q0 : IntKind.i64.wrap (a * 2 ^ k) = a * 2 ^ k := IntWalk.i64_in _ (by omega)
  have q2 : min k 64 = k := by omega
  clear HW h
  have HG : Hid (HB (((w.alloc (.cells #[.int .i64 23, .slice Ak kl kc, .int .i64 (k : Int), .int .i64 D, .string nm] 56))).alloc (.cells #[.slice A L c] 73)) (w.heap.size + 1) 73 #[.slice A L c]) := Lib.hid (HB.new1 _ _ _ _)
  have BW : Hid (Below w.heap.size w (((w.alloc (.cells #[.int .i64 23, .slice Ak kl kc, .int .i64 (k : Int), .int .i64 D, .string nm] 56))).alloc (.cells #[.slice A L c] 73))) := Lib.hid (by go_grown)
  go_enter Tryz.func40, Tryz.ntmps40
  go_wp2_with fail
  go_quiet (exact Calls.quiet_of_same (X0.out _ _ (bw_dn BW.out _) (HG.out.drewN _)))
  go_wp2_with fail
  go_ret
  exact ⟨rfl, bw_dn BW.out _⟩
end Go.Proofs.YtaodebpogibimaaGreat
