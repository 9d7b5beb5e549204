/-
  The contracts of Sub, DivMod and Div (by a divisor above 0), by values.
-/
import Derived.Test.YtkjollifghmkbaaWideL
namespace Go.Proofs.Ytkjollifghmkbaa
open Go.RowKit

/-- A number in memory, by its value. -/
def ZAt (w : World) (b o : Nat) (v : Int) : Prop := IntAt w b o (decide (v < 0)) (mag v)
theorem num_of (v : Int) : num (decide (v < 0)) (mag v) = v := by
  unfold num mag
  by_cases h : v < 0 <;> simp [h] <;> omega
theorem z_of {w : World} {b o n : Nat} {s : Bool} (h : IntAt w b o s n) : ZAt w b o (num s n) := by
  unfold ZAt
  obtain ⟨h1, h2⟩ := num_mag s n
  rw [h1]
  have e : decide (num s n < 0) = s := by
    rcases h2 with ⟨z, e⟩ | ⟨_, e⟩
    · rw [e, h.zero z]
    · exact e
  rw [e]; exact h
theorem z_to {w : World} {b o n : Nat} {s : Bool} {v : Int} (h : IntAt w b o s n) (e : num s n = v) : ZAt w b o v := e ▸ z_of h
theorem add_z (b o x ox y oy : Nat) (u v : Int) (M : Nat) (hM : M ≤ 1073741823) (hX : mag u < 4294967296 ^ M) (hY : mag v < 4294967296 ^ M) (w : World) (hz : Hdr w b o) (hx : ZAt w x ox u) (hy : ZAt w y oy v) :
    Calls Try.prog 61 #[.pointer (some ⟨b, o, none⟩), .pointer (some ⟨x, ox, none⟩), .pointer (some ⟨y, oy, none⟩)] w (GivesV b o (u + v) w) := by
  have h := add_any b o x ox y oy (mag u) (mag v) _ _ M hM hX hY w hz hx hy
  unfold addV at h
  rwa [num_of, num_of] at h
theorem neg_num (s : Bool) (n : Nat) (h : n = 0 → s = false) : num (!s && !decide (n = 0)) n = - num s n := by
  unfold num
  by_cases z : n = 0
  · subst z; simp
  · cases s <;> simp [z]
set_option maxHeartbeats 1000000 in
theorem sub_z (b o x ox y oy : Nat) (u v : Int) (M : Nat) (hM : M ≤ 1073741823) (hX : mag u < 4294967296 ^ M) (hY : mag v < 4294967296 ^ M) (w : World) (hz : Hdr w b o) (hx : ZAt w x ox u) (hy : ZAt w y oy v) :
    Calls Try.prog 96 #[.pointer (some ⟨b, o, none⟩), .pointer (some ⟨x, ox, none⟩), .pointer (some ⟨y, oy, none⟩)] w (GivesV b o (u - v) w) := by
  have HZ := Lib.hid hz
  have HX := Lib.hid hx
  have HY := Lib.hid hy
  have BX := Lib.hid hX
  have BY := Lib.hid hY
  have lz := hz.1
  have lx := hx.1
  have ly := hy.1
  have e : u - v = u + -v := by omega
  have E := Lib.hid e
  clear hz hx hy hX hY e
  go_enter Try.func96, Try.ntmps96
  go_wp2_with fail
  have b1 := new_below w (.cells #[.bool false, .slice none 0 0] 55)
  refine (neg_any w.heap.size 0 (mag v) y oy (decide (v < 0)) M (by omega) BY.out _ (hdr_new w) (HY.out.below b1)).mono ?_
  rintro e w1 ⟨rfl, hi1, hg1⟩
  have c1 : Ch (fun _ => False) w w1 := (ch_of_below b1).join hg1.ch (fun _ _ x => x.elim) (fun g hg x => by omega) (fun _ _ x => x.elim)
  have hv : ZAt w1 w.heap.size 0 (-v) := z_to hi1 (by rw [neg_num _ _ HY.out.zero, num_of])
  have hm : mag (-v) < 4294967296 ^ M := by have := BY.out; unfold mag at this ⊢; rwa [Int.natAbs_neg]
  have HV := Lib.hid hv
  have BV := Lib.hid hm
  have l1 := hi1.1
  have HXO : Hid (ZAt w1 x ox u) := HX.out.ch c1 (fun x => x)
  clear hi1 hv hm
  go_wp2_with fail
  refine (add_z b o x ox w.heap.size 0 u (-v) M hM BX.out BV.out _ (HZ.out.ch c1 (fun x => x)) HXO.out HV.out).mono ?_
  rintro e w2 ⟨rfl, hi2, hg2⟩
  have HI2 := Lib.hid hi2
  have HB : Hid (Chg b o w w2) := by
    have c := hg2
    have k := c1.below (B := w.heap.size) (Nat.le_refl _) (fun _ _ x => x)
    exact ((Chg.refl HZ.out).below k (Nat.le_refl _)).trans c
  clear hi2
  go_wp2
  go_ret
  refine ⟨rfl, ?_, HB.out⟩
  rw [E.out]; exact HI2.out
end Go.Proofs.Ytkjollifghmkbaa
