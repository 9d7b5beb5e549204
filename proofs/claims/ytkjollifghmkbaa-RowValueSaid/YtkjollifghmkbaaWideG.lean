/-
  The contracts of Quo and GCD for numbers that a machine word holds.
-/
import Derived.Test.YtkjollifghmkbaaWideF
namespace Go.Proofs.Ytkjollifghmkbaa
open Go.RowKit

theorem Ch.join {S T U : Nat → Prop} {w w' w'' : World} (h : Ch S w w') (k : Ch T w' w'') (hS : ∀ g, g < w.heap.size → S g → U g) (hT : ∀ g, g < w.heap.size → T g → U g) (hU : ∀ g, g < w.heap.size → U g → ty w g ≠ some 87) : Ch U w w'' :=
  ⟨k.1.trans h.1, k.2.1.trans h.2.1, k.2.2.1.trans h.2.2.1, Nat.le_trans h.size k.size,
    fun g hg hn => (k.2.2.2.2.1 g (Nat.lt_of_lt_of_le hg h.size) (fun x => hn (hT g hg x))).trans (h.2.2.2.2.1 g hg (fun x => hn (hS g hg x))),
    fun g hg hs => ⟨hU g hg hs, (k.ty_eq (Nat.lt_of_lt_of_le hg h.size)).trans (h.ty_eq hg)⟩⟩
def GivesZ (z : Nat) (s : Bool) (n : Nat) (w : World) (e : Ending) (w' : World) : Prop := e = .returned (.pointer (some ⟨z, 0, none⟩)) ∧ IntAt w' z 0 s n ∧ Ch (fun g => g = z) w w'
theorem one_ty {w : World} {z : Nat} (hz : Hdr w z 0) : ∀ g, g < w.heap.size → g = z → ty w g ≠ some 87 := by rintro g _ rfl; exact hz.2.1
theorem new_below (w : World) (o : Obj) : Below w.heap.size w (w.alloc o) := (Below.refl _ _).alloc (Nat.le_refl _) _
set_option maxHeartbeats 1000000 in
theorem quo_any (z x ox y oy X Y : Nat) (s t : Bool) (hX : X ≤ 18446744073709551615) (hY : Y ≤ 18446744073709551615) (h0 : Y ≠ 0) (w : World) (hz : Hdr w z 0) (hx : IntAt w x ox s X) (hy : IntAt w y oy t Y) (zx : z ≠ x) (zy : z ≠ y) :
    Calls Try.prog 81 #[.pointer (some ⟨z, 0, none⟩), .pointer (some ⟨x, ox, none⟩), .pointer (some ⟨y, oy, none⟩)] w (GivesZ z (qsign s t (X / Y)) (X / Y) w) := by
  have HZ := Lib.hid hz
  have HX := Lib.hid hx
  have HY := Lib.hid hy
  have lz := hz.1
  have lx := hx.1
  have ly := hy.1
  clear hz hx hy
  go_enter Try.func81, Try.ntmps81
  go_wp2_with fail
  have b1 := new_below w (.cells #[.bool false, .slice none 0 0] 55)
  refine (quorem_any z w.heap.size x ox y oy X Y s t hX hY h0 _ (HZ.out.below b1) (hdr_new w) (HX.out.below b1) (HY.out.below b1) (by omega) zx zy (by omega) (by omega)).mono ?_
  rintro e w1 ⟨rfl, hi, _, hg⟩
  have HI := Lib.hid hi
  clear hi
  go_wp2
  go_ret
  exact ⟨rfl, HI.out, (ch_of_below b1).join hg (fun _ _ x => x.elim) (fun g hg x => by omega) (one_ty HZ.out)⟩

set_option maxHeartbeats 2000000 in
theorem gcd_any (z a oa b ob A B : Nat) (s t : Bool) (hA : A ≤ 18446744073709551615) (hB : B ≤ 18446744073709551615) (w : World) (hz : Hdr w z 0) (ha : IntAt w a oa s A) (hb : IntAt w b ob t B) :
    Calls Try.prog 72 #[.pointer (some ⟨z, 0, none⟩), .pointer none, .pointer none, .pointer (some ⟨a, oa, none⟩), .pointer (some ⟨b, ob, none⟩)] w (GivesZ z false (Nat.gcd A B) w) := by
  have HZ := Lib.hid hz
  have HA := Lib.hid ha
  have HB := Lib.hid hb
  have lz := hz.1
  have la := ha.1
  have lb := hb.1
  clear hz ha hb
  go_enter Try.func72, Try.ntmps72
  go_wp2_with fail
  have b1 := new_below w (.cells #[.bool false, .slice none 0 0] 55)
  refine (abs_any w.heap.size 0 A a oa s 2 (by omega) (below_two hA) _ (hdr_new w) (HA.out.below b1)).mono ?_
  rintro e w1 ⟨rfl, hi1, hg1⟩
  have c1 : Ch (fun _ => False) w w1 := (ch_of_below b1).join hg1.ch (fun _ _ x => x.elim) (fun g hg x => by omega) (fun _ _ x => x.elim)
  have HI1 := Lib.hid hi1
  have s1 := c1.size
  clear hi1
  go_wp2_with fail
  have b2 := new_below w1 (.cells #[.bool false, .slice none 0 0] 55)
  refine (abs_any w1.heap.size 0 B b ob t 2 (by omega) (below_two hB) _ (hdr_new w1) ((HB.out.ch c1 (fun x => x)).below b2)).mono ?_
  rintro e w2 ⟨rfl, hi2, hg2⟩
  have c2' : Ch (fun _ => False) w1 w2 := (ch_of_below b2).join hg2.ch (fun _ _ x => x.elim) (fun g hg x => by omega) (fun _ _ x => x.elim)
  have c2 : Ch (fun _ => False) w w2 := c1.then_ c2'
  have HI1' := Lib.hid (HI1.out.ch c2' (fun x => x))
  have HI2 := Lib.hid hi2
  clear hi2
  go_wp2
  refine wp_loop_rounds 1 ?_
  rw [rounds_succ]
  go_wp2_with fail
  refine (sign_any w1.heap.size 0 B false w2 HI2.out).mono ?_
  rintro e w3 ⟨rfl, rfl⟩
  by_cases hb0 : B = 0
  · have e0 : signOf false B = 0 := by simp [signOf, hb0]
    have HB0 := Lib.hid hb0
    rw [e0]
    clear hb0 e0
    go_wp2_with fail
    refine (set_any z 0 A w.heap.size 0 false 2 (by omega) (below_two hA) _ (HZ.out.ch c2 (fun x => x)) HI1'.out).mono ?_
    rintro e w4 ⟨rfl, hi4, hg4⟩
    have HI4 := Lib.hid hi4
    clear hi4
    go_wp2
    go_ret
    refine ⟨rfl, ?_, c2.join hg4.ch (fun _ _ x => x.elim) (fun g hg x => x) (one_ty HZ.out)⟩
    rw [HB0.out, Nat.gcd_zero_right]
    exact HI4.out
  · have e0 : signOf false B = 1 := by simp [signOf, hb0]
    have HB0 := Lib.hid hb0
    rw [e0]
    obtain ⟨P, L, c, q1, q2, q3, _⟩ := HI1'.out.semi.len
    have hL := small_len (len_two q3 hA)
    obtain ⟨P', L', c', q1', q2', q3', _⟩ := HI2.out.semi.len
    have hL' := small_len (len_two q3' hB)
    simp only [Nat.zero_add] at q1 q1'
    clear hb0 e0 q2 q3 q2' q3'
    go_wp2_with fail
    refine (uint_any w.heap.size 0 A false hA _ HI1'.out).mono ?_
    rintro e w3 ⟨rfl, rfl⟩
    go_wp2_with fail
    refine (uint_any w1.heap.size 0 B false hB _ HI2.out).mono ?_
    rintro e w3 ⟨rfl, rfl⟩
    go_wp2
    go_loopw [13, 14] (fun x y wr => ∃ p q n : Nat, p ≤ 18446744073709551615 ∧ q ≤ 18446744073709551615 ∧ x = .int .u64 p ∧ y = .int .u64 q ∧ Hid (Nat.gcd p q = Nat.gcd A B) ∧ wr = w2.drewN n) (fun _ y _ => (intOf y).toNat)
    case atStart => exact ⟨A, B, 0, hA, hB, rfl, rfl, rfl, rfl⟩
    case round =>
      obtain ⟨p, q, n, hp, hq, rfl, rfl, hg, rfl⟩ := hrel
      have HS := Lib.hid (gcd_step p q)
      have b3 : Below w2.heap.size w2 (w2.drewN n) := below_drewN (Below.refl _ _) _
      by_cases hz : 0 < q
      · have hm : p % q < q := Nat.mod_lt _ hz
        go_wp2
        go_quiet (fail)
        go_wp2
        go_roundw
        case rel => exact ⟨q, p % q, _, hq, by omega, rfl, by go_num, HS.out.trans hg.out, World.drewN_drewN _ _ _⟩
        case measure => simp [intOf]; omega
      · obtain rfl : q = 0 := by omega
        go_wp2_with fail
        refine (setu_any z 0 p hp _ ((HZ.out.ch c2 (fun x => x)).below b3)).mono ?_
        rintro e w4 ⟨rfl, hi4, hg4⟩
        have HI4 := Lib.hid hi4
        clear hi4
        go_wp2
        go_ret
        refine ⟨rfl, ?_, (c2.then_ (ch_of_below b3)).join hg4.ch (fun _ _ x => x.elim) (fun g hg x => x) (one_ty HZ.out)⟩
        have := hg.out
        rw [Nat.gcd_zero_right] at this
        rw [← this]
        exact HI4.out
end Go.Proofs.Ytkjollifghmkbaa
