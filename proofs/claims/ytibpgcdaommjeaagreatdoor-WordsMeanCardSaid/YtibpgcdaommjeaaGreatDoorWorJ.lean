/-
  Words: the law's helpers.
-/
import Derived.Test.YtibpgcdaommjeaaGreatDoorWorI
namespace Go.Proofs.YtibpgcdaommjeaaGreatDoor.Wds
open Go.RowKit

theorem is_two (w : World) (a b : Int) : Is (w.alloc (.cells #[.int .i64 a, .int .i64 b] 3)) (some ⟨w.heap.size, 0, none⟩) [a, b] :=
  is_row (HB.new w _ _) (fun k hk => by
    have : k = 0 ∨ k = 1 := by simp at hk; omega
    rcases this with rfl | rfl <;> rfl)
theorem is_one (w : World) (a : Int) : Is (w.alloc (.cells #[.int .i64 a] 3)) (some ⟨w.heap.size, 0, none⟩) [a] :=
  is_row (HB.new w _ _) (fun k hk => by
    have : k = 0 := by simp at hk; omega
    rcases this with rfl; rfl)
/-- What an operation makes of two words. -/
def twF (op z M a b : Int) : Int := if wfC op z M [a, b] 0 = 0 then doR op z M [a, b] 0 else -1
theorem bs_three (w : World) : Bs (w.alloc (.cells #[.bool false, .bool true, .bool true] 4)) (some ⟨w.heap.size, 0, none⟩) (fun j => (6 : Nat).testBit j) 3 := fun _ => ⟨w.heap.size, 0, rfl, by simp, fun k hk => by
  rw [Nat.zero_add, (HB.new w 4 _).cell k]
  have : k = 0 ∨ k = 1 ∨ k = 2 := by omega
  rcases this with rfl | rfl | rfl <;> rfl⟩
theorem wb3 : Wb 3 8 := by unfold Wb; omega
set_option maxRecDepth 100000 in
set_option maxHeartbeats 2000000 in
theorem fact_any (w : World) (ht : TabW w) : Calls Tryz.prog 4 #[] w fun e w' => e = .returned (.bool true) ∧ Below w.heap.size w w' := by
  have G0 := Lib.hid (new_below w (.cells #[.int .i64 5, .int .i64 6] 3))
  have HX := Lib.hid (do_any 20 3 8 0 [5, 6] _ 2 rfl (fun _ => wb3) (by unfold maxLen; simp) _ (is_two w 5 6) (ht.below G0.out))
  rw [show ([5, 6] : List Int).length = 2 from rfl, show doR 20 3 8 [5, 6] 0 = 3 by decide, show wfC 20 3 8 [5, 6] 0 = 0 by decide, show wfA 20 3 8 [5, 6] = 0 by decide] at HX
  clear ht
  go_enter Tryz.func4, Tryz.ntmps4
  go_wp2_with fail
  refine HX.out.mono ?_
  rintro e w1 ⟨rfl, hb⟩
  have G1 := Lib.hid (bw_below (Nat.le_refl _) G0.out hb)
  have R1 := Lib.hid (HB.new w1 28 #[.int .i64 0, .int .i64 0])
  have G1' := Lib.hid (G1.out.alloc G1.out.size (.cells #[.int .i64 0, .int .i64 0] 28))
  clear hb HX G0 G1
  go_wp2_with fail
  refine (bits_ok 6 3 8 wb3 (by decide) _).mono ?_
  rintro e w2 ⟨g, rfl, hs, hb⟩
  have G2 := Lib.hid (bw_below (Nat.le_refl _) G1'.out hb)
  have R2 := Lib.hid ((R1.out.below hb).alloc (.cells #[.int .i64 0, .int .i64 0] 28))
  have U2 := Lib.hid (HB.new w2 28 #[.int .i64 0, .int .i64 0])
  have S2 := Lib.hid (hs.out.below (new_below w2 (.cells #[.int .i64 0, .int .i64 0] 28)))
  have G2' := Lib.hid (G2.out.alloc G2.out.size (.cells #[.int .i64 0, .int .i64 0] 28))
  clear hb G1' G2 R1 hs
  go_wp2_with fail
  have OF := Lib.hid (of_ok (some ⟨(w2.alloc (.cells #[.int .i64 0, .int .i64 0] 28)).heap.size, 0, none⟩) 3 3 (fun j => (6 : Nat).testBit j) (by decide) (by decide) _ (bs_three (w2.alloc (.cells #[.int .i64 0, .int .i64 0] 28))))
  rw [show ((vl (fun j => (6 : Nat).testBit j) 3 : Nat) : Int) = 6 by decide] at OF
  rw [show (w2.alloc (.cells #[.int .i64 0, .int .i64 0] 28)).heap.size = w2.heap.size + 1 by simp] at OF
  refine OF.out.mono ?_
  rintro e w3 ⟨rfl, hb⟩
  have N2 := Lib.hid (new_below (w2.alloc (.cells #[.int .i64 0, .int .i64 0] 28)) (.cells #[.bool false, .bool true, .bool true] 4))
  have K3 : Hid (Below (w2.alloc (.cells #[.int .i64 0, .int .i64 0] 28)).heap.size (w2.alloc (.cells #[.int .i64 0, .int .i64 0] 28)) w3) := Lib.hid (bw_below (Nat.le_refl _) N2.out hb)
  have G3 := Lib.hid (bw_below (Nat.le_refl _) G2'.out K3.out)
  have R3 := R2.out.below K3.out
  have U3 := U2.out.below K3.out
  have S3 := S2.out.below K3.out
  obtain ⟨g', o', he, l3, hc⟩ := S3 (by decide)
  have l1 := R3.lt
  have l2 := U3.lt
  simp only [Option.some.injEq, Addr.mk.injEq, and_true] at he
  obtain ⟨rfl, rfl⟩ := he
  obtain ⟨r0, r1, _, _⟩ := R3.two
  obtain ⟨u0, u1, _, _⟩ := U3.two
  have c0 : w3.cell? ⟨g, 0, none⟩ = some (.bool false) := hc 0 (by decide)
  have c1 : w3.cell? ⟨g, 1, none⟩ = some (.bool true) := hc 1 (by decide)
  have c2 : w3.cell? ⟨g, 2, none⟩ = some (.bool true) := hc 2 (by decide)
  clear hb K3 N2 G2' R2 U2 S2 R3 U3 S3 hc OF
  go_wp2_with fail
  go_ret
  exact ⟨rfl, G3.out.alloc G3.out.size _⟩
end Go.Proofs.YtibpgcdaommjeaaGreatDoor.Wds
