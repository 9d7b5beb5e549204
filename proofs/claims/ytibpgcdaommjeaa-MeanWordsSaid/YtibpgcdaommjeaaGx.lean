/-
  What stays where one block of slices is written.
-/
import Derived.Test.YtibpgcdaommjeaaG07
namespace Go.Proofs.Ytibpgcdaommjeaa
open Go.RowKit

/-- Nothing that was there but one block has changed. -/
structure Gx (g : Nat) (w w' : World) : Prop where
  os : w'.os = w.os
  tape : w'.tape = w.tape
  output : w'.output = w.output
  size : w.heap.size ≤ w'.heap.size
  block : ∀ k, k < w.heap.size → k ≠ g → w'.heap[k]? = w.heap[k]?
theorem gx_refl (g : Nat) (w : World) : Gx g w w := ⟨rfl, rfl, rfl, Nat.le_refl _, fun _ _ _ => rfl⟩
theorem Gx.below {g : Nat} {w w' w'' : World} (h : Gx g w w') (hb : Below w.heap.size w' w'') : Gx g w w'' :=
  ⟨hb.os.trans h.os, hb.tape.trans h.tape, hb.output.trans h.output, Nat.le_trans h.size hb.size, fun k hk hg => (hb.block k hk).trans (h.block k hk hg)⟩
theorem Gx.far {g : Nat} {w w' w'' : World} (h : Gx g w w') (f : Far g w' w'') : Gx g w w'' :=
  ⟨f.os.trans h.os, f.tape.trans h.tape, f.output.trans h.output, by rw [f.size]; exact h.size, fun k hk hg => (f.block k hg).trans (h.block k hk hg)⟩
theorem Gx.hb {g g' t : Nat} {w w' : World} {cs : Array Value} (h : Gx g w w') (hb : HB w g' t cs) (hg : g' ≠ g) : HB w' g' t cs := (h.block g' hb.lt hg).trans hb
theorem Gx.under {g B : Nat} {w0 w w' : World} (h : Gx g w w') (hb : Below B w0 w) (hB : B ≤ g) (hB2 : B ≤ w.heap.size) : Below B w0 w' :=
  ⟨h.os.trans hb.os, h.tape.trans hb.tape, h.output.trans hb.output, Nat.le_trans hb.size h.size, fun k hk => (h.block k (by omega) (by omega)).trans (hb.block k hk)⟩
theorem Gx.cell {g : Nat} {w w' : World} (h : Gx g w w') {b : Nat} (hb : b < w.heap.size) (hg : b ≠ g) (o : Nat) : w'.cell? ⟨b, o, none⟩ = w.cell? ⟨b, o, none⟩ := World.cell?_of_block (h.block b hb hg)
theorem ne_slices {g t : Nat} {w : World} {A0 A1 A2 : Option Addr} {l0 l1 l2 c0 c1 c2 b o : Nat} {v : Value} (hg : HB w g t #[.slice A0 l0 c0, .slice A1 l1 c1, .slice A2 l2 c2]) (h : w.cell? ⟨b, o, none⟩ = some v) (hv : ∀ A l c, v ≠ .slice A l c) : b ≠ g := by
  rintro rfl
  rw [hg.cell o] at h
  match o, h with
  | 0, h => simp at h; exact hv _ _ _ h.symm
  | 1, h => simp at h; exact hv _ _ _ h.symm
  | 2, h => simp at h; exact hv _ _ _ h.symm
  | o + 3, h => simp at h
section
variable {g t : Nat} {w w' : World} {A0 A1 A2 : Option Addr} {l0 l1 l2 c0 c1 c2 : Nat}
theorem Gx.is {A : Option Addr} {xs : List Int} (h : Gx g w w') (hg : HB w g t #[.slice A0 l0 c0, .slice A1 l1 c1, .slice A2 l2 c2]) (hi : Is w A xs) : Is w' A xs := fun z => by
  obtain ⟨b, o, e, l, q⟩ := hi z
  have hb := ne_slices hg (q 0 z) (by simp)
  exact ⟨b, o, e, Nat.lt_of_lt_of_le l h.size, fun k hk => (h.cell l hb _).trans (q k hk)⟩
theorem Gx.ds {A : Option Addr} {qs : List Dc} (h : Gx g w w') (hg : HB w g t #[.slice A0 l0 c0, .slice A1 l1 c1, .slice A2 l2 c2]) (hd : DsAt w A qs) : DsAt w' A qs := fun z => by
  obtain ⟨b, o, e, l, q⟩ := hd z
  have hb := ne_slices hg (q 0 _ (dn_of z)).1 (by simp)
  refine ⟨b, o, e, Nat.lt_of_lt_of_le l h.size, fun i x hx => ?_⟩
  obtain ⟨k0, k2, k3, A, c, k1, k4, k5, k6⟩ := q i x hx
  exact ⟨(h.cell l hb _).trans k0, (h.cell l hb _).trans k2, k3, A, c, (h.cell l hb _).trans k1, k4, k5, h.is hg k6⟩
theorem Gx.ns {A : Option Addr} {qs : List Nd} (h : Gx g w w') (hg : HB w g t #[.slice A0 l0 c0, .slice A1 l1 c1, .slice A2 l2 c2]) (hd : NsAt w A qs) : NsAt w' A qs := fun z => by
  obtain ⟨b, o, e, l, q⟩ := hd z
  have hb := ne_slices hg (q 0 _ (nn_of z)).1 (by simp)
  refine ⟨b, o, e, Nat.lt_of_lt_of_le l h.size, fun i x hx => ?_⟩
  obtain ⟨k0, k2, k3, k4, k5, A, c, k1, k6, k7, k8⟩ := q i x hx
  exact ⟨(h.cell l hb _).trans k0, (h.cell l hb _).trans k2, (h.cell l hb _).trans k3, (h.cell l hb _).trans k4, k5, A, c, (h.cell l hb _).trans k1, k6, k7, h.is hg k8⟩
end
end Go.Proofs.Ytibpgcdaommjeaa
