/-
  MeanArrays, MeanWords: what is known of each operation of the region that makes the ask.
-/
import Derived.Test.YtibpgcdaommjeaaAnyO
import Derived.Test.YtibpgcdaommjeaaG24
namespace Go.Proofs.Ytibpgcdaommjeaa
open Go.RowKit

/-- A name's node as a value. -/
def nmV (s : ByteArray) : Value := .agg #[.int .i64 9, .slice none 0 0, .int .i64 0, .int .i64 0, .string s]
/-- Kids in memory. -/
def KsG (l : List Int) (v : Value) (w : World) : Prop := ∃ g, v = .slice (some ⟨g, 0, none⟩) l.length l.length ∧ Is w (some ⟨g, 0, none⟩) l
/-- A node as a value. -/
def NdG (op n d : Int) (l : List Int) (v : Value) (w : World) : Prop := ∃ g, v = .agg #[.int .i64 op, .slice (some ⟨g, 0, none⟩) l.length l.length, .int .i64 n, .int .i64 d, .string ⟨#[]⟩] ∧ Is w (some ⟨g, 0, none⟩) l
def DcG (v : Value) (w : World) : Prop := ∃ g, v = .slice (some ⟨g, 0, none⟩) 14 14 ∧ DsAt w (some ⟨g, 0, none⟩) dqs
def NsG (ns : List Nd) (v : Value) (w : World) : Prop := ∃ g, v = .slice (some ⟨g, 0, none⟩) ns.length ns.length ∧ NsAt w (some ⟨g, 0, none⟩) ns
def AkG (ns : List Nd) (v : Value) (w : World) : Prop := ∃ gd gn, v = .agg #[.slice (some ⟨gd, 0, none⟩) 14 14, .slice (some ⟨gn, 0, none⟩) ns.length ns.length, .slice none 0 0] ∧ DsAt w (some ⟨gd, 0, none⟩) dqs ∧ NsAt w (some ⟨gn, 0, none⟩) ns
def PtG (B : Nat) (v : Value) (w : World) : Prop := ∃ g, v = .pointer (some ⟨g, 0, none⟩) ∧ B ≤ g ∧ HB w g 30 #[.slice none 0 0, .slice none 0 0, .slice none 0 0]
/-- The kinds of operations. -/
inductive Sp
  | val (v : Value)
  | dc
  | ks (l : List Int)
  | nd (op n d : Int) (l : List Int)
  | ns (l : List Nd)
  | ak (l : List Nd)
  | pt
def SpG (B : Nat) : Sp → Value → World → Prop
  | .val x, v, _ => v = x
  | .dc, v, w => DcG v w
  | .ks l, v, w => KsG l v w
  | .nd op n d l, v, w => NdG op n d l v w
  | .ns l, v, w => NsG l v w
  | .ak l, v, w => AkG l v w
  | .pt, v, w => PtG B v w
theorem spg_below {B : Nat} {s : Sp} {v : Value} {w w' : World} (h : SpG B s v w) (k : Below w.heap.size w w') : SpG B s v w' := by
  cases s with
  | val x => exact h
  | dc => obtain ⟨g, h1, h2⟩ := h; exact ⟨g, h1, h2.below k⟩
  | ks l => obtain ⟨g, h1, h2⟩ := h; exact ⟨g, h1, h2.below k⟩
  | nd op n d l => obtain ⟨g, h1, h2⟩ := h; exact ⟨g, h1, h2.below k⟩
  | ns l => obtain ⟨g, h1, h2⟩ := h; exact ⟨g, h1, h2.below k⟩
  | ak l => obtain ⟨g, g', h1, h2, h3⟩ := h; exact ⟨g, g', h1, h2.below k, h3.below k⟩
  | pt => obtain ⟨g, h1, h2, h3⟩ := h; exact ⟨g, h1, h2, h3.below k⟩
theorem func2_any (s : ByteArray) (w : World) : Calls Try.prog 5 #[.string s] w fun e w' => e = .returned (nmV s) ∧ Below w.heap.size w w' := by
  go_enter Try.func5, Try.ntmps5
  go_wp2_with fail
  exact bodyPost_ret (v := nmV s) (by simp [results, Try.results5, go_sem, nmV]) rfl ⟨rfl, by go_grown⟩
end Go.Proofs.Ytibpgcdaommjeaa
