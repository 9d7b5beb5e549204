/-
  A region that draws its order: operations that only read, in whatever order, and a tail that is forced.
-/
import Derived.Test.YtibpgcdaommjeaaDoorBas
import Derived.StillTailTactics
import Derived.BigQuiet
namespace Go.Proofs.YtibpgcdaommjeaaDoor
open Go.RowKit

theorem still_of_quiet {P : Program} {ops : Array Oper} {W : World} {Q : Act → Prop} : ∀ (l : List Oper) (a : Act), wpQuiet P ops (fun w => w = W) Q l a → wpStill P ops W Q l a
  | [], _, h => h
  | o :: rest, a, h => by
    unfold wpQuiet at h
    unfold wpStill
    split
    · rename_i hw
      rw [if_pos hw] at h
      obtain ⟨v, hq, hn⟩ := h
      have hq := hq W rfl
      unfold Oper.quietAt at hq
      unfold Oper.still
      generalize (execOp a.eval o).run P W = r at hq
      cases r with
      | ok n w' =>
        cases n <;> simp only [Oper.quietUpon] at hq <;> simp only [Oper.stillUpon]
        case value u =>
          obtain ⟨rfl, rfl⟩ := hq
          exact ⟨rfl, still_of_quiet rest _ hn⟩
        case skip =>
          obtain ⟨rfl, rfl⟩ := hq
          exact ⟨rfl, still_of_quiet rest _ hn⟩
        case enter f args =>
          obtain ⟨rfl, hc⟩ := hq
          exact ⟨rfl, v, hc, still_of_quiet rest _ hn⟩
      | halt x w' => simp only [Oper.quietUpon] at hq
    · rename_i hw
      rw [if_neg hw] at h
      exact still_of_quiet rest _ h
theorem wp_quiet_tail {P : Program} {id : Nat} {Q : Exit → Act → World → Prop} {a : Act} {w : World} {l : List Oper} (n : Nat) (hm : P.follows .mixedOrders = true) (hB : Region.lexTailB .any l.toArray n = true)
    (h : wpQuiet P l.toArray (fun w' => w' = w.drew) (fun a' => wpList P l.toArray Q (l.drop n) a' w.drew) (l.take n) a) : (Code.region id l.toArray true).wp P Q a w :=
  wp_region_still_tail n hm hB (still_of_quiet _ _ h)
end Go.Proofs.YtibpgcdaommjeaaDoor
