/-
  The contracts of frac.ofValid and of the closures that it is given; of Add, Sub, Times, Over, Less and Floor.
-/
import Derived.Test.YtkjollifghmkbaaFracB
namespace Go.Proofs.Ytkjollifghmkbaa
open Go.RowKit

/-- The way in which a call that yields a Bool and a fault ends. -/
def GivesB (r : Bool) (c i : Int) (w : World) (e : Ending) (w' : World) : Prop := e = .returned (.tuple #[.bool r, .agg #[.int .i64 c, .int .i64 i]]) ∧ Below w.heap.size w w'

theorem below_more {A b C d : World} (G : Below A.heap.size A b) (hb : Below C.heap.size C d) (hm : Below b.heap.size b C) : Below A.heap.size A d := below_after (below_after G hm) hb

end Go.Proofs.Ytkjollifghmkbaa
