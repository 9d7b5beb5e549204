/-
  NARROWER THAN 'FOR EVERY INPUT', by the rows' own cells (each row's printed sentence says how): WordsSays: laid · WordsBits: laid · WordsRing: laid · WordsLogic: laid.
  DERIVED. THE GIVEN ROWS OF THIS SEAT. 4 by the template 'for every input the law returns true; each argument reads behind the call as it read before'; 0 by the template 'total and deterministic' (their statements: YtibpgcdaommjeaaDoorTotals.lean).
  GIVEN WITH THE SEED: the statements are not yours to turn. If you find one false, say at which input.
  Laid BY PROGRAM, IN A SANDBOX (cutbox-rows.mjs): the forced cells as the released guide's own fill.sh prints them over the translation 94ca0c471f705e79… (all of the seat's roots in one cut). By AI agents, Wed Nov 11 2026. No macro, syntax, notation, axiom, sorry.
-/
import Derived.Test.YtibpgcdaommjeaaDoorChecked
import GoSem.Claim
import GoSem.ClaimJoined
import GoSem.ClaimMapViews
import Derived.JoinedTies
import Derived.KernelRfl
namespace Go.Proofs.YtibpgcdaommjeaaDoor
/- THE CELL 'sum', in the pinned program and in every row, IS THE sha256 OF THE DUMP (.gsa) THAT YtibpgcdaommjeaaDoorProg.lean LOADS. Nothing in Lean hashes anything: it is a label: what it is worth is what the hold of that sum in a sandbox is worth. -/
noncomputable def Tryd.pinned : Pinned := { name := "ytibpgcdaommjeaadoor", sum := "94ca0c471f705e79710d49b52f50e41c610d0c683b1cef9b9d38af98dccdbc17", checked := Tryd.checked }
namespace Rows
def none {H : Type} : Left H := { results := [], args := [] }

/- WHAT THE LISTED PACKAGE-LEVEL VARIABLES READ AS WHEN THE CALL BEGINS. Each datum BY PROGRAM (the guide's laid-datum.mjs) off the statement by which the dump's own 'gosem.cut.vars' lays the variable. In a bare row this is a premise. The card (YtibpgcdaommjeaaDoorCards.lean) ties it to the program's text. -/
def laid_umpirage_words_operands {H : Type} : DataW H := .agg [.lit (.int .i64 0), .lit (.int .i64 0), .lit (.int .i64 0), .lit (.int .i64 0), .lit (.int .i64 0), .lit (.int .i64 0), .lit (.int .i64 0), .lit (.int .i64 0), .lit (.int .i64 0), .lit (.int .i64 0), .lit (.int .i64 0), .lit (.int .i64 0), .lit (.int .i64 0), .lit (.int .i64 0), .lit (.int .i64 0), .lit (.int .i64 0), .lit (.int .i64 1), .lit (.int .i64 2), .lit (.int .i64 2), .lit (.int .i64 2), .lit (.int .i64 2), .lit (.int .i64 2), .lit (.int .i64 2), .lit (.int .i64 1)]

/-- 'umpiragelaw6.WordsSays': WHATEVER THE INPUT: true; the input reads as it did. -/
def wordsSaysSpec : ChangeSpec := { name := "wordsSays", fn := fun _ => fun
  | [d1, d2, d3, d4] => { results := [.lit (.bool true)], args := [d1, d2, d3, d4] }
  | _ => none }
def wordsSaysRow : OpenClaim := { program := "ytibpgcdaommjeaadoor", sum := "94ca0c471f705e79710d49b52f50e41c610d0c683b1cef9b9d38af98dccdbc17", func := "umpirage/umpiragelaw6.WordsSays", spec := "wordsSays", unfollowed := true, recurses := true, named := ["umpirage/words.operands"], apart := false, laid := [("umpirage/words.operands", laid_umpirage_words_operands)] }
def WordsSaysSaid : Prop := wordsSaysRow.holds Tryd.pinned (OpenSpec.ofChange wordsSaysSpec)

/-- ITS FALSE NEIGHBOUR: 'it returns false'. Refute it at one input. -/
def wordsSaysWrong : ChangeSpec := { name := "wordsSays", fn := fun _ => fun
  | [d1, d2, d3, d4] => { results := [.lit (.bool false)], args := [d1, d2, d3, d4] }
  | _ => none }
def WordsSaysWrongFalsely : Prop := wordsSaysRow.holds Tryd.pinned (OpenSpec.ofChange wordsSaysWrong)

/-- 'umpiragelaw6.WordsBits': WHATEVER THE INPUT: true; the input reads as it did. -/
def wordsBitsSpec : ChangeSpec := { name := "wordsBits", fn := fun _ => fun
  | [d1, d2, d3] => { results := [.lit (.bool true)], args := [d1, d2, d3] }
  | _ => none }
def wordsBitsRow : OpenClaim := { program := "ytibpgcdaommjeaadoor", sum := "94ca0c471f705e79710d49b52f50e41c610d0c683b1cef9b9d38af98dccdbc17", func := "umpirage/umpiragelaw6.WordsBits", spec := "wordsBits", unfollowed := true, recurses := true, named := ["umpirage/words.operands"], apart := false, laid := [("umpirage/words.operands", laid_umpirage_words_operands)] }
def WordsBitsSaid : Prop := wordsBitsRow.holds Tryd.pinned (OpenSpec.ofChange wordsBitsSpec)

/-- ITS FALSE NEIGHBOUR: 'it returns false'. Refute it at one input. -/
def wordsBitsWrong : ChangeSpec := { name := "wordsBits", fn := fun _ => fun
  | [d1, d2, d3] => { results := [.lit (.bool false)], args := [d1, d2, d3] }
  | _ => none }
def WordsBitsWrongFalsely : Prop := wordsBitsRow.holds Tryd.pinned (OpenSpec.ofChange wordsBitsWrong)

/-- 'umpiragelaw6.WordsRing': WHATEVER THE INPUT: true; the input reads as it did. -/
def wordsRingSpec : ChangeSpec := { name := "wordsRing", fn := fun _ => fun
  | [d1, d2, d3, d4] => { results := [.lit (.bool true)], args := [d1, d2, d3, d4] }
  | _ => none }
def wordsRingRow : OpenClaim := { program := "ytibpgcdaommjeaadoor", sum := "94ca0c471f705e79710d49b52f50e41c610d0c683b1cef9b9d38af98dccdbc17", func := "umpirage/umpiragelaw6.WordsRing", spec := "wordsRing", unfollowed := true, recurses := true, named := ["umpirage/words.operands"], apart := false, laid := [("umpirage/words.operands", laid_umpirage_words_operands)] }
def WordsRingSaid : Prop := wordsRingRow.holds Tryd.pinned (OpenSpec.ofChange wordsRingSpec)

/-- ITS FALSE NEIGHBOUR: 'it returns false'. Refute it at one input. -/
def wordsRingWrong : ChangeSpec := { name := "wordsRing", fn := fun _ => fun
  | [d1, d2, d3, d4] => { results := [.lit (.bool false)], args := [d1, d2, d3, d4] }
  | _ => none }
def WordsRingWrongFalsely : Prop := wordsRingRow.holds Tryd.pinned (OpenSpec.ofChange wordsRingWrong)

/-- 'umpiragelaw6.WordsLogic': WHATEVER THE INPUT: true; the input reads as it did. -/
def wordsLogicSpec : ChangeSpec := { name := "wordsLogic", fn := fun _ => fun
  | [d1, d2, d3] => { results := [.lit (.bool true)], args := [d1, d2, d3] }
  | _ => none }
def wordsLogicRow : OpenClaim := { program := "ytibpgcdaommjeaadoor", sum := "94ca0c471f705e79710d49b52f50e41c610d0c683b1cef9b9d38af98dccdbc17", func := "umpirage/umpiragelaw6.WordsLogic", spec := "wordsLogic", unfollowed := true, recurses := true, named := ["umpirage/words.operands"], apart := false, laid := [("umpirage/words.operands", laid_umpirage_words_operands)] }
def WordsLogicSaid : Prop := wordsLogicRow.holds Tryd.pinned (OpenSpec.ofChange wordsLogicSpec)

/-- ITS FALSE NEIGHBOUR: 'it returns false'. Refute it at one input. -/
def wordsLogicWrong : ChangeSpec := { name := "wordsLogic", fn := fun _ => fun
  | [d1, d2, d3] => { results := [.lit (.bool false)], args := [d1, d2, d3] }
  | _ => none }
def WordsLogicWrongFalsely : Prop := wordsLogicRow.holds Tryd.pinned (OpenSpec.ofChange wordsLogicWrong)

/- THE SECOND FORM. 'bulk': how many values and letters a reading holds, each counted each time it is reached (what is shared counts as often as it is met; a slice's spare places count too). A statement '..UptoSaid' is the law's where the arguments, and the package variables that the reading takes, are together of bulk at most 1048576: NARROWER than '..Said'. Prove '..Said' where nothing that the law and all that it calls make is longer than what came in: it says more and counts as full. Else prove '..UptoSaid'. A law counts once. -/
mutual
def uptoBulk {H : Type} : DataW H → Nat
  | .lit (.string bytes) => bytes.length + 1
  | .lit _ => 1
  | .nil => 1
  | .ptr d => uptoBulk d + 1
  | .slice elems spare => uptoBulkAll elems + uptoBulkAll spare + 1
  | .agg parts => uptoBulkAll parts + 1
  | .iface _ d => uptoBulk d + 1
  | .map entries => uptoBulkEntries entries + 1
  | .held _ => 1
def uptoBulkAll {H : Type} : List (DataW H) → Nat
  | [] => 0
  | d :: r => uptoBulk d + uptoBulkAll r
def uptoBulkEntries {H : Type} : List (Lit × DataW H) → Nat
  | [] => 0
  | x :: r => uptoBulkEntry x + uptoBulkEntries r
def uptoBulkEntry {H : Type} : Lit × DataW H → Nat
  | (.string bytes, d) => bytes.length + uptoBulk d + 1
  | (_, d) => uptoBulk d + 1
 end
def uptoSmall : (H : Type) → List (DataW H) → Bool := fun _ ds => decide (uptoBulkAll ds ≤ 1048576)
def OpenSpec.upto (s : _root_.Go.ChangeSpec) : _root_.Go.OpenSpec := { _root_.Go.OpenSpec.ofChange s with cond := some uptoSmall }

/-- 'umpiragelaw6.WordsSays', WHERE WHAT IT READS IS OF BULK AT MOST 1048576: true; the input reads as it did. -/
def wordsSaysUptoRow : OpenClaim := { program := "ytibpgcdaommjeaadoor", sum := "94ca0c471f705e79710d49b52f50e41c610d0c683b1cef9b9d38af98dccdbc17", func := "umpirage/umpiragelaw6.WordsSays", spec := "wordsSays", unfollowed := true, recurses := true, named := ["umpirage/words.operands"], apart := false, laid := [("umpirage/words.operands", laid_umpirage_words_operands)], narrowed := true }
def WordsSaysUptoSaid : Prop := wordsSaysUptoRow.holds Tryd.pinned (OpenSpec.upto wordsSaysSpec)

/-- 'umpiragelaw6.WordsBits', WHERE WHAT IT READS IS OF BULK AT MOST 1048576: true; the input reads as it did. -/
def wordsBitsUptoRow : OpenClaim := { program := "ytibpgcdaommjeaadoor", sum := "94ca0c471f705e79710d49b52f50e41c610d0c683b1cef9b9d38af98dccdbc17", func := "umpirage/umpiragelaw6.WordsBits", spec := "wordsBits", unfollowed := true, recurses := true, named := ["umpirage/words.operands"], apart := false, laid := [("umpirage/words.operands", laid_umpirage_words_operands)], narrowed := true }
def WordsBitsUptoSaid : Prop := wordsBitsUptoRow.holds Tryd.pinned (OpenSpec.upto wordsBitsSpec)

/-- 'umpiragelaw6.WordsRing', WHERE WHAT IT READS IS OF BULK AT MOST 1048576: true; the input reads as it did. -/
def wordsRingUptoRow : OpenClaim := { program := "ytibpgcdaommjeaadoor", sum := "94ca0c471f705e79710d49b52f50e41c610d0c683b1cef9b9d38af98dccdbc17", func := "umpirage/umpiragelaw6.WordsRing", spec := "wordsRing", unfollowed := true, recurses := true, named := ["umpirage/words.operands"], apart := false, laid := [("umpirage/words.operands", laid_umpirage_words_operands)], narrowed := true }
def WordsRingUptoSaid : Prop := wordsRingUptoRow.holds Tryd.pinned (OpenSpec.upto wordsRingSpec)

/-- 'umpiragelaw6.WordsLogic', WHERE WHAT IT READS IS OF BULK AT MOST 1048576: true; the input reads as it did. -/
def wordsLogicUptoRow : OpenClaim := { program := "ytibpgcdaommjeaadoor", sum := "94ca0c471f705e79710d49b52f50e41c610d0c683b1cef9b9d38af98dccdbc17", func := "umpirage/umpiragelaw6.WordsLogic", spec := "wordsLogic", unfollowed := true, recurses := true, named := ["umpirage/words.operands"], apart := false, laid := [("umpirage/words.operands", laid_umpirage_words_operands)], narrowed := true }
def WordsLogicUptoSaid : Prop := wordsLogicUptoRow.holds Tryd.pinned (OpenSpec.upto wordsLogicSpec)

end Rows
end Go.Proofs.YtibpgcdaommjeaaDoor
