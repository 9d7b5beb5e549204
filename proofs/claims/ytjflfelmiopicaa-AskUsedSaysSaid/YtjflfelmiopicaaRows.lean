/-
  No cell of these rows narrows 'for every input' (looked for: loops, veiled, ifaces, maps, wideKeys, modest, calm, conditions, laid).
  DERIVED. THE GIVEN ROWS OF THIS SEAT. 4 by the template 'for every input the law returns true; each argument reads behind the call as it read before'; 0 by the template 'total and deterministic' (their statements: YtjflfelmiopicaaTotals.lean).
  GIVEN WITH THE SEED: the statements are not yours to turn. If you find one false, say at which input.
  Laid BY PROGRAM, IN A SANDBOX (cutbox-rows.mjs): the forced cells as the released guide's own fill.sh prints them over the translation 089d4532d799587b… (all of the seat's roots in one cut). By AI agents, Wed Nov 11 2026. No macro, syntax, notation, axiom, sorry.
-/
import Derived.Test.YtjflfelmiopicaaChecked
import GoSem.Claim
import GoSem.ClaimJoined
import GoSem.ClaimMapViews
import Derived.JoinedTies
import Derived.KernelRfl
namespace Go.Proofs.Ytjflfelmiopicaa
/- THE CELL 'sum', in the pinned program and in every row, IS THE sha256 OF THE DUMP (.gsa) THAT YtjflfelmiopicaaProg.lean LOADS. Nothing in Lean hashes anything: it is a label: what it is worth is what the hold of that sum in a sandbox is worth. -/
noncomputable def Try.pinned : Pinned := { name := "ytjflfelmiopicaa", sum := "089d4532d799587b9355acce5a081f47741ab2061f67b01cde1648683bf217b7", checked := Try.checked }
namespace Rows
def none {H : Type} : Left H := { results := [], args := [] }

/-- 'umpiragelaw1.AskBeginning': WHATEVER THE INPUT: true; the input reads as it did. -/
def askBeginningSpec : ChangeSpec := { name := "askBeginning", fn := fun _ => fun
  | [d1, d2] => { results := [.lit (.bool true)], args := [d1, d2] }
  | _ => none }
def askBeginningRow : OpenClaim := { program := "ytjflfelmiopicaa", sum := "089d4532d799587b9355acce5a081f47741ab2061f67b01cde1648683bf217b7", func := "umpirage/umpiragelaw1.AskBeginning", spec := "askBeginning", unfollowed := true, recurses := true, apart := false }
def AskBeginningSaid : Prop := askBeginningRow.holds Try.pinned (OpenSpec.ofChange askBeginningSpec)

/-- ITS FALSE NEIGHBOUR: 'it returns false'. Refute it at one input. -/
def askBeginningWrong : ChangeSpec := { name := "askBeginning", fn := fun _ => fun
  | [d1, d2] => { results := [.lit (.bool false)], args := [d1, d2] }
  | _ => none }
def AskBeginningWrongFalsely : Prop := askBeginningRow.holds Try.pinned (OpenSpec.ofChange askBeginningWrong)

/-- 'umpiragelaw1.AskCheckSays': WHATEVER THE INPUT: true; the input reads as it did. -/
def askCheckSaysSpec : ChangeSpec := { name := "askCheckSays", fn := fun _ => fun
  | [d] => { results := [.lit (.bool true)], args := [d] }
  | _ => none }
def askCheckSaysRow : OpenClaim := { program := "ytjflfelmiopicaa", sum := "089d4532d799587b9355acce5a081f47741ab2061f67b01cde1648683bf217b7", func := "umpirage/umpiragelaw1.AskCheckSays", spec := "askCheckSays", unfollowed := true, recurses := true, apart := false }
def AskCheckSaysSaid : Prop := askCheckSaysRow.holds Try.pinned (OpenSpec.ofChange askCheckSaysSpec)

/-- ITS FALSE NEIGHBOUR: 'it returns false'. Refute it at one input. -/
def askCheckSaysWrong : ChangeSpec := { name := "askCheckSays", fn := fun _ => fun
  | [d] => { results := [.lit (.bool false)], args := [d] }
  | _ => none }
def AskCheckSaysWrongFalsely : Prop := askCheckSaysRow.holds Try.pinned (OpenSpec.ofChange askCheckSaysWrong)

/-- 'umpiragelaw1.AskSortsSays': WHATEVER THE INPUT: true; the input reads as it did. -/
def askSortsSaysSpec : ChangeSpec := { name := "askSortsSays", fn := fun _ => fun
  | [d] => { results := [.lit (.bool true)], args := [d] }
  | _ => none }
def askSortsSaysRow : OpenClaim := { program := "ytjflfelmiopicaa", sum := "089d4532d799587b9355acce5a081f47741ab2061f67b01cde1648683bf217b7", func := "umpirage/umpiragelaw1.AskSortsSays", spec := "askSortsSays", unfollowed := true, recurses := true, apart := false }
def AskSortsSaysSaid : Prop := askSortsSaysRow.holds Try.pinned (OpenSpec.ofChange askSortsSaysSpec)

/-- ITS FALSE NEIGHBOUR: 'it returns false'. Refute it at one input. -/
def askSortsSaysWrong : ChangeSpec := { name := "askSortsSays", fn := fun _ => fun
  | [d] => { results := [.lit (.bool false)], args := [d] }
  | _ => none }
def AskSortsSaysWrongFalsely : Prop := askSortsSaysRow.holds Try.pinned (OpenSpec.ofChange askSortsSaysWrong)

/-- 'umpiragelaw1.AskUsedSays': WHATEVER THE INPUT: true; the input reads as it did. -/
def askUsedSaysSpec : ChangeSpec := { name := "askUsedSays", fn := fun _ => fun
  | [d] => { results := [.lit (.bool true)], args := [d] }
  | _ => none }
def askUsedSaysRow : OpenClaim := { program := "ytjflfelmiopicaa", sum := "089d4532d799587b9355acce5a081f47741ab2061f67b01cde1648683bf217b7", func := "umpirage/umpiragelaw1.AskUsedSays", spec := "askUsedSays", unfollowed := true, recurses := true, apart := false }
def AskUsedSaysSaid : Prop := askUsedSaysRow.holds Try.pinned (OpenSpec.ofChange askUsedSaysSpec)

/-- ITS FALSE NEIGHBOUR: 'it returns false'. Refute it at one input. -/
def askUsedSaysWrong : ChangeSpec := { name := "askUsedSays", fn := fun _ => fun
  | [d] => { results := [.lit (.bool false)], args := [d] }
  | _ => none }
def AskUsedSaysWrongFalsely : Prop := askUsedSaysRow.holds Try.pinned (OpenSpec.ofChange askUsedSaysWrong)

/- THE SECOND FORM. 'bulk': how many values and letters a reading holds, each counted each time it is reached (what is shared counts as often as it is met; a slice's spare places count too). A statement '..UptoSaid' is the law's where the arguments, and the package variables that the reading takes, are together of bulk at most 1048576: NARROWER than '..Said'. Prove '..Said' where nothing that the law and all that it calls make is longer than what came in: it says more and counts as full. Else prove '..UptoSaid'. A law counts once. -/
mutual
def uptoBulk {H : Type} : DataW H → Nat
  | .lit (.string bytes) => bytes.length + 1
  | .lit _ => 1
  | .nil => 1
  | .ptr d => uptoBulk d + 1
  | .slice elems spare => uptoBulkAll elems + uptoBulkAll spare + 1
  | .agg parts => uptoBulkAll parts + 1
  | .iface _ d => uptoBulk d + 1
  | .map entries => uptoBulkEntries entries + 1
  | .held _ => 1
def uptoBulkAll {H : Type} : List (DataW H) → Nat
  | [] => 0
  | d :: r => uptoBulk d + uptoBulkAll r
def uptoBulkEntries {H : Type} : List (Lit × DataW H) → Nat
  | [] => 0
  | x :: r => uptoBulkEntry x + uptoBulkEntries r
def uptoBulkEntry {H : Type} : Lit × DataW H → Nat
  | (.string bytes, d) => bytes.length + uptoBulk d + 1
  | (_, d) => uptoBulk d + 1
 end
def uptoSmall : (H : Type) → List (DataW H) → Bool := fun _ ds => decide (uptoBulkAll ds ≤ 1048576)
def OpenSpec.upto (s : _root_.Go.ChangeSpec) : _root_.Go.OpenSpec := { _root_.Go.OpenSpec.ofChange s with cond := some uptoSmall }

/-- 'umpiragelaw1.AskBeginning', WHERE WHAT IT READS IS OF BULK AT MOST 1048576: true; the input reads as it did. -/
def askBeginningUptoRow : OpenClaim := { program := "ytjflfelmiopicaa", sum := "089d4532d799587b9355acce5a081f47741ab2061f67b01cde1648683bf217b7", func := "umpirage/umpiragelaw1.AskBeginning", spec := "askBeginning", unfollowed := true, recurses := true, apart := false, narrowed := true }
def AskBeginningUptoSaid : Prop := askBeginningUptoRow.holds Try.pinned (OpenSpec.upto askBeginningSpec)

/-- 'umpiragelaw1.AskCheckSays', WHERE WHAT IT READS IS OF BULK AT MOST 1048576: true; the input reads as it did. -/
def askCheckSaysUptoRow : OpenClaim := { program := "ytjflfelmiopicaa", sum := "089d4532d799587b9355acce5a081f47741ab2061f67b01cde1648683bf217b7", func := "umpirage/umpiragelaw1.AskCheckSays", spec := "askCheckSays", unfollowed := true, recurses := true, apart := false, narrowed := true }
def AskCheckSaysUptoSaid : Prop := askCheckSaysUptoRow.holds Try.pinned (OpenSpec.upto askCheckSaysSpec)

/-- 'umpiragelaw1.AskSortsSays', WHERE WHAT IT READS IS OF BULK AT MOST 1048576: true; the input reads as it did. -/
def askSortsSaysUptoRow : OpenClaim := { program := "ytjflfelmiopicaa", sum := "089d4532d799587b9355acce5a081f47741ab2061f67b01cde1648683bf217b7", func := "umpirage/umpiragelaw1.AskSortsSays", spec := "askSortsSays", unfollowed := true, recurses := true, apart := false, narrowed := true }
def AskSortsSaysUptoSaid : Prop := askSortsSaysUptoRow.holds Try.pinned (OpenSpec.upto askSortsSaysSpec)

/-- 'umpiragelaw1.AskUsedSays', WHERE WHAT IT READS IS OF BULK AT MOST 1048576: true; the input reads as it did. -/
def askUsedSaysUptoRow : OpenClaim := { program := "ytjflfelmiopicaa", sum := "089d4532d799587b9355acce5a081f47741ab2061f67b01cde1648683bf217b7", func := "umpirage/umpiragelaw1.AskUsedSays", spec := "askUsedSays", unfollowed := true, recurses := true, apart := false, narrowed := true }
def AskUsedSaysUptoSaid : Prop := askUsedSaysUptoRow.holds Try.pinned (OpenSpec.upto askUsedSaysSpec)

end Rows
end Go.Proofs.Ytjflfelmiopicaa
