/-
  DERIVED. GIVEN WITH THE SEED: THE CARDS: each row of YtibpgcdaommjeaaDoorRows.lean that lists a variable, with what it lists TIED to the program's text (the seventh form; the later family's looks); each row that meets fmt, with fmt's text TOLD by the authors' own Lean function (tested against real Go, not proved from fmt's source: count such statements apart). THE CARD IS WHAT COUNTS. Prove the row's statement (the work); the ties are given (YtibpgcdaommjeaaDoorTie.lean); close each card by the builder's one call (the guide's Derived/Test/ToyasCard.lean, 'card_holds'). Laid BY PROGRAM, IN A SANDBOX (cutbox-door.mjs). By AI agents, Wed Nov 11 2026. No macro, syntax, notation, axiom, sorry.
-/
import Derived.Test.YtibpgcdaommjeaaDoorRows
import GoSem.ClaimSeven
namespace Go.Proofs.YtibpgcdaommjeaaDoor
namespace Rows

/-- THE TIED CARD OF 'umpiragelaw6.WordsSays'. -/
def wordsSaysCard : Claim7 := { stood := { row := wordsSaysRow, standIns := [], harness := (true, "eb0576bd2f4852fc958e49297a004bd9e7043c43e5486b38c66cba9a7669f66c"), looks := false }, kinds := [], alts := [], laidByText := true, laidKinds := [.data], laidTests := true, laidLooks := .later }
def WordsSaysCardSaid : Prop := Claim7.holds Tryd.pinned (.plain (OpenSpec.ofChange wordsSaysSpec)) wordsSaysCard

/-- THE TIED CARD OF 'umpiragelaw6.WordsBits'. -/
def wordsBitsCard : Claim7 := { stood := { row := wordsBitsRow, standIns := [], harness := (true, "eb0576bd2f4852fc958e49297a004bd9e7043c43e5486b38c66cba9a7669f66c"), looks := false }, kinds := [], alts := [], laidByText := true, laidKinds := [.data], laidTests := true, laidLooks := .later }
def WordsBitsCardSaid : Prop := Claim7.holds Tryd.pinned (.plain (OpenSpec.ofChange wordsBitsSpec)) wordsBitsCard

/-- THE TIED CARD OF 'umpiragelaw6.WordsRing'. -/
def wordsRingCard : Claim7 := { stood := { row := wordsRingRow, standIns := [], harness := (true, "eb0576bd2f4852fc958e49297a004bd9e7043c43e5486b38c66cba9a7669f66c"), looks := false }, kinds := [], alts := [], laidByText := true, laidKinds := [.data], laidTests := true, laidLooks := .later }
def WordsRingCardSaid : Prop := Claim7.holds Tryd.pinned (.plain (OpenSpec.ofChange wordsRingSpec)) wordsRingCard

/-- THE TIED CARD OF 'umpiragelaw6.WordsLogic'. -/
def wordsLogicCard : Claim7 := { stood := { row := wordsLogicRow, standIns := [], harness := (true, "eb0576bd2f4852fc958e49297a004bd9e7043c43e5486b38c66cba9a7669f66c"), looks := false }, kinds := [], alts := [], laidByText := true, laidKinds := [.data], laidTests := true, laidLooks := .later }
def WordsLogicCardSaid : Prop := Claim7.holds Tryd.pinned (.plain (OpenSpec.ofChange wordsLogicSpec)) wordsLogicCard

/-- THE SECOND FORM's CARD OF 'umpiragelaw6.WordsSays'. -/
def wordsSaysUptoCard : Claim7 := { stood := { row := wordsSaysUptoRow, standIns := [], harness := (true, "eb0576bd2f4852fc958e49297a004bd9e7043c43e5486b38c66cba9a7669f66c"), looks := false }, kinds := [], alts := [], laidByText := true, laidKinds := [.data], laidTests := true, laidLooks := .later }
def WordsSaysUptoCardSaid : Prop := Claim7.holds Tryd.pinned (.plain (OpenSpec.upto wordsSaysSpec)) wordsSaysUptoCard

/-- THE SECOND FORM's CARD OF 'umpiragelaw6.WordsBits'. -/
def wordsBitsUptoCard : Claim7 := { stood := { row := wordsBitsUptoRow, standIns := [], harness := (true, "eb0576bd2f4852fc958e49297a004bd9e7043c43e5486b38c66cba9a7669f66c"), looks := false }, kinds := [], alts := [], laidByText := true, laidKinds := [.data], laidTests := true, laidLooks := .later }
def WordsBitsUptoCardSaid : Prop := Claim7.holds Tryd.pinned (.plain (OpenSpec.upto wordsBitsSpec)) wordsBitsUptoCard

/-- THE SECOND FORM's CARD OF 'umpiragelaw6.WordsRing'. -/
def wordsRingUptoCard : Claim7 := { stood := { row := wordsRingUptoRow, standIns := [], harness := (true, "eb0576bd2f4852fc958e49297a004bd9e7043c43e5486b38c66cba9a7669f66c"), looks := false }, kinds := [], alts := [], laidByText := true, laidKinds := [.data], laidTests := true, laidLooks := .later }
def WordsRingUptoCardSaid : Prop := Claim7.holds Tryd.pinned (.plain (OpenSpec.upto wordsRingSpec)) wordsRingUptoCard

/-- THE SECOND FORM's CARD OF 'umpiragelaw6.WordsLogic'. -/
def wordsLogicUptoCard : Claim7 := { stood := { row := wordsLogicUptoRow, standIns := [], harness := (true, "eb0576bd2f4852fc958e49297a004bd9e7043c43e5486b38c66cba9a7669f66c"), looks := false }, kinds := [], alts := [], laidByText := true, laidKinds := [.data], laidTests := true, laidLooks := .later }
def WordsLogicUptoCardSaid : Prop := Claim7.holds Tryd.pinned (.plain (OpenSpec.upto wordsLogicSpec)) wordsLogicUptoCard
end Rows
end Go.Proofs.YtibpgcdaommjeaaDoor
