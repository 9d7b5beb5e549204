/-
  DERIVED. GIVEN WITH THE SEED: THE CARDS: each row of YtibpgcdaommjeaaGreatDoorRows.lean that lists a variable, with what it lists TIED to the program's text (the seventh form; the later family's looks); each row that meets fmt, with fmt's text TOLD by the authors' own Lean function (tested against real Go, not proved from fmt's source: count such statements apart). THE CARD IS WHAT COUNTS. Prove the row's statement (the work); the ties are given (YtibpgcdaommjeaaGreatDoorTie.lean); close each card by the builder's one call (the guide's Derived/Test/ToyasCard.lean, 'card_holds'). Laid BY PROGRAM, IN A SANDBOX (cutbox-door.mjs). By AI agents, Wed Nov 11 2026. No macro, syntax, notation, axiom, sorry.
-/
import Derived.Test.YtibpgcdaommjeaaGreatDoorRows
import GoSem.ClaimSeven
namespace Go.Proofs.YtibpgcdaommjeaaGreatDoor
namespace Rows

/-- THE TIED CARD OF 'umpiragelaw6.WordsMean'. -/
def wordsMeanCard : Claim7 := { stood := { row := wordsMeanRow, standIns := [], harness := (true, "35c62fd394fa1844b8067190b7aa41de2eeafca20eaae247bf7019d7a2d8881b"), looks := false }, kinds := [], alts := [], laidByText := true, laidKinds := [.data], laidTests := true, laidLooks := .later }
def WordsMeanCardSaid : Prop := Claim7.holds Tryz.pinned (.plain (OpenSpec.ofChange wordsMeanSpec)) wordsMeanCard

/-- THE SECOND FORM's CARD OF 'umpiragelaw6.WordsMean'. -/
def wordsMeanUptoCard : Claim7 := { stood := { row := wordsMeanUptoRow, standIns := [], harness := (true, "35c62fd394fa1844b8067190b7aa41de2eeafca20eaae247bf7019d7a2d8881b"), looks := false }, kinds := [], alts := [], laidByText := true, laidKinds := [.data], laidTests := true, laidLooks := .later }
def WordsMeanUptoCardSaid : Prop := Claim7.holds Tryz.pinned (.plain (OpenSpec.upto wordsMeanSpec)) wordsMeanUptoCard
end Rows
end Go.Proofs.YtibpgcdaommjeaaGreatDoor
