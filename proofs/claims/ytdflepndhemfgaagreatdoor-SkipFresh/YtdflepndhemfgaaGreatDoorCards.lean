/-
  DERIVED. GIVEN WITH THE SEED: THE CARDS: each row of YtdflepndhemfgaaGreatDoorRows.lean that lists a variable, with what it lists TIED to the program's text (the seventh form; the later family's looks); each row that meets fmt, with fmt's text TOLD by the authors' own Lean function (tested against real Go, not proved from fmt's source: count such statements apart). THE CARD IS WHAT COUNTS. Prove the row's statement (the work); the ties are given (YtdflepndhemfgaaGreatDoorTie.lean); close each card by the builder's one call (the guide's Derived/Test/ToyasCard.lean, 'card_holds'). Laid BY PROGRAM, IN A SANDBOX (cutbox-door.mjs). By AI agents, Wed Nov 11 2026. No macro, syntax, notation, axiom, sorry.
-/
import Derived.Test.YtdflepndhemfgaaGreatDoorRows
import GoSem.ClaimSeven
namespace Go.Proofs.YtdflepndhemfgaaGreatDoor
namespace Rows

/-- THE TIED CARD OF 'screelaw5.SkipFresh'. -/
def skipFreshCard : Claim7 := { stood := { row := skipFreshRow, standIns := [], harness := (true, "02b1fd97f1dd90ad313551d6d4bbc35b9a7600924751575ed5e77fc47e7ddd69"), looks := false }, kinds := [], alts := [], laidByText := true, laidKinds := [.data, .data, .data], laidTests := true, laidLooks := .later }
def SkipFreshCardSaid : Prop := Claim7.holds Tryz.pinned (.plain (OpenSpec.ofChange skipFreshSpec)) skipFreshCard

/-- THE SECOND FORM's CARD OF 'screelaw5.SkipFresh'. -/
def skipFreshUptoCard : Claim7 := { stood := { row := skipFreshUptoRow, standIns := [], harness := (true, "02b1fd97f1dd90ad313551d6d4bbc35b9a7600924751575ed5e77fc47e7ddd69"), looks := false }, kinds := [], alts := [], laidByText := true, laidKinds := [.data, .data, .data], laidTests := true, laidLooks := .later }
def SkipFreshUptoCardSaid : Prop := Claim7.holds Tryz.pinned (.plain (OpenSpec.upto skipFreshSpec)) skipFreshUptoCard
end Rows
end Go.Proofs.YtdflepndhemfgaaGreatDoor
