/-
  DERIVED. GIVEN WITH THE SEED: THE CARDS: each row of YtkknpcpioodhaaaGreatDoorRows.lean that lists a variable, with what it lists TIED to the program's text (the seventh form; the later family's looks); each row that meets fmt, with fmt's text TOLD by the authors' own Lean function (tested against real Go, not proved from fmt's source: count such statements apart). THE CARD IS WHAT COUNTS. Prove the row's statement (the work); the ties are given (YtkknpcpioodhaaaGreatDoorTie.lean); close each card by the builder's one call (the guide's Derived/Test/ToyasCard.lean, 'card_holds'). Laid BY PROGRAM, IN A SANDBOX (cutbox-door.mjs). By AI agents, Wed Nov 11 2026. No macro, syntax, notation, axiom, sorry.
-/
import Derived.Test.YtkknpcpioodhaaaGreatDoorRows
import GoSem.ClaimSeven
namespace Go.Proofs.YtkknpcpioodhaaaGreatDoor
namespace Rows

/-- THE TIED CARD OF 'screelaw1.KeyPlays'. -/
def keyPlaysCard : Claim7 := { stood := { row := keyPlaysRow, standIns := [], harness := (true, "689c4003b3504bcdf21931d6477b1415b80a53aeb3772b88e099ad56122b2d6e"), looks := false }, kinds := [], alts := [], laidByText := true, laidKinds := [.data, .data, .data], laidTests := true, laidLooks := .later }
def KeyPlaysCardSaid : Prop := Claim7.holds Tryz.pinned (.plain (OpenSpec.ofChange keyPlaysSpec)) keyPlaysCard

/-- THE SECOND FORM's CARD OF 'screelaw1.KeyPlays'. -/
def keyPlaysUptoCard : Claim7 := { stood := { row := keyPlaysUptoRow, standIns := [], harness := (true, "689c4003b3504bcdf21931d6477b1415b80a53aeb3772b88e099ad56122b2d6e"), looks := false }, kinds := [], alts := [], laidByText := true, laidKinds := [.data, .data, .data], laidTests := true, laidLooks := .later }
def KeyPlaysUptoCardSaid : Prop := Claim7.holds Tryz.pinned (.plain (OpenSpec.upto keyPlaysSpec)) keyPlaysUptoCard
end Rows
end Go.Proofs.YtkknpcpioodhaaaGreatDoor
