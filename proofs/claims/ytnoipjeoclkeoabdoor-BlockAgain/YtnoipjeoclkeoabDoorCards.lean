/-
  DERIVED. GIVEN WITH THE SEED: THE CARDS: each row of YtnoipjeoclkeoabDoorRows.lean that lists a variable, with what it lists TIED to the program's text (the seventh form; the later family's looks); each row that meets fmt, with fmt's text TOLD by the authors' own Lean function (tested against real Go, not proved from fmt's source: count such statements apart). THE CARD IS WHAT COUNTS. Prove the row's statement (the work); the ties are given (YtnoipjeoclkeoabDoorTie.lean); close each card by the builder's one call (the guide's Derived/Test/ToyasCard.lean, 'card_holds'). Laid BY PROGRAM, IN A SANDBOX (cutbox-door.mjs). By AI agents, Wed Nov 11 2026. No macro, syntax, notation, axiom, sorry.
-/
import Derived.Test.YtnoipjeoclkeoabDoorRows
import GoSem.ClaimSeven
namespace Go.Proofs.YtnoipjeoclkeoabDoor
namespace Rows

/-- THE TIED CARD OF 'screelaw9.BlockAgain'. -/
def blockAgainCard : Claim7 := { stood := { row := blockAgainRow, standIns := [], harness := (true, "6440cd7d2745a754e7378bfac7cb409dfe094daea2f19c567bbb666939af3535"), looks := false }, kinds := [], alts := [], laidByText := true, laidKinds := [.data], laidTests := true, laidLooks := .later }
def BlockAgainCardSaid : Prop := Claim7.holds Tryd.pinned (.plain (OpenSpec.ofChange blockAgainSpec)) blockAgainCard

/-- THE TIED CARD OF 'screelaw9.BlockTurned'. -/
def blockTurnedCard : Claim7 := { stood := { row := blockTurnedRow, standIns := [], harness := (true, "6440cd7d2745a754e7378bfac7cb409dfe094daea2f19c567bbb666939af3535"), looks := false }, kinds := [], alts := [], laidByText := true, laidKinds := [.data], laidTests := true, laidLooks := .later }
def BlockTurnedCardSaid : Prop := Claim7.holds Tryd.pinned (.plain (OpenSpec.ofChange blockTurnedSpec)) blockTurnedCard

/-- THE SECOND FORM's CARD OF 'screelaw9.BlockAgain'. -/
def blockAgainUptoCard : Claim7 := { stood := { row := blockAgainUptoRow, standIns := [], harness := (true, "6440cd7d2745a754e7378bfac7cb409dfe094daea2f19c567bbb666939af3535"), looks := false }, kinds := [], alts := [], laidByText := true, laidKinds := [.data], laidTests := true, laidLooks := .later }
def BlockAgainUptoCardSaid : Prop := Claim7.holds Tryd.pinned (.plain (OpenSpec.upto blockAgainSpec)) blockAgainUptoCard

/-- THE SECOND FORM's CARD OF 'screelaw9.BlockTurned'. -/
def blockTurnedUptoCard : Claim7 := { stood := { row := blockTurnedUptoRow, standIns := [], harness := (true, "6440cd7d2745a754e7378bfac7cb409dfe094daea2f19c567bbb666939af3535"), looks := false }, kinds := [], alts := [], laidByText := true, laidKinds := [.data], laidTests := true, laidLooks := .later }
def BlockTurnedUptoCardSaid : Prop := Claim7.holds Tryd.pinned (.plain (OpenSpec.upto blockTurnedSpec)) blockTurnedUptoCard
end Rows
end Go.Proofs.YtnoipjeoclkeoabDoor
