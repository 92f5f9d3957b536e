/-
  DERIVED. GIVEN WITH THE SEED: THE CARDS: each row of YtjnmklbhhlfhcaaGreatDoorRows.lean that lists a variable, with what it lists TIED to the program's text (the seventh form; the later family's looks); each row that meets fmt, with fmt's text TOLD by the authors' own Lean function (tested against real Go, not proved from fmt's source: count such statements apart). THE CARD IS WHAT COUNTS. Prove the row's statement (the work); the ties are given (YtjnmklbhhlfhcaaGreatDoorTie.lean); close each card by the builder's one call (the guide's Derived/Test/ToyasCard.lean, 'card_holds'). Laid BY PROGRAM, IN A SANDBOX (cutbox-door.mjs). By AI agents, Wed Nov 11 2026. No macro, syntax, notation, axiom, sorry.
-/
import Derived.Test.YtjnmklbhhlfhcaaGreatDoorRows
import GoSem.ClaimSeven
namespace Go.Proofs.YtjnmklbhhlfhcaaGreatDoor
namespace Rows

/-- THE TIED CARD OF 'screelaw9.BlockTwo'. -/
def blockTwoCard : Claim7 := { stood := { row := blockTwoRow, standIns := [], harness := (true, "e03e807b04901b37e39b72c63ed53d98ace871baf577d681e42d9de84221cb44"), looks := false }, kinds := [], alts := [], laidByText := true, laidKinds := [.data, .data, .data, .data], laidTests := true, laidLooks := .later }
def BlockTwoCardSaid : Prop := Claim7.holds Tryz.pinned (.plain (OpenSpec.ofChange blockTwoSpec)) blockTwoCard

/-- THE SECOND FORM's CARD OF 'screelaw9.BlockTwo'. -/
def blockTwoUptoCard : Claim7 := { stood := { row := blockTwoUptoRow, standIns := [], harness := (true, "e03e807b04901b37e39b72c63ed53d98ace871baf577d681e42d9de84221cb44"), looks := false }, kinds := [], alts := [], laidByText := true, laidKinds := [.data, .data, .data, .data], laidTests := true, laidLooks := .later }
def BlockTwoUptoCardSaid : Prop := Claim7.holds Tryz.pinned (.plain (OpenSpec.upto blockTwoSpec)) blockTwoUptoCard
end Rows
end Go.Proofs.YtjnmklbhhlfhcaaGreatDoor
