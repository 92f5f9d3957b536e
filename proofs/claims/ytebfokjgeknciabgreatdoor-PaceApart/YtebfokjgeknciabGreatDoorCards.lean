/-
  DERIVED. GIVEN WITH THE SEED: THE CARDS: each row of YtebfokjgeknciabGreatDoorRows.lean that lists a variable, with what it lists TIED to the program's text (the seventh form; the later family's looks); each row that meets fmt, with fmt's text TOLD by the authors' own Lean function (tested against real Go, not proved from fmt's source: count such statements apart). THE CARD IS WHAT COUNTS. Prove the row's statement (the work); the ties are given (YtebfokjgeknciabGreatDoorTie.lean); close each card by the builder's one call (the guide's Derived/Test/ToyasCard.lean, 'card_holds'). Laid BY PROGRAM, IN A SANDBOX (cutbox-door.mjs). By AI agents, Wed Nov 11 2026. No macro, syntax, notation, axiom, sorry.
-/
import Derived.Test.YtebfokjgeknciabGreatDoorRows
import GoSem.ClaimSeven
namespace Go.Proofs.YtebfokjgeknciabGreatDoor
namespace Rows

/-- THE TIED CARD OF 'screelaw15.PaceApart'. -/
def paceApartCard : Claim7 := { stood := { row := paceApartRow, standIns := [], harness := (true, "ca86401d10a9328be81fb8e00f0032f5800e5b03e0c3e4a6b5319fa68e8585b2"), looks := false }, kinds := [], alts := [], laidByText := true, laidKinds := [.data, .data, .data], laidTests := true, laidLooks := .later }
def PaceApartCardSaid : Prop := Claim7.holds Tryz.pinned (.plain (OpenSpec.ofChange paceApartSpec)) paceApartCard

/-- THE SECOND FORM's CARD OF 'screelaw15.PaceApart'. -/
def paceApartUptoCard : Claim7 := { stood := { row := paceApartUptoRow, standIns := [], harness := (true, "ca86401d10a9328be81fb8e00f0032f5800e5b03e0c3e4a6b5319fa68e8585b2"), looks := false }, kinds := [], alts := [], laidByText := true, laidKinds := [.data, .data, .data], laidTests := true, laidLooks := .later }
def PaceApartUptoCardSaid : Prop := Claim7.holds Tryz.pinned (.plain (OpenSpec.upto paceApartSpec)) paceApartUptoCard
end Rows
end Go.Proofs.YtebfokjgeknciabGreatDoor
