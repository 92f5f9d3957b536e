/-
  DERIVED. GIVEN WITH THE SEED: THE CARDS: each row of YtpnomeggdhcbaaaGreatDoorRows.lean that lists a variable, with what it lists TIED to the program's text (the seventh form; the later family's looks); each row that meets fmt, with fmt's text TOLD by the authors' own Lean function (tested against real Go, not proved from fmt's source: count such statements apart). THE CARD IS WHAT COUNTS. Prove the row's statement (the work); the ties are given (YtpnomeggdhcbaaaGreatDoorTie.lean); close each card by the builder's one call (the guide's Derived/Test/ToyasCard.lean, 'card_holds'). Laid BY PROGRAM, IN A SANDBOX (cutbox-door.mjs). By AI agents, Wed Nov 11 2026. No macro, syntax, notation, axiom, sorry.
-/
import Derived.Test.YtpnomeggdhcbaaaGreatDoorRows
import GoSem.ClaimSeven
namespace Go.Proofs.YtpnomeggdhcbaaaGreatDoor
namespace Rows

/-- THE TIED CARD OF 'screelaw4.LinePlays'. -/
def linePlaysCard : Claim7 := { stood := { row := linePlaysRow, standIns := [], harness := (true, "d91b8f0408106233c941e663d1265772461347226c92be31e5de79a49a369baf"), looks := false }, kinds := [], alts := [], laidByText := true, laidKinds := [.data, .data, .data], laidTests := true, laidLooks := .later }
def LinePlaysCardSaid : Prop := Claim7.holds Tryz.pinned (.plain (OpenSpec.ofChange linePlaysSpec)) linePlaysCard

/-- THE SECOND FORM's CARD OF 'screelaw4.LinePlays'. -/
def linePlaysUptoCard : Claim7 := { stood := { row := linePlaysUptoRow, standIns := [], harness := (true, "d91b8f0408106233c941e663d1265772461347226c92be31e5de79a49a369baf"), looks := false }, kinds := [], alts := [], laidByText := true, laidKinds := [.data, .data, .data], laidTests := true, laidLooks := .later }
def LinePlaysUptoCardSaid : Prop := Claim7.holds Tryz.pinned (.plain (OpenSpec.upto linePlaysSpec)) linePlaysUptoCard
end Rows
end Go.Proofs.YtpnomeggdhcbaaaGreatDoor
