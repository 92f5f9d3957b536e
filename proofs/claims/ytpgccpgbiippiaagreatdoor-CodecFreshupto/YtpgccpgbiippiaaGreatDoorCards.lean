/-
  DERIVED. GIVEN WITH THE SEED: THE CARDS: each row of YtpgccpgbiippiaaGreatDoorRows.lean that lists a variable, with what it lists TIED to the program's text (the seventh form; the later family's looks); each row that meets fmt, with fmt's text TOLD by the authors' own Lean function (tested against real Go, not proved from fmt's source: count such statements apart). THE CARD IS WHAT COUNTS. Prove the row's statement (the work); the ties are given (YtpgccpgbiippiaaGreatDoorTie.lean); close each card by the builder's one call (the guide's Derived/Test/ToyasCard.lean, 'card_holds'). Laid BY PROGRAM, IN A SANDBOX (cutbox-door.mjs). By AI agents, Wed Nov 11 2026. No macro, syntax, notation, axiom, sorry.
-/
import Derived.Test.YtpgccpgbiippiaaGreatDoorRows
import GoSem.ClaimSeven
namespace Go.Proofs.YtpgccpgbiippiaaGreatDoor
namespace Rows

/-- THE TIED CARD OF 'screelaw2.CodecFresh'. -/
def codecFreshCard : Claim7 := { stood := { row := codecFreshRow, standIns := [], harness := (true, "990bcdbc1f5a10de60d070cc5533465c16666b118d777278b234a439d9e6d83c"), looks := false }, kinds := [], alts := [], laidByText := true, laidKinds := [.data, .data, .data, .data], laidTests := true, laidLooks := .later }
def CodecFreshCardSaid : Prop := Claim7.holds Tryz.pinned (.plain (OpenSpec.ofChange codecFreshSpec)) codecFreshCard

/-- THE SECOND FORM's CARD OF 'screelaw2.CodecFresh'. -/
def codecFreshUptoCard : Claim7 := { stood := { row := codecFreshUptoRow, standIns := [], harness := (true, "990bcdbc1f5a10de60d070cc5533465c16666b118d777278b234a439d9e6d83c"), looks := false }, kinds := [], alts := [], laidByText := true, laidKinds := [.data, .data, .data, .data], laidTests := true, laidLooks := .later }
def CodecFreshUptoCardSaid : Prop := Claim7.holds Tryz.pinned (.plain (OpenSpec.upto codecFreshSpec)) codecFreshUptoCard
end Rows
end Go.Proofs.YtpgccpgbiippiaaGreatDoor
