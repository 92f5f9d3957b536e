/-
  DERIVED. GIVEN WITH THE SEED: THE CARDS: each row of YtakgakjkemphlabDoorRows.lean that lists a variable, with what it lists TIED to the program's text (the seventh form; the later family's looks); each row that meets fmt, with fmt's text TOLD by the authors' own Lean function (tested against real Go, not proved from fmt's source: count such statements apart). THE CARD IS WHAT COUNTS. Prove the row's statement (the work); the ties are given (YtakgakjkemphlabDoorTie.lean); close each card by the builder's one call (the guide's Derived/Test/ToyasCard.lean, 'card_holds'). Laid BY PROGRAM, IN A SANDBOX (cutbox-door.mjs). By AI agents, Wed Nov 11 2026. No macro, syntax, notation, axiom, sorry.
-/
import Derived.Test.YtakgakjkemphlabDoorRows
import GoSem.ClaimSeven
namespace Go.Proofs.YtakgakjkemphlabDoor
namespace Rows

/-- THE TIED CARD OF 'screelaw7.LogBack'. -/
def logBackCard : Claim7 := { stood := { row := logBackRow, standIns := [], harness := (true, "73f3047af0465df7ddb44120c8b54938227a5e1e96a928c6b1469a2ef28dea5d"), looks := false }, kinds := [], alts := [], laidByText := true, laidKinds := [.data], laidTests := true, laidLooks := .later }
def LogBackCardSaid : Prop := Claim7.holds Tryd.pinned (.plain (OpenSpec.ofChange logBackSpec)) logBackCard

/-- THE TIED CARD OF 'screelaw7.LogTurned'. -/
def logTurnedCard : Claim7 := { stood := { row := logTurnedRow, standIns := [], harness := (true, "73f3047af0465df7ddb44120c8b54938227a5e1e96a928c6b1469a2ef28dea5d"), looks := false }, kinds := [], alts := [], laidByText := true, laidKinds := [.data], laidTests := true, laidLooks := .later }
def LogTurnedCardSaid : Prop := Claim7.holds Tryd.pinned (.plain (OpenSpec.ofChange logTurnedSpec)) logTurnedCard

/-- THE TIED CARD OF 'screelaw7.LogFits'. -/
def logFitsCard : Claim7 := { stood := { row := logFitsRow, standIns := [], harness := (true, "73f3047af0465df7ddb44120c8b54938227a5e1e96a928c6b1469a2ef28dea5d"), looks := false }, kinds := [], alts := [], laidByText := true, laidKinds := [.data], laidTests := true, laidLooks := .later }
def LogFitsCardSaid : Prop := Claim7.holds Tryd.pinned (.plain (OpenSpec.ofChange logFitsSpec)) logFitsCard

/-- THE TIED CARD OF 'screelaw7.LogGroup'. -/
def logGroupCard : Claim7 := { stood := { row := logGroupRow, standIns := [], harness := (true, "73f3047af0465df7ddb44120c8b54938227a5e1e96a928c6b1469a2ef28dea5d"), looks := false }, kinds := [], alts := [], laidByText := true, laidKinds := [.data], laidTests := true, laidLooks := .later }
def LogGroupCardSaid : Prop := Claim7.holds Tryd.pinned (.plain (OpenSpec.ofChange logGroupSpec)) logGroupCard

/-- THE SECOND FORM's CARD OF 'screelaw7.LogBack'. -/
def logBackUptoCard : Claim7 := { stood := { row := logBackUptoRow, standIns := [], harness := (true, "73f3047af0465df7ddb44120c8b54938227a5e1e96a928c6b1469a2ef28dea5d"), looks := false }, kinds := [], alts := [], laidByText := true, laidKinds := [.data], laidTests := true, laidLooks := .later }
def LogBackUptoCardSaid : Prop := Claim7.holds Tryd.pinned (.plain (OpenSpec.upto logBackSpec)) logBackUptoCard

/-- THE SECOND FORM's CARD OF 'screelaw7.LogTurned'. -/
def logTurnedUptoCard : Claim7 := { stood := { row := logTurnedUptoRow, standIns := [], harness := (true, "73f3047af0465df7ddb44120c8b54938227a5e1e96a928c6b1469a2ef28dea5d"), looks := false }, kinds := [], alts := [], laidByText := true, laidKinds := [.data], laidTests := true, laidLooks := .later }
def LogTurnedUptoCardSaid : Prop := Claim7.holds Tryd.pinned (.plain (OpenSpec.upto logTurnedSpec)) logTurnedUptoCard

/-- THE SECOND FORM's CARD OF 'screelaw7.LogFits'. -/
def logFitsUptoCard : Claim7 := { stood := { row := logFitsUptoRow, standIns := [], harness := (true, "73f3047af0465df7ddb44120c8b54938227a5e1e96a928c6b1469a2ef28dea5d"), looks := false }, kinds := [], alts := [], laidByText := true, laidKinds := [.data], laidTests := true, laidLooks := .later }
def LogFitsUptoCardSaid : Prop := Claim7.holds Tryd.pinned (.plain (OpenSpec.upto logFitsSpec)) logFitsUptoCard

/-- THE SECOND FORM's CARD OF 'screelaw7.LogGroup'. -/
def logGroupUptoCard : Claim7 := { stood := { row := logGroupUptoRow, standIns := [], harness := (true, "73f3047af0465df7ddb44120c8b54938227a5e1e96a928c6b1469a2ef28dea5d"), looks := false }, kinds := [], alts := [], laidByText := true, laidKinds := [.data], laidTests := true, laidLooks := .later }
def LogGroupUptoCardSaid : Prop := Claim7.holds Tryd.pinned (.plain (OpenSpec.upto logGroupSpec)) logGroupUptoCard
end Rows
end Go.Proofs.YtakgakjkemphlabDoor
