/-
  DERIVED. GIVEN WITH THE SEED: THE CARDS: each row of YtcmbogogakdeoaaDoorRows.lean that lists a variable, with what it lists TIED to the program's text (the seventh form; the later family's looks); each row that meets fmt, with fmt's text TOLD by the authors' own Lean function (tested against real Go, not proved from fmt's source: count such statements apart). THE CARD IS WHAT COUNTS. Prove the row's statement (the work); the ties are given (YtcmbogogakdeoaaDoorTie.lean); close each card by the builder's one call (the guide's Derived/Test/ToyasCard.lean, 'card_holds'). Laid BY PROGRAM, IN A SANDBOX (cutbox-door.mjs). By AI agents, Wed Nov 11 2026. No macro, syntax, notation, axiom, sorry.
-/
import Derived.Test.YtcmbogogakdeoaaDoorRows
import GoSem.ClaimSeven
namespace Go.Proofs.YtcmbogogakdeoaaDoor
namespace Rows

/-- THE TIED CARD OF 'screelaw7.LogBack'. -/
def logBackCard : Claim7 := { stood := { row := logBackRow, standIns := [], harness := (true, "b6094519676dba74cd3c12afc934d810c56ce1febe89a4e51495e211947d08a5"), looks := false }, kinds := [], alts := [], laidByText := true, laidKinds := [.data], laidTests := true, laidLooks := .later }
def LogBackCardSaid : Prop := Claim7.holds Tryd.pinned (.plain (OpenSpec.ofChange logBackSpec)) logBackCard

/-- THE TIED CARD OF 'screelaw7.LogTurned'. -/
def logTurnedCard : Claim7 := { stood := { row := logTurnedRow, standIns := [], harness := (true, "b6094519676dba74cd3c12afc934d810c56ce1febe89a4e51495e211947d08a5"), looks := false }, kinds := [], alts := [], laidByText := true, laidKinds := [.data], laidTests := true, laidLooks := .later }
def LogTurnedCardSaid : Prop := Claim7.holds Tryd.pinned (.plain (OpenSpec.ofChange logTurnedSpec)) logTurnedCard

/-- THE SECOND FORM's CARD OF 'screelaw7.LogBack'. -/
def logBackUptoCard : Claim7 := { stood := { row := logBackUptoRow, standIns := [], harness := (true, "b6094519676dba74cd3c12afc934d810c56ce1febe89a4e51495e211947d08a5"), looks := false }, kinds := [], alts := [], laidByText := true, laidKinds := [.data], laidTests := true, laidLooks := .later }
def LogBackUptoCardSaid : Prop := Claim7.holds Tryd.pinned (.plain (OpenSpec.upto logBackSpec)) logBackUptoCard

/-- THE SECOND FORM's CARD OF 'screelaw7.LogTurned'. -/
def logTurnedUptoCard : Claim7 := { stood := { row := logTurnedUptoRow, standIns := [], harness := (true, "b6094519676dba74cd3c12afc934d810c56ce1febe89a4e51495e211947d08a5"), looks := false }, kinds := [], alts := [], laidByText := true, laidKinds := [.data], laidTests := true, laidLooks := .later }
def LogTurnedUptoCardSaid : Prop := Claim7.holds Tryd.pinned (.plain (OpenSpec.upto logTurnedSpec)) logTurnedUptoCard
end Rows
end Go.Proofs.YtcmbogogakdeoaaDoor
