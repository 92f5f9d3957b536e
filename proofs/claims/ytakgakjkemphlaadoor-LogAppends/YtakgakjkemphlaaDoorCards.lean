/-
  DERIVED. GIVEN WITH THE SEED: THE CARDS: each row of YtakgakjkemphlaaDoorRows.lean that lists a variable, with what it lists TIED to the program's text (the seventh form; the later family's looks); each row that meets fmt, with fmt's text TOLD by the authors' own Lean function (tested against real Go, not proved from fmt's source: count such statements apart). THE CARD IS WHAT COUNTS. Prove the row's statement (the work); the ties are given (YtakgakjkemphlaaDoorTie.lean); close each card by the builder's one call (the guide's Derived/Test/ToyasCard.lean, 'card_holds'). Laid BY PROGRAM, IN A SANDBOX (cutbox-door.mjs). By AI agents, Wed Nov 11 2026. No macro, syntax, notation, axiom, sorry.
-/
import Derived.Test.YtakgakjkemphlaaDoorRows
import GoSem.ClaimSeven
namespace Go.Proofs.YtakgakjkemphlaaDoor
namespace Rows

/-- THE TIED CARD OF 'screelaw7.LogAppends'. -/
def logAppendsCard : Claim7 := { stood := { row := logAppendsRow, standIns := [], harness := (true, "e2e332404e9e482c49aafa45a3e6ba4d7b1802f87ae55e637dc7e8c68af5f4e2"), looks := false }, kinds := [], alts := [], laidByText := true, laidKinds := [.data], laidTests := true, laidLooks := .later }
def LogAppendsCardSaid : Prop := Claim7.holds Tryd.pinned (.plain (OpenSpec.ofChange logAppendsSpec)) logAppendsCard

/-- THE TIED CARD OF 'screelaw7.LogReads'. -/
def logReadsCard : Claim7 := { stood := { row := logReadsRow, standIns := [], harness := (true, "e2e332404e9e482c49aafa45a3e6ba4d7b1802f87ae55e637dc7e8c68af5f4e2"), looks := false }, kinds := [], alts := [], goes := true, laidByText := true, laidKinds := [.data], laidTests := true, laidLooks := .later }
def LogReadsCardSaid : Prop := Claim7.holds Tryd.pinned (.plain (OpenSpec.ofChange logReadsSpec)) logReadsCard

/-- THE TIED CARD OF 'screelaw7.LogLent'. -/
def logLentCard : Claim7 := { stood := { row := logLentRow, standIns := [], harness := (true, "e2e332404e9e482c49aafa45a3e6ba4d7b1802f87ae55e637dc7e8c68af5f4e2"), looks := false }, kinds := [], alts := [], goes := true, laidByText := true, laidKinds := [.data], laidTests := true, laidLooks := .later }
def LogLentCardSaid : Prop := Claim7.holds Tryd.pinned (.plain (OpenSpec.ofChange logLentSpec)) logLentCard

/-- THE SECOND FORM's CARD OF 'screelaw7.LogAppends'. -/
def logAppendsUptoCard : Claim7 := { stood := { row := logAppendsUptoRow, standIns := [], harness := (true, "e2e332404e9e482c49aafa45a3e6ba4d7b1802f87ae55e637dc7e8c68af5f4e2"), looks := false }, kinds := [], alts := [], laidByText := true, laidKinds := [.data], laidTests := true, laidLooks := .later }
def LogAppendsUptoCardSaid : Prop := Claim7.holds Tryd.pinned (.plain (OpenSpec.upto logAppendsSpec)) logAppendsUptoCard

/-- THE SECOND FORM's CARD OF 'screelaw7.LogReads'. -/
def logReadsUptoCard : Claim7 := { stood := { row := logReadsUptoRow, standIns := [], harness := (true, "e2e332404e9e482c49aafa45a3e6ba4d7b1802f87ae55e637dc7e8c68af5f4e2"), looks := false }, kinds := [], alts := [], goes := true, laidByText := true, laidKinds := [.data], laidTests := true, laidLooks := .later }
def LogReadsUptoCardSaid : Prop := Claim7.holds Tryd.pinned (.plain (OpenSpec.upto logReadsSpec)) logReadsUptoCard

/-- THE SECOND FORM's CARD OF 'screelaw7.LogLent'. -/
def logLentUptoCard : Claim7 := { stood := { row := logLentUptoRow, standIns := [], harness := (true, "e2e332404e9e482c49aafa45a3e6ba4d7b1802f87ae55e637dc7e8c68af5f4e2"), looks := false }, kinds := [], alts := [], goes := true, laidByText := true, laidKinds := [.data], laidTests := true, laidLooks := .later }
def LogLentUptoCardSaid : Prop := Claim7.holds Tryd.pinned (.plain (OpenSpec.upto logLentSpec)) logLentUptoCard
end Rows
end Go.Proofs.YtakgakjkemphlaaDoor
