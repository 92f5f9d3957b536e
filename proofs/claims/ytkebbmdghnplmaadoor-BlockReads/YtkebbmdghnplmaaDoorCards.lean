/-
  DERIVED. GIVEN WITH THE SEED: THE CARDS: each row of YtkebbmdghnplmaaDoorRows.lean that lists a variable, with what it lists TIED to the program's text (the seventh form; the later family's looks); each row that meets fmt, with fmt's text TOLD by the authors' own Lean function (tested against real Go, not proved from fmt's source: count such statements apart). THE CARD IS WHAT COUNTS. Prove the row's statement (the work); the ties are given (YtkebbmdghnplmaaDoorTie.lean); close each card by the builder's one call (the guide's Derived/Test/ToyasCard.lean, 'card_holds'). Laid BY PROGRAM, IN A SANDBOX (cutbox-door.mjs). By AI agents, Wed Nov 11 2026. No macro, syntax, notation, axiom, sorry.
-/
import Derived.Test.YtkebbmdghnplmaaDoorRows
import GoSem.ClaimSeven
namespace Go.Proofs.YtkebbmdghnplmaaDoor
namespace Rows

/-- THE TIED CARD OF 'screelaw9.BlockOpens'. -/
def blockOpensCard : Claim7 := { stood := { row := blockOpensRow, standIns := [], harness := (true, "ff097cf1ce1f7d66cb9ab037d6735d65df7dd1ced2ec3c59cd02f3fc5879dc19"), looks := false }, kinds := [], alts := [], laidByText := true, laidKinds := [.data], laidTests := true, laidLooks := .later }
def BlockOpensCardSaid : Prop := Claim7.holds Tryd.pinned (.plain (OpenSpec.ofChange blockOpensSpec)) blockOpensCard

/-- THE TIED CARD OF 'screelaw9.BlockReads'. -/
def blockReadsCard : Claim7 := { stood := { row := blockReadsRow, standIns := [], harness := (true, "ff097cf1ce1f7d66cb9ab037d6735d65df7dd1ced2ec3c59cd02f3fc5879dc19"), looks := false }, kinds := [], alts := [], laidByText := true, laidKinds := [.data], laidTests := true, laidLooks := .later }
def BlockReadsCardSaid : Prop := Claim7.holds Tryd.pinned (.plain (OpenSpec.ofChange blockReadsSpec)) blockReadsCard

/-- THE TIED CARD OF 'screelaw9.BlockTurns'. -/
def blockTurnsCard : Claim7 := { stood := { row := blockTurnsRow, standIns := [], harness := (true, "ff097cf1ce1f7d66cb9ab037d6735d65df7dd1ced2ec3c59cd02f3fc5879dc19"), looks := false }, kinds := [], alts := [], laidByText := true, laidKinds := [.data], laidTests := true, laidLooks := .later }
def BlockTurnsCardSaid : Prop := Claim7.holds Tryd.pinned (.plain (OpenSpec.ofChange blockTurnsSpec)) blockTurnsCard

/-- THE SECOND FORM's CARD OF 'screelaw9.BlockOpens'. -/
def blockOpensUptoCard : Claim7 := { stood := { row := blockOpensUptoRow, standIns := [], harness := (true, "ff097cf1ce1f7d66cb9ab037d6735d65df7dd1ced2ec3c59cd02f3fc5879dc19"), looks := false }, kinds := [], alts := [], laidByText := true, laidKinds := [.data], laidTests := true, laidLooks := .later }
def BlockOpensUptoCardSaid : Prop := Claim7.holds Tryd.pinned (.plain (OpenSpec.upto blockOpensSpec)) blockOpensUptoCard

/-- THE SECOND FORM's CARD OF 'screelaw9.BlockReads'. -/
def blockReadsUptoCard : Claim7 := { stood := { row := blockReadsUptoRow, standIns := [], harness := (true, "ff097cf1ce1f7d66cb9ab037d6735d65df7dd1ced2ec3c59cd02f3fc5879dc19"), looks := false }, kinds := [], alts := [], laidByText := true, laidKinds := [.data], laidTests := true, laidLooks := .later }
def BlockReadsUptoCardSaid : Prop := Claim7.holds Tryd.pinned (.plain (OpenSpec.upto blockReadsSpec)) blockReadsUptoCard

/-- THE SECOND FORM's CARD OF 'screelaw9.BlockTurns'. -/
def blockTurnsUptoCard : Claim7 := { stood := { row := blockTurnsUptoRow, standIns := [], harness := (true, "ff097cf1ce1f7d66cb9ab037d6735d65df7dd1ced2ec3c59cd02f3fc5879dc19"), looks := false }, kinds := [], alts := [], laidByText := true, laidKinds := [.data], laidTests := true, laidLooks := .later }
def BlockTurnsUptoCardSaid : Prop := Claim7.holds Tryd.pinned (.plain (OpenSpec.upto blockTurnsSpec)) blockTurnsUptoCard
end Rows
end Go.Proofs.YtkebbmdghnplmaaDoor
