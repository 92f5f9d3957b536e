/-
  DERIVED. GIVEN WITH THE SEED: THE CARDS: each row of YtpefacgdkgediabDoorRows.lean that lists a variable, with what it lists TIED to the program's text (the seventh form; the later family's looks); each row that meets fmt, with fmt's text TOLD by the authors' own Lean function (tested against real Go, not proved from fmt's source: count such statements apart). THE CARD IS WHAT COUNTS. Prove the row's statement (the work); the ties are given (YtpefacgdkgediabDoorTie.lean); close each card by the builder's one call (the guide's Derived/Test/ToyasCard.lean, 'card_holds'). Laid BY PROGRAM, IN A SANDBOX (cutbox-door.mjs). By AI agents, Wed Nov 11 2026. No macro, syntax, notation, axiom, sorry.
-/
import Derived.Test.YtpefacgdkgediabDoorRows
import GoSem.ClaimSeven
namespace Go.Proofs.YtpefacgdkgediabDoor
namespace Rows

/-- THE TIED CARD OF 'screelaw2.CodecDamage'. -/
def codecDamageCard : Claim7 := { stood := { row := codecDamageRow, standIns := [], harness := (true, "d7875704bc9c5a9b331661915234231fb2574da6a7ab73e6d9206270f0bb4bd4"), looks := false }, kinds := [], alts := [], laidByText := true, laidKinds := [.data], laidTests := true, laidLooks := .later }
def CodecDamageCardSaid : Prop := Claim7.holds Tryd.pinned (.plain (OpenSpec.ofChange codecDamageSpec)) codecDamageCard

/-- THE SECOND FORM's CARD OF 'screelaw2.CodecDamage'. -/
def codecDamageUptoCard : Claim7 := { stood := { row := codecDamageUptoRow, standIns := [], harness := (true, "d7875704bc9c5a9b331661915234231fb2574da6a7ab73e6d9206270f0bb4bd4"), looks := false }, kinds := [], alts := [], laidByText := true, laidKinds := [.data], laidTests := true, laidLooks := .later }
def CodecDamageUptoCardSaid : Prop := Claim7.holds Tryd.pinned (.plain (OpenSpec.upto codecDamageSpec)) codecDamageUptoCard
end Rows
end Go.Proofs.YtpefacgdkgediabDoor
