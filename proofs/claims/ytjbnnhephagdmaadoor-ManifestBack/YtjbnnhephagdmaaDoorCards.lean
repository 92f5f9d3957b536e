/-
  DERIVED. GIVEN WITH THE SEED: THE CARDS: each row of YtjbnnhephagdmaaDoorRows.lean that lists a variable, with what it lists TIED to the program's text (the seventh form; the later family's looks); each row that meets fmt, with fmt's text TOLD by the authors' own Lean function (tested against real Go, not proved from fmt's source: count such statements apart). THE CARD IS WHAT COUNTS. Prove the row's statement (the work); the ties are given (YtjbnnhephagdmaaDoorTie.lean); close each card by the builder's one call (the guide's Derived/Test/ToyasCard.lean, 'card_holds'). Laid BY PROGRAM, IN A SANDBOX (cutbox-door.mjs). By AI agents, Wed Nov 11 2026. No macro, syntax, notation, axiom, sorry.
-/
import Derived.Test.YtjbnnhephagdmaaDoorRows
import GoSem.ClaimSeven
namespace Go.Proofs.YtjbnnhephagdmaaDoor
namespace Rows

/-- THE TIED CARD OF 'screelaw14.ManifestBack'. -/
def manifestBackCard : Claim7 := { stood := { row := manifestBackRow, standIns := [], harness := (true, "17fe67900035ade178c3be14ca54c3d3809bd06ff3a6bd93b26f1eecc57b2bd4"), looks := false }, kinds := [], alts := [], laidByText := true, laidKinds := [.data, .data, .data], laidTests := true, laidLooks := .later }
def ManifestBackCardSaid : Prop := Claim7.holds Tryd.pinned (.plain (OpenSpec.ofChange manifestBackSpec)) manifestBackCard

/-- THE TIED CARD OF 'screelaw14.ManifestForm'. -/
def manifestFormCard : Claim7 := { stood := { row := manifestFormRow, standIns := [], harness := (true, "17fe67900035ade178c3be14ca54c3d3809bd06ff3a6bd93b26f1eecc57b2bd4"), looks := false }, kinds := [], alts := [], laidByText := true, laidKinds := [.data, .data, .data], laidTests := true, laidLooks := .later }
def ManifestFormCardSaid : Prop := Claim7.holds Tryd.pinned (.plain (OpenSpec.ofChange manifestFormSpec)) manifestFormCard

/-- THE SECOND FORM's CARD OF 'screelaw14.ManifestBack'. -/
def manifestBackUptoCard : Claim7 := { stood := { row := manifestBackUptoRow, standIns := [], harness := (true, "17fe67900035ade178c3be14ca54c3d3809bd06ff3a6bd93b26f1eecc57b2bd4"), looks := false }, kinds := [], alts := [], laidByText := true, laidKinds := [.data, .data, .data], laidTests := true, laidLooks := .later }
def ManifestBackUptoCardSaid : Prop := Claim7.holds Tryd.pinned (.plain (OpenSpec.upto manifestBackSpec)) manifestBackUptoCard

/-- THE SECOND FORM's CARD OF 'screelaw14.ManifestForm'. -/
def manifestFormUptoCard : Claim7 := { stood := { row := manifestFormUptoRow, standIns := [], harness := (true, "17fe67900035ade178c3be14ca54c3d3809bd06ff3a6bd93b26f1eecc57b2bd4"), looks := false }, kinds := [], alts := [], laidByText := true, laidKinds := [.data, .data, .data], laidTests := true, laidLooks := .later }
def ManifestFormUptoCardSaid : Prop := Claim7.holds Tryd.pinned (.plain (OpenSpec.upto manifestFormSpec)) manifestFormUptoCard
end Rows
end Go.Proofs.YtjbnnhephagdmaaDoor
