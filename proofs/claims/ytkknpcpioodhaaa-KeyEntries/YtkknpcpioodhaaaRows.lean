/-
  No cell of these rows narrows 'for every input' (looked for: loops, veiled, ifaces, maps, wideKeys, modest, calm, conditions, laid).
  DERIVED. THE GIVEN ROWS OF THIS SEAT. 5 by the template 'for every input the law returns true; each argument reads behind the call as it read before'; 0 by the template 'total and deterministic' (their statements: YtkknpcpioodhaaaTotals.lean).
  GIVEN WITH THE SEED: the statements are not yours to turn. If you find one false, say at which input.
  Laid BY PROGRAM, IN A SANDBOX (cutbox-rows.mjs): the forced cells as the released guide's own fill.sh prints them over the translation d49a881c2429113d… (all of the seat's roots in one cut). By AI agents, Wed Nov 11 2026. No macro, syntax, notation, axiom, sorry.
-/
import Derived.Test.YtkknpcpioodhaaaChecked
import GoSem.Claim
import GoSem.ClaimJoined
import GoSem.ClaimMapViews
import Derived.JoinedTies
import Derived.KernelRfl
namespace Go.Proofs.Ytkknpcpioodhaaa
/- THE CELL 'sum', in the pinned program and in every row, IS THE sha256 OF THE DUMP (.gsa) THAT YtkknpcpioodhaaaProg.lean LOADS. Nothing in Lean hashes anything: it is a label: what it is worth is what the hold of that sum in a sandbox is worth. -/
noncomputable def Try.pinned : Pinned := { name := "ytkknpcpioodhaaa", sum := "d49a881c2429113d1ad384029e8ed6eac5763518d01b66999a936ed2e8d8c4b2", checked := Try.checked }
namespace Rows
def none {H : Type} : Left H := { results := [], args := [] }

/-- 'screelaw1.KeyChecks': WHATEVER THE INPUT: true; the input reads as it did. -/
def keyChecksSpec : ChangeSpec := { name := "keyChecks", fn := fun _ => fun
  | [d] => { results := [.lit (.bool true)], args := [d] }
  | _ => none }
def keyChecksRow : OpenClaim := { program := "ytkknpcpioodhaaa", sum := "d49a881c2429113d1ad384029e8ed6eac5763518d01b66999a936ed2e8d8c4b2", func := "scree/screelaw1.KeyChecks", spec := "keyChecks", apart := false }
def KeyChecksSaid : Prop := keyChecksRow.holds Try.pinned (OpenSpec.ofChange keyChecksSpec)

/-- ITS FALSE NEIGHBOUR: 'it returns false'. Refute it at one input. -/
def keyChecksWrong : ChangeSpec := { name := "keyChecks", fn := fun _ => fun
  | [d] => { results := [.lit (.bool false)], args := [d] }
  | _ => none }
def KeyChecksWrongFalsely : Prop := keyChecksRow.holds Try.pinned (OpenSpec.ofChange keyChecksWrong)

/-- 'screelaw1.KeyBatches': WHATEVER THE INPUT: true; the input reads as it did. -/
def keyBatchesSpec : ChangeSpec := { name := "keyBatches", fn := fun _ => fun
  | [d] => { results := [.lit (.bool true)], args := [d] }
  | _ => none }
def keyBatchesRow : OpenClaim := { program := "ytkknpcpioodhaaa", sum := "d49a881c2429113d1ad384029e8ed6eac5763518d01b66999a936ed2e8d8c4b2", func := "scree/screelaw1.KeyBatches", spec := "keyBatches", apart := false }
def KeyBatchesSaid : Prop := keyBatchesRow.holds Try.pinned (OpenSpec.ofChange keyBatchesSpec)

/-- ITS FALSE NEIGHBOUR: 'it returns false'. Refute it at one input. -/
def keyBatchesWrong : ChangeSpec := { name := "keyBatches", fn := fun _ => fun
  | [d] => { results := [.lit (.bool false)], args := [d] }
  | _ => none }
def KeyBatchesWrongFalsely : Prop := keyBatchesRow.holds Try.pinned (OpenSpec.ofChange keyBatchesWrong)

/-- 'screelaw1.KeyCompares': WHATEVER THE INPUT: true; the input reads as it did. -/
def keyComparesSpec : ChangeSpec := { name := "keyCompares", fn := fun _ => fun
  | [d1, d2] => { results := [.lit (.bool true)], args := [d1, d2] }
  | _ => none }
def keyComparesRow : OpenClaim := { program := "ytkknpcpioodhaaa", sum := "d49a881c2429113d1ad384029e8ed6eac5763518d01b66999a936ed2e8d8c4b2", func := "scree/screelaw1.KeyCompares", spec := "keyCompares", apart := false }
def KeyComparesSaid : Prop := keyComparesRow.holds Try.pinned (OpenSpec.ofChange keyComparesSpec)

/-- ITS FALSE NEIGHBOUR: 'it returns false'. Refute it at one input. -/
def keyComparesWrong : ChangeSpec := { name := "keyCompares", fn := fun _ => fun
  | [d1, d2] => { results := [.lit (.bool false)], args := [d1, d2] }
  | _ => none }
def KeyComparesWrongFalsely : Prop := keyComparesRow.holds Try.pinned (OpenSpec.ofChange keyComparesWrong)

/-- 'screelaw1.KeyWeighs': WHATEVER THE INPUT: true; the input reads as it did. -/
def keyWeighsSpec : ChangeSpec := { name := "keyWeighs", fn := fun _ => fun
  | [d1, d2] => { results := [.lit (.bool true)], args := [d1, d2] }
  | _ => none }
def keyWeighsRow : OpenClaim := { program := "ytkknpcpioodhaaa", sum := "d49a881c2429113d1ad384029e8ed6eac5763518d01b66999a936ed2e8d8c4b2", func := "scree/screelaw1.KeyWeighs", spec := "keyWeighs", apart := false }
def KeyWeighsSaid : Prop := keyWeighsRow.holds Try.pinned (OpenSpec.ofChange keyWeighsSpec)

/-- ITS FALSE NEIGHBOUR: 'it returns false'. Refute it at one input. -/
def keyWeighsWrong : ChangeSpec := { name := "keyWeighs", fn := fun _ => fun
  | [d1, d2] => { results := [.lit (.bool false)], args := [d1, d2] }
  | _ => none }
def KeyWeighsWrongFalsely : Prop := keyWeighsRow.holds Try.pinned (OpenSpec.ofChange keyWeighsWrong)

/-- 'screelaw1.KeyEntries': WHATEVER THE INPUT: true; the input reads as it did. -/
def keyEntriesSpec : ChangeSpec := { name := "keyEntries", fn := fun _ => fun
  | [d1, d2] => { results := [.lit (.bool true)], args := [d1, d2] }
  | _ => none }
def keyEntriesRow : OpenClaim := { program := "ytkknpcpioodhaaa", sum := "d49a881c2429113d1ad384029e8ed6eac5763518d01b66999a936ed2e8d8c4b2", func := "scree/screelaw1.KeyEntries", spec := "keyEntries", apart := false }
def KeyEntriesSaid : Prop := keyEntriesRow.holds Try.pinned (OpenSpec.ofChange keyEntriesSpec)

/-- ITS FALSE NEIGHBOUR: 'it returns false'. Refute it at one input. -/
def keyEntriesWrong : ChangeSpec := { name := "keyEntries", fn := fun _ => fun
  | [d1, d2] => { results := [.lit (.bool false)], args := [d1, d2] }
  | _ => none }
def KeyEntriesWrongFalsely : Prop := keyEntriesRow.holds Try.pinned (OpenSpec.ofChange keyEntriesWrong)

/- THE SECOND FORM. 'bulk': how many values and letters a reading holds, each counted each time it is reached (what is shared counts as often as it is met; a slice's spare places count too). A statement '..UptoSaid' is the law's where the arguments, and the package variables that the reading takes, are together of bulk at most 1048576: NARROWER than '..Said'. Prove '..Said' where nothing that the law and all that it calls make is longer than what came in: it says more and counts as full. Else prove '..UptoSaid'. A law counts once. -/
mutual
def uptoBulk {H : Type} : DataW H → Nat
  | .lit (.string bytes) => bytes.length + 1
  | .lit _ => 1
  | .nil => 1
  | .ptr d => uptoBulk d + 1
  | .slice elems spare => uptoBulkAll elems + uptoBulkAll spare + 1
  | .agg parts => uptoBulkAll parts + 1
  | .iface _ d => uptoBulk d + 1
  | .map entries => uptoBulkEntries entries + 1
  | .held _ => 1
def uptoBulkAll {H : Type} : List (DataW H) → Nat
  | [] => 0
  | d :: r => uptoBulk d + uptoBulkAll r
def uptoBulkEntries {H : Type} : List (Lit × DataW H) → Nat
  | [] => 0
  | x :: r => uptoBulkEntry x + uptoBulkEntries r
def uptoBulkEntry {H : Type} : Lit × DataW H → Nat
  | (.string bytes, d) => bytes.length + uptoBulk d + 1
  | (_, d) => uptoBulk d + 1
 end
def uptoSmall : (H : Type) → List (DataW H) → Bool := fun _ ds => decide (uptoBulkAll ds ≤ 1048576)
def OpenSpec.upto (s : _root_.Go.ChangeSpec) : _root_.Go.OpenSpec := { _root_.Go.OpenSpec.ofChange s with cond := some uptoSmall }

/-- 'screelaw1.KeyChecks', WHERE WHAT IT READS IS OF BULK AT MOST 1048576: true; the input reads as it did. -/
def keyChecksUptoRow : OpenClaim := { program := "ytkknpcpioodhaaa", sum := "d49a881c2429113d1ad384029e8ed6eac5763518d01b66999a936ed2e8d8c4b2", func := "scree/screelaw1.KeyChecks", spec := "keyChecks", apart := false, narrowed := true }
def KeyChecksUptoSaid : Prop := keyChecksUptoRow.holds Try.pinned (OpenSpec.upto keyChecksSpec)

/-- 'screelaw1.KeyBatches', WHERE WHAT IT READS IS OF BULK AT MOST 1048576: true; the input reads as it did. -/
def keyBatchesUptoRow : OpenClaim := { program := "ytkknpcpioodhaaa", sum := "d49a881c2429113d1ad384029e8ed6eac5763518d01b66999a936ed2e8d8c4b2", func := "scree/screelaw1.KeyBatches", spec := "keyBatches", apart := false, narrowed := true }
def KeyBatchesUptoSaid : Prop := keyBatchesUptoRow.holds Try.pinned (OpenSpec.upto keyBatchesSpec)

/-- 'screelaw1.KeyCompares', WHERE WHAT IT READS IS OF BULK AT MOST 1048576: true; the input reads as it did. -/
def keyComparesUptoRow : OpenClaim := { program := "ytkknpcpioodhaaa", sum := "d49a881c2429113d1ad384029e8ed6eac5763518d01b66999a936ed2e8d8c4b2", func := "scree/screelaw1.KeyCompares", spec := "keyCompares", apart := false, narrowed := true }
def KeyComparesUptoSaid : Prop := keyComparesUptoRow.holds Try.pinned (OpenSpec.upto keyComparesSpec)

/-- 'screelaw1.KeyWeighs', WHERE WHAT IT READS IS OF BULK AT MOST 1048576: true; the input reads as it did. -/
def keyWeighsUptoRow : OpenClaim := { program := "ytkknpcpioodhaaa", sum := "d49a881c2429113d1ad384029e8ed6eac5763518d01b66999a936ed2e8d8c4b2", func := "scree/screelaw1.KeyWeighs", spec := "keyWeighs", apart := false, narrowed := true }
def KeyWeighsUptoSaid : Prop := keyWeighsUptoRow.holds Try.pinned (OpenSpec.upto keyWeighsSpec)

/-- 'screelaw1.KeyEntries', WHERE WHAT IT READS IS OF BULK AT MOST 1048576: true; the input reads as it did. -/
def keyEntriesUptoRow : OpenClaim := { program := "ytkknpcpioodhaaa", sum := "d49a881c2429113d1ad384029e8ed6eac5763518d01b66999a936ed2e8d8c4b2", func := "scree/screelaw1.KeyEntries", spec := "keyEntries", apart := false, narrowed := true }
def KeyEntriesUptoSaid : Prop := keyEntriesUptoRow.holds Try.pinned (OpenSpec.upto keyEntriesSpec)

end Rows
end Go.Proofs.Ytkknpcpioodhaaa
