import Derived.Test.YtkknpcpioodhaaaGreatDoorProg
import Derived.Test.YtkknpcpioodhaaaGreatDoorEnt
import Derived.WalkKit
import Derived.ProofKit
import Derived.OpenShut
import Derived.Lib.SmallJoins
import Derived.Deep.Slices
namespace Go.Proofs.YtkknpcpioodhaaaGreatDoor
namespace Opn
open Go.ChangeShapes Go.WideShapes Go.ChangeAt Go.RowKit Go.Joins Ent
set_option linter.unusedVariables false

theorem own : ownKnob Tryz.prog.godebug = none := by kernel_rfl
theorem laidOut : laidOutB Tryz.prog = true := by kernel_rfl
theorem cellsE : Tryz.prog.cellsOf 49 = 4 := by kernel_rfl
theorem cellsW : Tryz.prog.cellsOf 56 = 3 := by kernel_rfl

section
variable {H : Type} {enc : TypeId × Value → H} {w : World} {base : Nat} {spare : Nat → Bool} {held : Bool} {r : Reach} {b0 : Nat}

set_option maxRecDepth 100000 in
theorem entry {v : Value} {d : DataW H} {p : List MemPlace} (hv : Value.okWide Tryz.prog w r b0 49 v) (h : DataW.Trod enc Tryz.prog w base spare held 49 v d p) :
    ∃ (k : ByteArray) (s : Int) (de : Bool) (va : ByteArray), v = entV k s de va ∧ k.size ≤ maxLen ∧ va.size ≤ maxLen ∧ (Lit.int .u64 s).wf = true := by
  obtain ⟨c0, c1, c2, c3, y0, y1, y2, y3, n, rfl, _, _, e0, e1, e2, e3⟩ := open_agg4 Tryz.underlying49 (by kernel_rfl) cellsE hv h
  obtain ⟨k, h0, _, hk⟩ := DataW.trod_string Tryz.underlying9 e0
  obtain ⟨s, h1, _, hs⟩ := DataW.trod_int Tryz.underlying47 e1
  obtain ⟨de, h2, _⟩ := DataW.trod_bool Tryz.underlying4 e2
  obtain ⟨va, h3, _, hva⟩ := DataW.trod_string Tryz.underlying9 e3
  simp at h0 h1 h2 h3
  subst h0 h1 h2 h3
  exact ⟨k, s, de, va, rfl, hk, hva, hs⟩
end
end Opn
end Go.Proofs.YtkknpcpioodhaaaGreatDoor
