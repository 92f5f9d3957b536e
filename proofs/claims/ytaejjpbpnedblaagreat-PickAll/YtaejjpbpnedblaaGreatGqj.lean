import Derived.Test.YtaejjpbpnedblaaGreatFu
import Derived.Test.YtaejjpbpnedblaaGreatXp
import Derived.Test.YtaejjpbpnedblaaGreatFm
import Derived.Test.YtaejjpbpnedblaaGreatFo
import Derived.WalkKit
import Derived.ProofKit
import Derived.OpenShut
import Derived.ShutString
import Derived.SizedLaws
import Derived.Deep.Slices
import Derived.Deep.Strs
import Derived.Lib.SmallJoins
namespace Go.Proofs.YtaejjpbpnedblaaGreat
namespace Opn
open Go.ChangeShapes Go.WideShapes Go.ChangeAt Go.RowKit Go.Joins Go.Deep Crw Irw
open Vr
set_option linter.unusedVariables false
set_option linter.unusedSimpArgs false
set_option maxRecDepth 100000
section
variable {H : Type} {enc : TypeId × Value → H} {w : World} {base : Nat} {spare : Nat → Bool} {held : Bool} {r : Reach} {b0 : Nat}
/-- An argument of locks. -/
theorem nums2 {v : Value} {d : DataW H} {p : List MemPlace} (hv : Value.okWide Tryz.prog w r b0 26 v) (h : DataW.Trod enc Tryz.prog w base spare held 26 v d p) (hw : Wt 26 d) :
    ∃ (a : Option Addr) (cap : Nat) (l : List Int), v = .slice a l.length cap ∧ Ls kU w (a, l.length, cap) l ∧ l.length ≤ 17592186043904 ∧ XsOk l := by
  obtain ⟨a0, len, cap0, rfl⟩ := okWide_slice Tryz.underlying26 hv
  obtain ⟨fuel, hf⟩ := h
  obtain ⟨a, cap, l, g, k1, k2, k3, k5, k6⟩ := listW kU (t := 26) Tryz.underlying26 cU (fun y => ∃ m : Nat, y = (m : Int) ∧ m < Vr.U64) el_u hf hw
  simp [Value.cells] at g
  obtain ⟨rfl, rfl, rfl⟩ := g
  rw [show Tryz.prog.bytesOf kU.ty = 8 from bU] at k6
  have hz : reachBytes ≤ 140737488351232 := by unfold reachBytes; decide
  exact ⟨a0, cap0, l, rfl, ⟨k1, rfl, k2, k3, .inl rfl⟩, by omega, k5⟩
end
end Opn
end Go.Proofs.YtaejjpbpnedblaaGreat
