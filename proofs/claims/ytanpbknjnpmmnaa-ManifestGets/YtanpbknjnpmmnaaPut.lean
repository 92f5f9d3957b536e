import Derived.Test.YtanpbknjnpmmnaaProg
import Derived.Test.YtanpbknjnpmmnaaByt
import Derived.WalkKit
import Derived.WalkSpells
import Derived.WalkLawsBesides
namespace Go.Proofs.Ytanpbknjnpmmnaa
namespace Cod
open Go.RowKit CMath Byt
set_option linter.unusedVariables false
set_option maxRecDepth 20000

theorem info8 : (Try.prog.info? 5).map (fun i => (i.zero, i.size, i.bytes)) = some (some (.int .u8 0), 1, 1) := by kernel_rfl

theorem below_of {base : Nat} {w w1 w' : World} {row : Option Nat} (h : Below base w w1) (hg : w1.grownBy w' row) (hb : base ≤ w.heap.size) (hr : ∀ k, row = some k → base ≤ k) : Below base w w' :=
  h.grown hg (Nat.le_trans hb h.size) hr


theorem quo128 (m : Nat) : (m : Int) / 128 = ((m / 128 : Nat) : Int) := by omega
theorem shr7 (m : Nat) : (m : Int) / 2 ^ 7 = ((m / 128 : Nat) : Int) := by omega




end Cod
end Go.Proofs.Ytanpbknjnpmmnaa
