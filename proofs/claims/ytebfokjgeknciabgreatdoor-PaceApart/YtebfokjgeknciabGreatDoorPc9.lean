import Derived.Test.YtebfokjgeknciabGreatDoorPc7
import Derived.Test.YtebfokjgeknciabGreatDoorPc6
namespace Go.Proofs.YtebfokjgeknciabGreatDoor
namespace Pcm
open Go.RowKit Laws Irw
set_option linter.unusedVariables false
set_option linter.unusedSimpArgs false
set_option maxRecDepth 20000

theorem plsum_r {c : Cf} : R64 (plsum c) := by
  unfold plsum
  cases (c 8).toNat with
  | zero => exact (show R64 0 by unfold R64; omega)
  | succ n => exact sadd_r _ _
theorem pd_r (c : Cf) (x : Int) : R64 (pd c x) := by
  have h1 := ssum_r [x, c 22, smul (c 0 - 1) 17408]
  have h2 : R64 (pdebt c) := sadd_r _ _
  unfold pd
  unfold R64 at *
  omega

end Pcm
end Go.Proofs.YtebfokjgeknciabGreatDoor
