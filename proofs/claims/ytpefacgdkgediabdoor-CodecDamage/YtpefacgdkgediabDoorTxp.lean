import Derived.Test.YtpefacgdkgediabDoorProg
import Derived.Test.YtpefacgdkgediabDoorMea
import Derived.WalkKit
import Derived.WalkSpells
import Derived.WalkLawsBesides
namespace Go.Proofs.YtpefacgdkgediabDoor
namespace Cod
open Go.RowKit CMath Byt
set_option linter.unusedVariables false
set_option maxRecDepth 20000


end Cod
end Go.Proofs.YtpefacgdkgediabDoor
