import Derived.Test.YtpnomeggdhcbaaaGreatDoorProg
import Derived.Test.YtpnomeggdhcbaaaGreatDoorIRw
import Derived.Test.YtpnomeggdhcbaaaGreatDoorLiM
import Derived.WalkKit
import Derived.Deep.QuietTactic
import Derived.Laws.AppendOwnNone
namespace Go.Proofs.YtpnomeggdhcbaaaGreatDoor
namespace Lin
open Go.RowKit Laws Irw
set_option linter.unusedVariables false
set_option maxRecDepth 100000


end Lin
end Go.Proofs.YtpnomeggdhcbaaaGreatDoor
