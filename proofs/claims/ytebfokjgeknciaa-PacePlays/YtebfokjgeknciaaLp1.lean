import Derived.Test.YtebfokjgeknciaaProg
import Derived.Test.YtebfokjgeknciaaIRw
import Derived.Test.YtebfokjgeknciaaLiM
import Derived.WalkKit
import Derived.Deep.QuietTactic
import Derived.Laws.AppendOwnNone
namespace Go.Proofs.Ytebfokjgeknciaa
namespace Lin
open Go.RowKit Laws Irw
set_option linter.unusedVariables false
set_option maxRecDepth 100000


end Lin
end Go.Proofs.Ytebfokjgeknciaa
