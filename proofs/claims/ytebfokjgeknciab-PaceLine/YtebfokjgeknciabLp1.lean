import Derived.Test.YtebfokjgeknciabProg
import Derived.Test.YtebfokjgeknciabIRw
import Derived.Test.YtebfokjgeknciabLiM
import Derived.WalkKit
import Derived.Deep.QuietTactic
import Derived.Laws.AppendOwnNone
namespace Go.Proofs.Ytebfokjgeknciab
namespace Lin
open Go.RowKit Laws Irw
set_option linter.unusedVariables false
set_option maxRecDepth 100000


end Lin
end Go.Proofs.Ytebfokjgeknciab
