import Derived.Test.YtffgngekhdceaaaDoorMw1
import Derived.Test.YtffgngekhdceaaaDoorMk3
namespace Go.Proofs.YtffgngekhdceaaaDoor
namespace Mnf
open Go.RowKit CMath Byt Cod Crw Irw Laws
theorem form_any (w : World) (a : Option Addr) (n cap : Nat) (recs : List (List Nat)) (hd : IsD w a recs) (hn : recs.length = n) (hmx : (n : Int) ≤ 9223372036854775807) :
    Calls Tryd.prog 4 #[.slice a n cap] w fun e w' => e = .returned (.bool true) ∧ Below w.heap.size w w' := form_walk known_any w a n cap recs hd hn hmx
end Mnf
end Go.Proofs.YtffgngekhdceaaaDoor
