import Derived.Test.YtanpbknjnpmmnaaMt6
import Derived.Test.YtanpbknjnpmmnaaMt7
namespace Go.Proofs.Ytanpbknjnpmmnaa
namespace Mnf
open Go.RowKit CMath Byt Cod Crw Irw Laws
set_option linter.unusedVariables false
set_option linter.unusedSimpArgs false
set_option maxRecDepth 20000
theorem record_any (a : Option Addr) (cap n : Nat) (l : List Nat) (w : World) (h : IsB w a l) (hn : l.length = n) (hc : n ≤ cap) (hm : cap ≤ 9223372036854775807) :
    Calls Try.prog 15 #[.slice a n cap] w fun e w' => RcIs (recA l) w e w' := by
  cases l with
  | nil => exact record_no a cap n [] w h hn (by omega) (.inl rfl)
  | cons x r =>
    unfold recA
    by_cases hx : x ≤ 1
    · simp only [hx, if_true]
      by_cases h1 : cap = 1
      · exact record_1 a cap n x r w h hn hc hm hx h1
      · exact record_2 a cap n x r w h hn hc hm hx h1
    · simp only [hx, if_false]
      exact record_no a cap n (x :: r) w h hn (by omega) (.inr ⟨x, r, rfl, by omega⟩)
end Mnf
end Go.Proofs.Ytanpbknjnpmmnaa
