import Derived.Test.YtcmbogogakdeoaaDoorLt2
import Derived.Test.YtcmbogogakdeoaaDoorOpenB
namespace Go.Proofs.YtcmbogogakdeoaaDoor
namespace Lgu
open Go.RowKit CMath Byt Cod Lg Lga Lgr Laws Crw Lgl Kwn
set_option linter.unusedVariables false
theorem u32_wf {x : Int} (h : (Lit.int .u32 x).wf = true) : 0 ≤ x ∧ x < 4294967296 := by
  have h1 : IntKind.u32.min = 0 := rfl
  have h2 : IntKind.u32.max = 4294967295 := rfl
  simp only [Lit.wf, Bool.and_eq_true, decide_eq_true_eq] at h
  omega
theorem walkI (a : Option Addr) (cap : Nat) (rs : List (List Nat)) (cc x : Int) (w : World) (hD : IsD w a rs) (hna : a = none → cap = 0) (hle : rs.length ≤ cap) (hmx : cap ≤ 9223372036854775807) (hcc : -9223372036854775808 ≤ cc ∧ cc ≤ 9223372036854775807) (hx : 0 ≤ x ∧ x < 4294967296) (ht : Tab w) :
    Calls Tryd.prog 4 #[.slice a rs.length cap, .int .i64 cc, .int .u32 x] w fun e w' => e = .returned (.bool true) ∧ Below w.heap.size w w' := by
  obtain ⟨n, rfl⟩ : ∃ n : Nat, x = (n : Int) := ⟨x.toNat, by omega⟩
  exact walk a cap rs cc n w hD hna hle hmx hcc (by omega) ht
end Lgu
end Go.Proofs.YtcmbogogakdeoaaDoor
