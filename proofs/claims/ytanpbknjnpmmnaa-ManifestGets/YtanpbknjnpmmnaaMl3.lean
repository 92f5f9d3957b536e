import Derived.Test.YtanpbknjnpmmnaaMl2
import Derived.Deep.QuietTactic
import Derived.BigQuiet
namespace Go.Proofs.Ytanpbknjnpmmnaa
namespace Mnf
open Go.RowKit CMath Byt Cod Crw Irw Laws
set_option linter.unusedVariables false
set_option linter.unusedSimpArgs false
set_option maxRecDepth 20000
theorem bl_go {w1 X w2 : World} (h : Below w1.heap.size w1 X) (hb : Below X.heap.size X w2) : Below w1.heap.size w1 w2 := h.trans (hb.mono h.size)
/-- at most 400,000 parts, or nothing is said -/
theorem fewer_any (w : World) (a : Option Addr) (cap n : Nat) (l : List (List Nat)) (hn : l.length = n) (hmx : (n : Int) ≤ 9223372036854775807) (hw : IsD w a l) :
    Calls Try.prog 4 #[.slice a n cap] w fun r w' => ∃ b : Bool, r = .returned (.bool b) ∧ Below w.heap.size w w' ∧ (b = true → (l.map bulkD).sum ≤ 400000) := by
  have HW : Hid (IsD w a l ∧ l.length = n) := ⟨hw, hn⟩
  clear hw hn
  go_enter Try.func4, Try.ntmps4
  go_upto_region 3 with (first
    | (go_at_call 11; refine (many_any _).mono ?_; rintro e w1 ⟨rfl, hc1, hb1⟩; have HM : Hid (Ct w.heap.size w1 400000 ∧ Below w.heap.size w w1) := ⟨hc1, hb1⟩; clear hc1 hb1)
    | (go_at_call 12; refine (chunks_c w.heap.size w _ 400000 a cap n l HW.out.2 hmx HM.out.1 (Nat.le_refl _) HM.out.2 HW.out.1).mono ?_; rintro e w2 ⟨⟨v, rfl⟩, z, hc2, hz2, hb2⟩; have HZ : Hid (Ct w.heap.size w2 z ∧ (0 ≤ z → 0 ≤ (400000 : Int) ∧ z = 400000 - (l.map bulkD).sum) ∧ Below w.heap.size w w2) := ⟨hc2, hz2, hb2⟩; clear hc2 hz2 hb2))
  obtain ⟨b, hb⟩ : ∃ b, decide (0 ≤ z) = b := ⟨_, rfl⟩
  go_wp2_with (go_at_call 13; refine (ok_x w.heap.size _ z b HZ.out.1.2.1 hb).mono ?_; rintro e w3 ⟨rfl, hw3⟩; rw [hw3]; clear hw3)
  go_ret
  refine ⟨b, rfl, HZ.out.2.2, fun h => ?_⟩
  rw [h] at hb
  have h0 := of_decide_eq_true hb
  have := HZ.out.2.1 h0
  omega
end Mnf
end Go.Proofs.Ytanpbknjnpmmnaa
