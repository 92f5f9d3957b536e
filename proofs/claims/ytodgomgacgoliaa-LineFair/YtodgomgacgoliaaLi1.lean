import Derived.Test.YtodgomgacgoliaaProg
import Derived.Test.YtodgomgacgoliaaIRw
import Derived.Test.YtodgomgacgoliaaLiM
import Derived.WalkKit
import Derived.Deep.QuietTactic
import Derived.Laws.AppendOwnNone
namespace Go.Proofs.Ytodgomgacgoliaa
namespace Lin
open Go.RowKit Laws Irw
set_option linter.unusedVariables false
set_option maxRecDepth 100000


set_option maxHeartbeats 1600000 in
theorem place_any (a : Option Addr) (c n : Nat) (l : List Int) (x : Int) (w : World) (ha : IsI w a l) (hlen : l.length ≤ 9223372036854775807) (hn : n = l.length) :
    Calls Try.prog 27 #[.slice a n c, .int .i64 x] w fun e w' => e = .returned (.int .i64 (plc l x)) ∧ w' = w := by
  subst hn
  have HA : Hid (IsI w a l) := ha
  clear ha
  go_enter Try.func27, Try.ntmps27
  go_wp2
  go_loopw [5] (fun i wr => ∃ k : Nat, k ≤ l.length ∧ i = .int .i64 k ∧ wr = w ∧ Hid (∀ j, j < k → l.getD j 0 ≠ x)) (fun i _ => l.length - (intOf i).toNat)
  case atStart => exact ⟨0, Nat.zero_le _, rfl, rfl, fun j hj => by omega⟩
  case round =>
    obtain ⟨k, hk, rfl, hwr, HN⟩ := hrel
    have hw2 := hwr.symm
    clear hwr
    subst hw2
    by_cases hlt : k < l.length
    · obtain ⟨b, o, rfl, hr⟩ := HA.out.at_ (by omega)
      have c0 := hr.cell hlt
      have q1 : (k : Int) < (l.length : Int) := by omega
      have HX : Hid (l.getD k 0 = l.getD k 0) := rfl
      generalize hy : l.getD k 0 = y at c0
      by_cases e : y = x
      · have HP : Hid (plc l x = k) := plc_hit hlt (hy.trans e) HN.out
        clear hy
        go_wp2
        go_ret
        exact ⟨by rw [HP.out]; rfl, rfl⟩
      · have HN' : Hid (∀ j, j < k + 1 → l.getD j 0 ≠ x) := fun j hj => by
          by_cases ej : j = k
          · rw [ej, hy]; exact e
          · exact HN.out j (by omega)
        clear hy
        go_wp2
        go_roundw
        case rel => exact ⟨k + 1, by omega, by go_num, by first | trivial | rfl, HN'⟩
        case measure => simp [intOf]; omega
    · have HP : Hid (plc l x = -1) := plc_miss fun j hj => HN.out j (by omega)
      go_wp2
      go_ret
      exact ⟨by rw [HP.out]; rfl, rfl⟩

end Lin
end Go.Proofs.Ytodgomgacgoliaa
