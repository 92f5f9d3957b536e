import Derived.Test.YtpefacgdkgediaaProg
import Derived.Test.YtpefacgdkgediaaUin
import Derived.WalkKit
import Derived.WalkSpells
import Derived.WalkLawsBesides
namespace Go.Proofs.Ytpefacgdkgediaa
namespace Cod
open Go.RowKit CMath Byt
set_option linter.unusedVariables false
set_option maxRecDepth 20000

set_option maxHeartbeats 1000000 in
theorem uintOf_any (a b : Option Addr) (ca cb n m' : Nat) (l : List Nat) (w : World) (ha : IsB w a l) (hb : IsB w b l) (hca : l.length ≤ ca) (hca2 : ca ≤ 9223372036854775807) (hn : n = l.length) (hm : m' = l.length) :
    Calls Try.prog 10 #[.slice a n ca, .slice b m' cb] w fun e w' => e = .returned (.bool true) ∧ w' = w := by
  have c1 := uint_any a ca n l w ha hca hca2 hn
  have c2 := refUint_any b cb m' l w hb (Nat.le_trans hca hca2) hm
  obtain ⟨m, k, f, hr⟩ : ∃ m k f, rd l 0 0 = (m, k, f) := ⟨_, _, _, rfl⟩
  rw [hr] at c1 c2
  clear hr ha hb
  have C1 : Hid (Calls Try.prog 18 #[.slice a n ca] w fun e w' => e = .returned (.tuple #[.int .u64 m, .int .i64 k, .int .i64 f]) ∧ w' = w) := c1
  have C2 : Hid (Calls Try.prog 19 #[.slice b m' cb] w fun e w' => e = .returned (.tuple #[.int .u64 m, .int .i64 k, .int .i64 f]) ∧ w' = w) := c2
  clear c1 c2 hca hca2 hn hm
  go_enter Try.func10, Try.ntmps10
  go_wp2_with (first | (go_at_call 18; refine C1.out.mono ?_; rintro e w' ⟨rfl, hw⟩; have hw2 := hw.symm; clear hw; subst hw2) | (go_at_call 19; refine C2.out.mono ?_; rintro e w' ⟨rfl, hw⟩; have hw2 := hw.symm; clear hw; subst hw2))
  go_ret
  exact ⟨by simp, rfl⟩

end Cod
end Go.Proofs.Ytpefacgdkgediaa
