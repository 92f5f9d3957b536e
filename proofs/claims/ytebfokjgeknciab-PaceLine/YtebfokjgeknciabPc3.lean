import Derived.Test.YtebfokjgeknciabPc2
namespace Go.Proofs.Ytebfokjgeknciab
namespace Pcm
open Go.RowKit Laws Irw
set_option linter.unusedVariables false
set_option linter.unusedSimpArgs false
set_option maxRecDepth 20000

set_option maxHeartbeats 2000000 in
theorem memCap_any (c : Cf) (hc : RC c) (w : World) :
    Calls Try.prog 29 #[.agg (figA c)] w fun e w' => e = .returned (.int .i64 (pmem c)) ∧ Below w.heap.size w w' := by
  show Calls Try.prog 29 #[.agg #[.int .i64 (c 0), .int .i64 (c 2), .int .i64 (c 3), .int .i64 (c 4), .int .i64 (c 8), .int .i64 (c 9), .int .i64 (c 10), .int .i64 (c 11), .int .i64 (c 12), .int .i64 (c 16), .int .i64 (c 17), .int .i64 (c 19), .int .i64 (c 21), .int .i64 (c 22), .int .i64 (c 23), .int .i64 (c 26)]] w fun e w' => e = .returned (.int .i64 (pmem c)) ∧ Below w.heap.size w w'
  have HC := hid hc
  clear hc
  go_enter Try.func29, Try.ntmps29
  go_wp2_with (go_at_call 22; refine (plus_any (wrap64 (c 3 - 1)) (max (c 21) 17408) (wrap_r _) (by have := HC.out 21; unfold R64 at *; omega) _).mono ?_; rintro e w' ⟨rfl, hw9⟩; have hw8 := hw9.symm; clear hw9; subst hw8)
  go_ret
  exact ⟨rfl, (Below.refl _ _).alloc (Nat.le_refl _) _⟩

end Pcm
end Go.Proofs.Ytebfokjgeknciab
