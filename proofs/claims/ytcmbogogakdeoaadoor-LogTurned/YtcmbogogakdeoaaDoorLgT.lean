import Derived.Test.YtcmbogogakdeoaaDoorCBackM
namespace Go.Proofs.YtcmbogogakdeoaaDoor
namespace Lg
open CMath
set_option linter.unusedVariables false
set_option maxRecDepth 100000

/-- from x on, by eight steps a time: none of m states is a multiple of p -/
def runs (p : Nat) : Nat → Nat → Bool
  | 0, _ => true
  | m + 1, x => (steps 8 x % p != 0) && runs p m (steps 8 x)
def widths (hi : Nat) : Nat := 2 ^ (16 + (Nat.log2 hi + 1))
def tried (hi : Nat) : Bool := hi == 0 || runs (widths hi) 506 hi
theorem tried_0_0 : ((List.range 32).all fun y => tried (256 * (y + 0) + 0)) = true := by decide +kernel
theorem tried_0_1 : ((List.range 32).all fun y => tried (256 * (y + 32) + 0)) = true := by decide +kernel
theorem tried_0_2 : ((List.range 32).all fun y => tried (256 * (y + 64) + 0)) = true := by decide +kernel
theorem tried_0_3 : ((List.range 32).all fun y => tried (256 * (y + 96) + 0)) = true := by decide +kernel
theorem tried_3_0 : ((List.range 32).all fun y => tried (256 * (y + 0) + 3)) = true := by decide +kernel
theorem tried_3_1 : ((List.range 32).all fun y => tried (256 * (y + 32) + 3)) = true := by decide +kernel
theorem tried_3_2 : ((List.range 32).all fun y => tried (256 * (y + 64) + 3)) = true := by decide +kernel
theorem tried_3_3 : ((List.range 32).all fun y => tried (256 * (y + 96) + 3)) = true := by decide +kernel
theorem tried_7_0 : ((List.range 32).all fun y => tried (256 * (y + 0) + 7)) = true := by decide +kernel
theorem tried_7_1 : ((List.range 32).all fun y => tried (256 * (y + 32) + 7)) = true := by decide +kernel
theorem tried_7_2 : ((List.range 32).all fun y => tried (256 * (y + 64) + 7)) = true := by decide +kernel
theorem tried_7_3 : ((List.range 32).all fun y => tried (256 * (y + 96) + 7)) = true := by decide +kernel
/-- None of the states that a kind's turned bits come to is a multiple of its width. -/
theorem all_tried {y c : Nat} (hy : y < 128) (hc : c = 0 ∨ c = 3 ∨ c = 7) : tried (256 * y + c) = true := by
  have get : ∀ (k c : Nat), ((List.range 32).all fun z => tried (256 * (z + k) + c)) = true → k ≤ y → y < k + 32 → tried (256 * y + c) = true := fun k c h h1 h2 => by
    have := List.all_eq_true.1 h (y - k) (List.mem_range.2 (by omega))
    rw [Nat.sub_add_cancel h1] at this
    exact this
  rcases hc with rfl | rfl | rfl
  · rcases (show y < 32 ∨ (32 ≤ y ∧ y < 64) ∨ (64 ≤ y ∧ y < 96) ∨ (96 ≤ y ∧ y < 128) by omega) with h | h | h | h
    · exact get 0 0 tried_0_0 (by omega) (by omega)
    · exact get 32 0 tried_0_1 (by omega) (by omega)
    · exact get 64 0 tried_0_2 (by omega) (by omega)
    · exact get 96 0 tried_0_3 (by omega) (by omega)
  · rcases (show y < 32 ∨ (32 ≤ y ∧ y < 64) ∨ (64 ≤ y ∧ y < 96) ∨ (96 ≤ y ∧ y < 128) by omega) with h | h | h | h
    · exact get 0 3 tried_3_0 (by omega) (by omega)
    · exact get 32 3 tried_3_1 (by omega) (by omega)
    · exact get 64 3 tried_3_2 (by omega) (by omega)
    · exact get 96 3 tried_3_3 (by omega) (by omega)
  · rcases (show y < 32 ∨ (32 ≤ y ∧ y < 64) ∨ (64 ≤ y ∧ y < 96) ∨ (96 ≤ y ∧ y < 128) by omega) with h | h | h | h
    · exact get 0 7 tried_7_0 (by omega) (by omega)
    · exact get 32 7 tried_7_1 (by omega) (by omega)
    · exact get 64 7 tried_7_2 (by omega) (by omega)
    · exact get 96 7 tried_7_3 (by omega) (by omega)
theorem runs_at (p : Nat) : ∀ (m x : Nat), runs p m x = true → ∀ n, n < m → steps (8 * (n + 1)) x % p ≠ 0 := by
  intro m
  induction m with
  | zero => intro x _ n hn; omega
  | succ m ih =>
    intro x h n hn
    unfold runs at h
    rw [Bool.and_eq_true] at h
    cases n with
    | zero => simpa using h.1
    | succ n =>
      have := ih _ h.2 n (by omega)
      rw [← steps_add, show 8 + 8 * (n + 1) = 8 * (n + 1 + 1) by omega] at this
      exact this
end Lg
end Go.Proofs.YtcmbogogakdeoaaDoor
