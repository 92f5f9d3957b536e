import Derived.Test.YtebfokjgeknciabGreatDoorPc1
import Derived.Shelf.Lay
import Derived.Deep.RegionWith
namespace Go.Proofs.YtebfokjgeknciabGreatDoor
namespace Pcm
open Go.RowKit Go.Shelf Laws Irw
set_option linter.unusedVariables false
set_option maxRecDepth 20000


theorem hid1 {p : Prop} (h : p) : Hid p := h
theorem radd_hi {a b : Int} (h1 : 0 < b) (h2 : 9223372036854775807 - b < a) : sadd a b = 9223372036854775807 := by
  unfold sadd sat; split <;> (try split) <;> omega
theorem radd_lo {a b : Int} (h1 : b < 0) (h2 : a < -9223372036854775808 - b) : sadd a b = -9223372036854775808 := by
  unfold sadd sat; split <;> (try split) <;> omega
set_option maxHeartbeats 1000000 in
theorem radd_any (a b : Int) (ha : R64 a) (hb : R64 b) (w : World) :
    Calls Tryz.prog 6 #[.int .i64 a, .int .i64 b] w fun e w' => e = .returned (.int .i64 (sadd a b)) ∧ w' = w := by
  unfold R64 at ha hb
  by_cases h1 : 0 < b
  · by_cases h2 : 9223372036854775807 - b < a
    · rw [radd_hi h1 h2]
      go_enter Tryz.func6, Tryz.ntmps6
      go_wp2
      go_ret
      exact ⟨rfl, rfl⟩
    · have HE : Hid (sadd a b = a + b) := sat_in (by unfold R64; omega)
      have h3 : ¬ b < 0 := by omega
      go_enter Tryz.func6, Tryz.ntmps6
      go_wp2
      go_ret
      exact ⟨ret_int HE.out.symm, rfl⟩
  · by_cases h3 : b < 0
    · by_cases h2 : a < -9223372036854775808 - b
      · rw [radd_lo h3 h2]
        go_enter Tryz.func6, Tryz.ntmps6
        go_wp2
        go_ret
        exact ⟨rfl, rfl⟩
      · have HE : Hid (sadd a b = a + b) := sat_in (by unfold R64; omega)
        go_enter Tryz.func6, Tryz.ntmps6
        go_wp2
        go_ret
        exact ⟨ret_int HE.out.symm, rfl⟩
    · have HE : Hid (sadd a b = a + b) := sat_in (by unfold R64; omega)
      go_enter Tryz.func6, Tryz.ntmps6
      go_wp2
      go_ret
      exact ⟨ret_int HE.out.symm, rfl⟩

theorem above_any (a : Int) (w : World) : Calls Tryz.prog 24 #[.int .i64 a] w fun e w' => e = .returned (.int .i64 (max a 0)) ∧ w' = w := by
  go_enter Tryz.func24, Tryz.ntmps24
  go_wp2
  go_ret
  exact ⟨rfl, rfl⟩

theorem abs_mul_neg {a b : Int} (h : decide (a < 0) ≠ decide (b < 0)) : a * b = -((a.natAbs * b.natAbs : Nat) : Int) := by
  by_cases ha : a < 0
  · have hb : ¬ b < 0 := by intro hb; simp [ha, hb] at h
    have e1 : (a.natAbs : Int) = -a := by omega
    have e2 : (b.natAbs : Int) = b := by omega
    rw [Int.natCast_mul, e1, e2, Int.neg_mul, Int.neg_neg]
  · have hb : b < 0 := by by_cases hb : b < 0; exact hb; simp [ha, hb] at h
    have e1 : (a.natAbs : Int) = a := by omega
    have e2 : (b.natAbs : Int) = -b := by omega
    rw [Int.natCast_mul, e1, e2, Int.mul_neg, Int.neg_neg]
theorem abs_mul_pos {a b : Int} (h : decide (a < 0) = decide (b < 0)) : a * b = ((a.natAbs * b.natAbs : Nat) : Int) := by
  by_cases ha : a < 0
  · have hb : b < 0 := by by_cases hb : b < 0; exact hb; simp [ha, hb] at h
    have e1 : (a.natAbs : Int) = -a := by omega
    have e2 : (b.natAbs : Int) = -b := by omega
    rw [Int.natCast_mul, e1, e2, Int.neg_mul, Int.mul_neg, Int.neg_neg]
  · have hb : ¬ b < 0 := by intro hb; simp [ha, hb] at h
    have e1 : (a.natAbs : Int) = a := by omega
    have e2 : (b.natAbs : Int) = b := by omega
    rw [Int.natCast_mul, e1, e2]
theorem smul_neg {a b : Int} (h : decide (a < 0) ≠ decide (b < 0)) {p : Nat} (hp : a.natAbs * b.natAbs = p) : smul a b = if (p : Int) < 9223372036854775808 then -(p : Int) else -9223372036854775808 := by
  unfold smul
  rw [abs_mul_neg h, hp]
  unfold sat
  split <;> (try split) <;> (try split) <;> omega
theorem smul_pos {a b : Int} (h : decide (a < 0) = decide (b < 0)) {p : Nat} (hp : a.natAbs * b.natAbs = p) : smul a b = if (p : Int) < 9223372036854775808 then (p : Int) else 9223372036854775807 := by
  unfold smul
  rw [abs_mul_pos h, hp]
  unfold sat
  split <;> (try split) <;> (try split) <;> omega
end Pcm
end Go.Proofs.YtebfokjgeknciabGreatDoor
