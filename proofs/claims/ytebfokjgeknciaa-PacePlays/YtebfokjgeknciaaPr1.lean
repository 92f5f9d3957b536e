import Derived.Test.YtebfokjgeknciaaPc1
import Derived.Shelf.Bits.Mul64
import Derived.Shelf.Lay
import Derived.Deep.RegionWith
namespace Go.Proofs.Ytebfokjgeknciaa
namespace Pcm
open Go.RowKit Go.Shelf Laws Irw
set_option linter.unusedVariables false
set_option maxRecDepth 20000

shelf_lay Lays.n264 Nm 264 at Try as Try.mulA

theorem hid1 {p : Prop} (h : p) : Hid p := h
theorem radd_hi {a b : Int} (h1 : 0 < b) (h2 : 9223372036854775807 - b < a) : sadd a b = 9223372036854775807 := by
  unfold sadd sat; split <;> (try split) <;> omega
theorem radd_lo {a b : Int} (h1 : b < 0) (h2 : a < -9223372036854775808 - b) : sadd a b = -9223372036854775808 := by
  unfold sadd sat; split <;> (try split) <;> omega
set_option maxHeartbeats 1000000 in
theorem radd_any (a b : Int) (ha : R64 a) (hb : R64 b) (w : World) :
    Calls Try.prog 13 #[.int .i64 a, .int .i64 b] w fun e w' => e = .returned (.int .i64 (sadd a b)) ∧ w' = w := by
  unfold R64 at ha hb
  by_cases h1 : 0 < b
  · by_cases h2 : 9223372036854775807 - b < a
    · rw [radd_hi h1 h2]
      go_enter Try.func13, Try.ntmps13
      go_wp2
      go_ret
      exact ⟨rfl, rfl⟩
    · have HE : Hid (sadd a b = a + b) := sat_in (by unfold R64; omega)
      have h3 : ¬ b < 0 := by omega
      go_enter Try.func13, Try.ntmps13
      go_wp2
      go_ret
      exact ⟨ret_int HE.out.symm, rfl⟩
  · by_cases h3 : b < 0
    · by_cases h2 : a < -9223372036854775808 - b
      · rw [radd_lo h3 h2]
        go_enter Try.func13, Try.ntmps13
        go_wp2
        go_ret
        exact ⟨rfl, rfl⟩
      · have HE : Hid (sadd a b = a + b) := sat_in (by unfold R64; omega)
        go_enter Try.func13, Try.ntmps13
        go_wp2
        go_ret
        exact ⟨ret_int HE.out.symm, rfl⟩
    · have HE : Hid (sadd a b = a + b) := sat_in (by unfold R64; omega)
      go_enter Try.func13, Try.ntmps13
      go_wp2
      go_ret
      exact ⟨ret_int HE.out.symm, rfl⟩

set_option maxHeartbeats 1000000 in
theorem size_any (a : Int) (ha : R64 a) (w : World) :
    Calls Try.prog 50 #[.int .i64 a] w fun e w' => e = .returned (.int .u64 (a.natAbs : Int)) ∧ w' = w := by
  unfold R64 at ha
  by_cases h : a < 0
  · go_enter Try.func50, Try.ntmps50
    go_wp2
    go_ret
    exact ⟨ret_int (by first | omega | (simp only [IntKind.wrap_u64, IntKind.wrap_i64]; omega)), rfl⟩
  · go_enter Try.func50, Try.ntmps50
    go_wp2
    go_ret
    exact ⟨ret_int (by first | omega | (simp only [IntKind.wrap_u64, IntKind.wrap_i64]; omega)), rfl⟩

theorem above_any (a : Int) (w : World) : Calls Try.prog 62 #[.int .i64 a] w fun e w' => e = .returned (.int .i64 (max a 0)) ∧ w' = w := by
  go_enter Try.func62, Try.ntmps62
  go_wp2
  go_ret
  exact ⟨rfl, rfl⟩

theorem mul64_any (x y : Nat) (hx : x < 18446744073709551616) (hy : y < 18446744073709551616) (w : World) :
    Calls Try.prog 49 #[.int .u64 x, .int .u64 y] w fun e w' => e = .returned (.tuple #[.int .u64 ((x * y / 18446744073709551616 : Nat) : Int), .int .u64 ((x * y % 18446744073709551616 : Nat) : Int)]) ∧ w' = w :=
  Any.bits_Mul64 Try.mulA x y hx hy w

theorem abs_mul_neg {a b : Int} (h : decide (a < 0) ≠ decide (b < 0)) : a * b = -((a.natAbs * b.natAbs : Nat) : Int) := by
  by_cases ha : a < 0
  · have hb : ¬ b < 0 := by intro hb; simp [ha, hb] at h
    have e1 : (a.natAbs : Int) = -a := by omega
    have e2 : (b.natAbs : Int) = b := by omega
    rw [Int.natCast_mul, e1, e2, Int.neg_mul, Int.neg_neg]
  · have hb : b < 0 := by by_cases hb : b < 0; exact hb; simp [ha, hb] at h
    have e1 : (a.natAbs : Int) = a := by omega
    have e2 : (b.natAbs : Int) = -b := by omega
    rw [Int.natCast_mul, e1, e2, Int.mul_neg, Int.neg_neg]
theorem abs_mul_pos {a b : Int} (h : decide (a < 0) = decide (b < 0)) : a * b = ((a.natAbs * b.natAbs : Nat) : Int) := by
  by_cases ha : a < 0
  · have hb : b < 0 := by by_cases hb : b < 0; exact hb; simp [ha, hb] at h
    have e1 : (a.natAbs : Int) = -a := by omega
    have e2 : (b.natAbs : Int) = -b := by omega
    rw [Int.natCast_mul, e1, e2, Int.neg_mul, Int.mul_neg, Int.neg_neg]
  · have hb : ¬ b < 0 := by intro hb; simp [ha, hb] at h
    have e1 : (a.natAbs : Int) = a := by omega
    have e2 : (b.natAbs : Int) = b := by omega
    rw [Int.natCast_mul, e1, e2]
theorem smul_neg {a b : Int} (h : decide (a < 0) ≠ decide (b < 0)) {p : Nat} (hp : a.natAbs * b.natAbs = p) : smul a b = if (p : Int) < 9223372036854775808 then -(p : Int) else -9223372036854775808 := by
  unfold smul
  rw [abs_mul_neg h, hp]
  unfold sat
  split <;> (try split) <;> (try split) <;> omega
theorem smul_pos {a b : Int} (h : decide (a < 0) = decide (b < 0)) {p : Nat} (hp : a.natAbs * b.natAbs = p) : smul a b = if (p : Int) < 9223372036854775808 then (p : Int) else 9223372036854775807 := by
  unfold smul
  rw [abs_mul_pos h, hp]
  unfold sat
  split <;> (try split) <;> (try split) <;> omega
theorem mulS (x y : Nat) (hx : x < 18446744073709551616) (hy : y < 18446744073709551616) (p : Nat) (hp : x * y = p) (h : p < 18446744073709551616) (w : World) :
    Calls Try.prog 49 #[.int .u64 x, .int .u64 y] w fun e w' => e = .returned (.tuple #[.int .u64 0, .int .u64 (p : Int)]) ∧ w' = w := by
  have := mul64_any x y hx hy w
  rw [hp, Nat.div_eq_of_lt h, Nat.mod_eq_of_lt h] at this
  exact this
theorem mulB (x y : Nat) (hx : x < 18446744073709551616) (hy : y < 18446744073709551616) (h : 18446744073709551616 ≤ x * y) (w : World) :
    Calls Try.prog 49 #[.int .u64 x, .int .u64 y] w fun e w' => (∃ hi lo : Int, e = .returned (.tuple #[.int .u64 hi, .int .u64 lo]) ∧ 0 < hi) ∧ w' = w := by
  refine (mul64_any x y hx hy w).mono ?_
  rintro e w' ⟨rfl, rfl⟩
  refine ⟨⟨_, _, rfl, ?_⟩, rfl⟩
  have := Nat.div_pos h (by omega)
  omega
set_option maxHeartbeats 2000000 in
theorem rmul_any (a b : Int) (ha : R64 a) (hb : R64 b) (w : World) :
    Calls Try.prog 15 #[.int .i64 a, .int .i64 b] w fun e w' => e = .returned (.int .i64 (smul a b)) ∧ w' = w := by
  have HA := size_any a ha
  have HB := size_any b hb
  obtain ⟨x, hx⟩ : ∃ x, a.natAbs = x := ⟨_, rfl⟩
  obtain ⟨y, hy⟩ : ∃ y, b.natAbs = y := ⟨_, rfl⟩
  have hxl : x < 18446744073709551616 := by unfold R64 at ha; omega
  have hyl : y < 18446744073709551616 := by unfold R64 at hb; omega
  have HN : Hid (∀ p, x * y = p → decide (a < 0) ≠ decide (b < 0) → smul a b = if (p : Int) < 9223372036854775808 then -(p : Int) else -9223372036854775808) := fun p hp h => smul_neg h (by rw [hx, hy]; exact hp)
  have HP : Hid (∀ p, x * y = p → decide (a < 0) = decide (b < 0) → smul a b = if (p : Int) < 9223372036854775808 then (p : Int) else 9223372036854775807) := fun p hp h => smul_pos h (by rw [hx, hy]; exact hp)
  rw [hx] at HA
  rw [hy] at HB
  clear hx hy ha hb
  generalize smul a b = R at *
  by_cases hbig : 18446744073709551616 ≤ x * y
  · have HM := mulB x y hxl hyl hbig
    have HBI : Hid (18446744073709551616 ≤ x * y) := hbig
    clear hbig
    by_cases hs : decide (a < 0) = decide (b < 0)
    · have HE : Hid (R = 9223372036854775807) := by have := HP.out _ rfl hs; rw [if_neg (by have := HBI.out; omega)] at this; exact hid1 this
      have hs' : (decide (a < 0) == decide (b < 0)) = true := by simp [hs]
      go_enter Try.func15, Try.ntmps15
      go_wp2_with (first | (go_at_call_of 50 (Value.int .i64 a); refine (HA _).mono ?_; rintro e w1 ⟨rfl, hw1⟩; have hw2 := hw1.symm; clear hw1; subst hw2) | (go_at_call_of 50 (Value.int .i64 b); refine (HB _).mono ?_; rintro e w1 ⟨rfl, hw1⟩; have hw2 := hw1.symm; clear hw1; subst hw2) | (go_at_call 49; refine (HM _).mono ?_; rintro e w1 ⟨⟨hi, lo, rfl, hpos⟩, hw1⟩; have hw2 := hw1.symm; clear hw1; subst hw2))
      go_ret
      exact ⟨ret_int HE.out.symm, rfl⟩
    · have HE : Hid (R = -9223372036854775808) := by have := HN.out _ rfl hs; rw [if_neg (by have := HBI.out; omega)] at this; exact hid1 this
      have hs' : (decide (a < 0) == decide (b < 0)) = false := by simpa using hs
      go_enter Try.func15, Try.ntmps15
      go_wp2_with (first | (go_at_call_of 50 (Value.int .i64 a); refine (HA _).mono ?_; rintro e w1 ⟨rfl, hw1⟩; have hw2 := hw1.symm; clear hw1; subst hw2) | (go_at_call_of 50 (Value.int .i64 b); refine (HB _).mono ?_; rintro e w1 ⟨rfl, hw1⟩; have hw2 := hw1.symm; clear hw1; subst hw2) | (go_at_call 49; refine (HM _).mono ?_; rintro e w1 ⟨⟨hi, lo, rfl, hpos⟩, hw1⟩; have hw2 := hw1.symm; clear hw1; subst hw2))
      go_ret
      exact ⟨ret_int HE.out.symm, rfl⟩
  · obtain ⟨p, hp⟩ : ∃ p, x * y = p := ⟨_, rfl⟩
    have HM := mulS x y hxl hyl p hp (by omega)
    have HN' := HN.out p hp
    have HP' := HP.out p hp
    obtain ⟨P, hP⟩ : ∃ P : Int, (p : Int) = P := ⟨_, rfl⟩
    have hp0 : 0 ≤ P := by omega
    have hpl : P < 18446744073709551616 := by omega
    rw [hP] at HN' HP'
    simp only [hP] at HM
    clear hp hbig HN HP hP
    by_cases hs : decide (a < 0) = decide (b < 0)
    · have hs' : (decide (a < 0) == decide (b < 0)) = true := by simp [hs]
      have HE := hid1 (HP' hs)
      clear HP' HN'
      by_cases hq : P < 9223372036854775808
      · rw [if_pos hq] at HE
        go_enter Try.func15, Try.ntmps15
        go_wp2_with (first | (go_at_call_of 50 (Value.int .i64 a); refine (HA _).mono ?_; rintro e w1 ⟨rfl, hw1⟩; have hw2 := hw1.symm; clear hw1; subst hw2) | (go_at_call_of 50 (Value.int .i64 b); refine (HB _).mono ?_; rintro e w1 ⟨rfl, hw1⟩; have hw2 := hw1.symm; clear hw1; subst hw2) | (go_at_call 49; refine (HM _).mono ?_; rintro e w1 ⟨rfl, hw1⟩; have hw2 := hw1.symm; clear hw1; subst hw2))
        go_ret
        exact ⟨ret_int (by first | exact HE.out.symm | (rw [HE.out]; simp only [IntKind.wrap_u64, IntKind.wrap_i64]; omega)), rfl⟩
      · rw [if_neg hq] at HE
        go_enter Try.func15, Try.ntmps15
        go_wp2_with (first | (go_at_call_of 50 (Value.int .i64 a); refine (HA _).mono ?_; rintro e w1 ⟨rfl, hw1⟩; have hw2 := hw1.symm; clear hw1; subst hw2) | (go_at_call_of 50 (Value.int .i64 b); refine (HB _).mono ?_; rintro e w1 ⟨rfl, hw1⟩; have hw2 := hw1.symm; clear hw1; subst hw2) | (go_at_call 49; refine (HM _).mono ?_; rintro e w1 ⟨rfl, hw1⟩; have hw2 := hw1.symm; clear hw1; subst hw2))
        go_ret
        exact ⟨ret_int HE.out.symm, rfl⟩
    · have hs' : (decide (a < 0) == decide (b < 0)) = false := by simpa using hs
      have HE := hid1 (HN' hs)
      clear HP' HN'
      by_cases hq : P < 9223372036854775808
      · rw [if_pos hq] at HE
        have hq1 : ¬ 9223372036854775808 < P := by omega
        have hq2 : ¬ P = 9223372036854775808 := by omega
        go_enter Try.func15, Try.ntmps15
        go_wp2_with (first | (go_at_call_of 50 (Value.int .i64 a); refine (HA _).mono ?_; rintro e w1 ⟨rfl, hw1⟩; have hw2 := hw1.symm; clear hw1; subst hw2) | (go_at_call_of 50 (Value.int .i64 b); refine (HB _).mono ?_; rintro e w1 ⟨rfl, hw1⟩; have hw2 := hw1.symm; clear hw1; subst hw2) | (go_at_call 49; refine (HM _).mono ?_; rintro e w1 ⟨rfl, hw1⟩; have hw2 := hw1.symm; clear hw1; subst hw2))
        go_ret
        exact ⟨ret_int (by first | exact HE.out.symm | (rw [HE.out]; simp only [IntKind.wrap_u64, IntKind.wrap_i64]; omega)), rfl⟩
      · rw [if_neg hq] at HE
        by_cases hq3 : P = 9223372036854775808
        · have hq1 : ¬ 9223372036854775808 < P := by omega
          go_enter Try.func15, Try.ntmps15
          go_wp2_with (first | (go_at_call_of 50 (Value.int .i64 a); refine (HA _).mono ?_; rintro e w1 ⟨rfl, hw1⟩; have hw2 := hw1.symm; clear hw1; subst hw2) | (go_at_call_of 50 (Value.int .i64 b); refine (HB _).mono ?_; rintro e w1 ⟨rfl, hw1⟩; have hw2 := hw1.symm; clear hw1; subst hw2) | (go_at_call 49; refine (HM _).mono ?_; rintro e w1 ⟨rfl, hw1⟩; have hw2 := hw1.symm; clear hw1; subst hw2))
          go_ret
          exact ⟨ret_int HE.out.symm, rfl⟩
        · have hq1 : 9223372036854775808 < P := by omega
          go_enter Try.func15, Try.ntmps15
          go_wp2_with (first | (go_at_call_of 50 (Value.int .i64 a); refine (HA _).mono ?_; rintro e w1 ⟨rfl, hw1⟩; have hw2 := hw1.symm; clear hw1; subst hw2) | (go_at_call_of 50 (Value.int .i64 b); refine (HB _).mono ?_; rintro e w1 ⟨rfl, hw1⟩; have hw2 := hw1.symm; clear hw1; subst hw2) | (go_at_call 49; refine (HM _).mono ?_; rintro e w1 ⟨rfl, hw1⟩; have hw2 := hw1.symm; clear hw1; subst hw2))
          go_ret
          exact ⟨ret_int HE.out.symm, rfl⟩

end Pcm
end Go.Proofs.Ytebfokjgeknciaa
