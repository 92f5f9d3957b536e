import Derived.Test.YtcmbogogakdeoaaDoorLgT
import Derived.Test.YtcmbogogakdeoaaDoorLgS
import Derived.Test.YtcmbogogakdeoaaDoorDamM
namespace Go.Proofs.YtcmbogogakdeoaaDoor
namespace Lg
open CMath
set_option linter.unusedVariables false
set_option maxRecDepth 100000

theorem split2 {k A A' B B' : Nat} (h : A < 2 ^ k) (h' : A' < 2 ^ k) : (A + 2 ^ k * B) ^^^ (A' + 2 ^ k * B') = (A ^^^ A') + 2 ^ k * (B ^^^ B') := by
  rw [split_xor _ _ _ h, split_xor _ _ _ h', split_xor _ _ _ (Nat.xor_lt_two_pow h h'), mul_xor]
  generalize 2 ^ k * B = X
  generalize 2 ^ k * B' = X'
  simp only [Nat.xor_assoc]
  congr 1
  rw [← Nat.xor_assoc, Nat.xor_comm X A', Nat.xor_assoc]
theorem crc_xor {x y : List Nat} {N : Nat} (hx : ∀ z ∈ x, z < 256) (hy : ∀ z ∈ y, z < 256) (h1 : x.length = N) (h2 : y.length = N) : crc x ^^^ crc y = steps (8 * N) (val x ^^^ val y) := by
  unfold crc
  rw [state_val _ hx, state_val _ hy, h1, h2, steps_xor, steps_xor, steps_xor]
  generalize steps (8 * N) (val x) = A
  generalize steps (8 * N) (val y) = B
  generalize steps (8 * N) 4294967295 = C
  generalize 4294967295 = D
  have e : ∀ a b c d : Nat, ((c ^^^ a) ^^^ d) ^^^ ((c ^^^ b) ^^^ d) = a ^^^ b := by
    intro a b c d
    apply Nat.eq_of_testBit_eq
    intro i
    simp only [Nat.testBit_xor]
    cases a.testBit i <;> cases b.testBit i <;> cases c.testBit i <;> cases d.testBit i <;> rfl
  exact e A B C D
theorem body_xor {X t t' : List Nat} {m : Nat} (hX : X.length = 2) (bX : ∀ z ∈ X, z < 256) (ht : t.length = m) (ht' : t'.length = m) (b1 : ∀ z ∈ t, z < 256) (b2 : ∀ z ∈ t', z < 256) : crc (X ++ t) ^^^ crc (X ++ t') = steps (8 * m) (val t ^^^ val t') := by
  have hm : ∀ s : List Nat, (∀ z ∈ s, z < 256) → ∀ z ∈ X ++ s, z < 256 := fun s hs z hz => by
    rcases List.mem_append.1 hz with h | h
    · exact bX z h
    · exact hs z h
  have hl := lt_pow8 X bX
  rw [hX] at hl
  rw [crc_xor (N := 2 + m) (hm t b1) (hm t' b2) (by simp [hX, ht]) (by simp [hX, ht']), val_append, val_append, hX, show (256 : Nat) ^ 2 = 2 ^ (8 * 2) by decide, split2 hl hl, Nat.xor_self, Nat.zero_add, show 8 * (2 + m) = 8 * 2 + 8 * m by omega, steps_add, steps_shift]
theorem steps_zero (k : Nat) : steps k 0 = 0 := by
  have := steps_shift k 0
  simpa using this
/-- Bits turned within 32 of a piece, none of them in its length: the sum doesn't come out. -/
theorem no_turn {a S T H : Nat} (hS : S < 4294967296) (hH : H < 506) (hc : T % 256 = 0 ∨ T % 256 = 3 ∨ T % 256 = 7) (h0 : S + 2 ^ 48 * T ≠ 0) (ha : (S + 2 ^ 48 * T) % 2 ^ a = 0) (hb : S + 2 ^ 48 * T < 2 ^ (a + 32)) : S ≠ steps (8 * (H + 1)) T := by
  intro e
  by_cases hT : T = 0
  · subst hT
    rw [steps_zero] at e
    omega
  · by_cases h32 : 32 ≤ a
    · have hd : 2 ^ 32 ∣ S + 2 ^ 48 * T := Nat.dvd_trans (Nat.pow_dvd_pow 2 h32) (Nat.dvd_of_mod_eq_zero ha)
      have hS0 : S = 0 := by omega
      subst hS0
      rw [Nat.zero_add] at ha hb
      by_cases h48 : 48 ≤ a
      · obtain ⟨m, rfl⟩ : ∃ m, a = 48 + m := ⟨a - 48, by omega⟩
        have hd2 : 2 ^ 48 * 2 ^ m ∣ 2 ^ 48 * T := by rw [← Nat.pow_add]; exact Nat.dvd_of_mod_eq_zero ha
        obtain ⟨e2, rfl⟩ := Nat.dvd_of_mul_dvd_mul_left (by decide) hd2
        have hlt : e2 < 4294967296 := by
          rw [show 48 + m + 32 = 48 + (m + 32) by omega, Nat.pow_add] at hb
          have h1 := Nat.lt_of_mul_lt_mul_left hb
          rw [Nat.pow_add] at h1
          exact Nat.lt_of_mul_lt_mul_left h1
        exact burst (N := H + 1) (a := m) hlt (by rintro rfl; exact hT (by simp)) e.symm
      · have hlt : T < 4294967296 := by
          have : 2 ^ (a + 32) ≤ 2 ^ (48 + 32) := Nat.pow_le_pow_right (by omega) (by omega)
          omega
        have := burst (N := H + 1) (a := 0) hlt hT
        rw [Nat.pow_zero, Nat.one_mul] at this
        exact this e.symm
    · have h16 : 16 < a := by
        rcases Nat.lt_or_ge 16 a with h | h
        · exact h
        · have : 2 ^ (a + 32) ≤ 2 ^ 48 := Nat.pow_le_pow_right (by omega) (by omega)
          omega
      obtain ⟨m, rfl⟩ : ∃ m, a = 16 + m := ⟨a - 16, by omega⟩
      have hTm : T < 2 ^ m := by
        rw [show 16 + m + 32 = 48 + m by omega, Nat.pow_add] at hb
        exact Nat.lt_of_mul_lt_mul_left (a := 2 ^ 48) (by omega)
      have hy : T / 256 < 128 := by
        have : 2 ^ m ≤ 2 ^ 15 := Nat.pow_le_pow_right (by omega) (by omega)
        omega
      have ht := all_tried hy hc
      rw [show 256 * (T / 256) + T % 256 = T by omega] at ht
      unfold tried at ht
      rw [Bool.or_eq_true] at ht
      rcases ht with ht | ht
      · exact hT (by simpa using ht)
      · have hr := runs_at _ _ _ ht H hH
        rw [← e] at hr
        apply hr
        have hlog : Nat.log2 T < m := (Nat.log2_lt hT).2 hTm
        have hdv : 2 ^ (16 + (Nat.log2 T + 1)) ∣ 2 ^ (16 + m) := Nat.pow_dvd_pow 2 (by omega)
        have hdS : 2 ^ (16 + m) ∣ S := by
          have h1 : 2 ^ (16 + m) ∣ 2 ^ 48 * T := Nat.dvd_trans (Nat.pow_dvd_pow 2 (by omega)) (Nat.dvd_mul_right _ _)
          exact (Nat.dvd_add_left h1).1 (Nat.dvd_of_mod_eq_zero ha)
        exact Nat.mod_eq_zero_of_dvd (Nat.dvd_trans hdv hdS)
end Lg
end Go.Proofs.YtcmbogogakdeoaaDoor
