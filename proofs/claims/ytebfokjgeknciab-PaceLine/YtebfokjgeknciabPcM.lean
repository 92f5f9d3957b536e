import Derived.WalkKit
namespace Go.Proofs.Ytebfokjgeknciab
namespace Pcm
open Go.RowKit
set_option linter.unusedVariables false

/-- the ints -/
def R64 (x : Int) : Prop := -9223372036854775808 ≤ x ∧ x ≤ 9223372036854775807
/-- a number that stays among the ints -/
def sat (x : Int) : Int := if x < -9223372036854775808 then -9223372036854775808 else if 9223372036854775807 < x then 9223372036854775807 else x
def sadd (a b : Int) : Int := sat (a + b)
def smul (a b : Int) : Int := sat (a * b)
def ssum (l : List Int) : Int := l.foldl sadd 0
theorem sat_r (x : Int) : R64 (sat x) := by unfold sat R64; split <;> (try split) <;> omega
theorem sat_in {x : Int} (h : R64 x) : sat x = x := by unfold R64 at h; unfold sat; rw [if_neg (by omega), if_neg (by omega)]
theorem sadd_r (a b : Int) : R64 (sadd a b) := sat_r _
theorem smul_r (a b : Int) : R64 (smul a b) := sat_r _
theorem sat_mono {x y : Int} (h : x ≤ y) : sat x ≤ sat y := by
  unfold sat; split <;> split <;> (try split) <;> (try split) <;> omega
theorem sat_pos {x : Int} (h : 0 ≤ x) : 0 ≤ sat x := by unfold sat; split <;> (try split) <;> omega
theorem sat_le {x : Int} (h : 0 ≤ x) : sat x ≤ x := by unfold sat; split <;> (try split) <;> omega
theorem sadd_comm (a b : Int) : sadd a b = sadd b a := by unfold sadd; rw [Int.add_comm]
theorem smul_comm (a b : Int) : smul a b = smul b a := by unfold smul; rw [Int.mul_comm]
/-- numbers that are 0 or more: what passes the greatest is the greatest -/
theorem sat_nn {x : Int} (h : 0 ≤ x) : sat x = min x 9223372036854775807 := by unfold sat; split <;> (try split) <;> omega
theorem sadd_nn {a b : Int} (ha : 0 ≤ a) (hb : 0 ≤ b) : 0 ≤ sadd a b := sat_pos (by omega)
theorem smul_nn {a b : Int} (ha : 0 ≤ a) (hb : 0 ≤ b) : 0 ≤ smul a b := sat_pos (Int.mul_nonneg ha hb)
theorem sadd_mono {a b c d : Int} (h : a ≤ c) (k : b ≤ d) : sadd a b ≤ sadd c d := sat_mono (by omega)
theorem smul_mono {a b c d : Int} (ha : 0 ≤ a) (hb : 0 ≤ b) (h : a ≤ c) (k : b ≤ d) : smul a b ≤ smul c d := sat_mono (Int.mul_le_mul h k hb (by omega))
theorem sadd_assoc {a b c : Int} (ha : 0 ≤ a) (hb : 0 ≤ b) (hc : 0 ≤ c) : sadd (sadd a b) c = sadd a (sadd b c) := by
  unfold sadd
  rw [sat_nn (x := a + b) (by omega), sat_nn (x := b + c) (by omega), sat_nn (by omega), sat_nn (by omega)]
  omega
theorem ssum_r (l : List Int) : R64 (ssum l) := by
  unfold ssum
  have : ∀ (l : List Int) (x : Int), R64 x → R64 (l.foldl sadd x) := by
    intro l
    induction l with
    | nil => intro x hx; exact hx
    | cons y l ih => intro x hx; exact ih _ (sadd_r _ _)
  exact this l 0 (by unfold R64; omega)
theorem ssum_nil : ssum [] = 0 := rfl
theorem ssum_snoc (l : List Int) (x : Int) : ssum (l ++ [x]) = sadd (ssum l) x := by unfold ssum; rw [List.foldl_append]; rfl
theorem ssum_take {l : List Int} {k : Nat} {x : Int} (hx : l[k]? = some x) : ssum (l.take (k + 1)) = sadd (ssum (l.take k)) x := by
  obtain ⟨hk, rfl⟩ := List.getElem?_eq_some_iff.1 hx
  rw [List.take_succ_eq_append_getElem hk, ssum_snoc]
theorem foldl_mono : ∀ (l r : List Int) (x y : Int), x ≤ y → l.length = r.length → (∀ i, (l.getD i 0) ≤ (r.getD i 0)) → l.foldl sadd x ≤ r.foldl sadd y
  | [], [], x, y, h, _, _ => h
  | a :: l, b :: r, x, y, h, hl, hi => foldl_mono l r _ _ (sadd_mono h (by simpa using hi 0)) (by simpa using hl) (fun i => by simpa using hi (i + 1))
  | [], b :: r, x, y, h, hl, hi => by simp at hl
  | a :: l, [], x, y, h, hl, hi => by simp at hl
/-- sums, one thing after another -/
def Le2 : List Int → List Int → Prop
  | [], [] => True
  | a :: l, b :: r => a ≤ b ∧ Le2 l r
  | _, _ => False
theorem Le2.nil : Le2 [] [] := trivial
theorem Le2.cons {a b : Int} {l r : List Int} (h : a ≤ b) (k : Le2 l r) : Le2 (a :: l) (b :: r) := ⟨h, k⟩
theorem foldl_le2 : ∀ {l r : List Int}, Le2 l r → ∀ {x y : Int}, x ≤ y → l.foldl sadd x ≤ r.foldl sadd y
  | [], [], _, x, y, h => h
  | a :: l, b :: r, k, x, y, h => foldl_le2 k.2 (sadd_mono h k.1)
  | [], b :: r, k, x, y, h => k.elim
  | a :: l, [], k, x, y, h => k.elim
theorem ssum_le2 {l r : List Int} (h : Le2 l r) : ssum l ≤ ssum r := foldl_le2 h (Int.le_refl _)
theorem foldl_nn : ∀ (l : List Int) (x : Int), 0 ≤ x → (∀ y ∈ l, 0 ≤ y) → 0 ≤ l.foldl sadd x
  | [], x, h, _ => h
  | a :: l, x, h, hl => foldl_nn l _ (sadd_nn h (hl a (by simp))) fun y hy => hl y (by simp [hy])
theorem ssum_nn {l : List Int} (h : ∀ y ∈ l, 0 ≤ y) : 0 ≤ ssum l := foldl_nn l 0 (Int.le_refl _) h

/-! what the program does -/
theorem plus_hi {a b : Int} (ha : R64 a) (hb : R64 b) (h1 : 0 < b) (h2 : wrap64 (a + b) < a) : sadd a b = 9223372036854775807 := by
  unfold R64 at *; unfold sadd sat; unfold wrap64 at h2; split <;> (try split) <;> omega
theorem plus_lo {a b : Int} (ha : R64 a) (hb : R64 b) (h1 : b < 0) (h2 : a < wrap64 (a + b)) : sadd a b = -9223372036854775808 := by
  unfold R64 at *; unfold sadd sat; unfold wrap64 at h2; split <;> (try split) <;> omega
theorem plus_mid {a b : Int} (ha : R64 a) (hb : R64 b) (h1 : ¬ (0 < b ∧ wrap64 (a + b) < a)) (h2 : ¬ (b < 0 ∧ a < wrap64 (a + b))) : sadd a b = wrap64 (a + b) := by
  unfold R64 at *; unfold sadd sat; unfold wrap64 at *; split <;> (try split) <;> omega
theorem wrap_in {x : Int} (h : R64 x) : wrap64 x = x := by unfold R64 at h; unfold wrap64; omega
theorem wrap_r (x : Int) : R64 (wrap64 x) := by unfold wrap64 R64; omega
theorem wrap_by (x : Int) : ∃ k : Int, wrap64 x = x + 18446744073709551616 * k := by
  refine ⟨-((x + 9223372036854775808) / 18446744073709551616), ?_⟩
  unfold wrap64
  omega
/-- a product that doesn't leave the ints leads back -/
theorem back_in {a b : Int} (ha : R64 a) (hb : R64 b) (h0 : a ≠ 0) (h : R64 (a * b)) : wrap64 ((wrap64 (a * b)).tdiv a) = b := by
  rw [wrap_in h, Int.mul_tdiv_cancel_left b h0, wrap_in hb]
/-- one that does doesn't, but at one place -/
theorem back_out {a b : Int} (ha : R64 a) (hb : R64 b) (h0 : a ≠ 0) (h1 : ¬ (a = -1 ∧ b = -9223372036854775808)) (h : wrap64 ((wrap64 (a * b)).tdiv a) = b) : R64 (a * b) := by
  obtain ⟨k, hk⟩ := wrap_by (a * b)
  have hr := wrap_r (a * b)
  -- the quotient is an int, or the least one by -1
  have hq : R64 ((wrap64 (a * b)).tdiv a) ∨ (a = -1 ∧ wrap64 (a * b) = -9223372036854775808) := by
    by_cases h2 : a = -1 ∧ wrap64 (a * b) = -9223372036854775808
    · exact .inr h2
    · left
      have h3 := Int.natAbs_tdiv_le_natAbs (wrap64 (a * b)) a
      have h4 := hr
      unfold R64 at *
      by_cases h5 : wrap64 (a * b) = -9223372036854775808
      · have h6 : a ≠ -1 := fun e => h2 ⟨e, h5⟩
        rw [h5] at h3 ⊢
        by_cases h7 : a = 1
        · subst h7; decide
        · have h8 : 2 ≤ a.natAbs := by omega
          have h9 : ((-9223372036854775808 : Int).tdiv a).natAbs = 9223372036854775808 / a.natAbs := by rw [Int.natAbs_tdiv]; rfl
          have h10 : 9223372036854775808 / a.natAbs ≤ 9223372036854775808 / 2 := Nat.div_le_div_left h8 (by omega)
          have h11 : 9223372036854775808 / 2 = 4611686018427387904 := by decide
          omega
      · omega
  rcases hq with hq | ⟨rfl, hm⟩
  · rw [wrap_in hq] at h
    have h2 := Int.mul_tdiv_add_tmod (wrap64 (a * b)) a
    rw [h] at h2
    have h3 : ((wrap64 (a * b)).tmod a).natAbs < a.natAbs := by
      have := Int.natAbs_tmod (wrap64 (a * b)) a
      rw [this]
      exact Nat.mod_lt _ (by omega)
    have h4 : (wrap64 (a * b)).tmod a = 18446744073709551616 * k := by omega
    rw [h4] at h3
    have hk0 : k = 0 := by
      unfold R64 at ha
      omega
    subst hk0
    rw [Int.mul_zero, Int.add_zero] at hk
    rw [← hk]
    exact hr
  · -- b is the least int: barred; else -b is one
    have hb' : b ≠ -9223372036854775808 := fun e => h1 ⟨rfl, e⟩
    unfold R64 at *
    omega

end Pcm
end Go.Proofs.Ytebfokjgeknciab
