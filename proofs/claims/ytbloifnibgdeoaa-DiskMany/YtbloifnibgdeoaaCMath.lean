import Derived.WalkKit
namespace Go.Proofs.Ytbloifnibgdeoaa
namespace CMath
set_option linter.unusedVariables false

/-! Numbers as bytes (P2.1, P2.2). -/
/-- The bytes of a number. -/
def num (n : Nat) : List Nat := if n < 128 then [n] else (n % 128 + 128) :: num (n / 128)
  termination_by n
  decreasing_by omega

theorem num_small {n : Nat} (h : n < 128) : num n = [n] := by rw [num, if_pos h]
theorem num_great {n : Nat} (h : ¬ n < 128) : num n = (n % 128 + 128) :: num (n / 128) := by rw [num, if_neg h]
theorem num_pos (n : Nat) : 0 < (num n).length := by
  by_cases h : n < 128
  · rw [num_small h]; simp
  · rw [num_great h]; simp
theorem num_byte (n : Nat) : ∀ x ∈ num n, x < 256 := by
  induction n using Nat.strongRecOn with
  | _ n ih =>
    intro x hx
    by_cases h : n < 128
    · rw [num_small h] at hx; simp at hx; omega
    · rw [num_great h] at hx
      simp at hx
      rcases hx with rfl | hx
      · omega
      · exact ih _ (by omega) x hx
theorem num_len (n : Nat) : ∀ k, n < 128 ^ k → 0 < k → (num n).length ≤ k := by
  induction n using Nat.strongRecOn with
  | _ n ih =>
    intro k hn hk
    by_cases h : n < 128
    · rw [num_small h]; simp; omega
    · rw [num_great h]
      obtain ⟨j, rfl⟩ : ∃ j, k = j + 1 := ⟨k - 1, by omega⟩
      have hj : 0 < j := by
        rcases Nat.eq_zero_or_pos j with rfl | hj
        · simp at hn; omega
        · exact hj
      have := ih (n / 128) (by omega) j (by rw [Nat.pow_succ] at hn; exact Nat.div_lt_of_lt_mul (by omega)) hj
      simpa using this
theorem num_le10 {n : Nat} (h : n < 18446744073709551616) : (num n).length ≤ 10 := num_len n 10 (by omega) (by omega)

/-- A number read from bytes: it, how many bytes, the error. -/
def rd : List Nat → Nat → Nat → Nat × Nat × Nat
  | [], _, _ => (0, 0, 20)
  | c :: l, i, n =>
    if (0 < i ∧ c = 0) ∨ (i = 9 ∧ c ≠ 1) then (0, 0, 21)
    else if c < 128 then (n + c % 128 * 128 ^ i, i + 1, 0)
    else rd l (i + 1) (n + c % 128 * 128 ^ i)

theorem pow9 : (128 : Nat) ^ 9 = 9223372036854775808 := by decide
theorem pow_ge9 {i : Nat} (h : 9 ≤ i) : 9223372036854775808 ≤ 128 ^ i := by
  rw [← pow9]; exact Nat.pow_le_pow_right (by omega) h

/-- What is written is read again. -/
theorem rd_num (more : List Nat) (n : Nat) : ∀ i acc, n * 128 ^ i < 18446744073709551616 → (0 < i → 0 < n) →
    rd (num n ++ more) i acc = (acc + n * 128 ^ i, i + (num n).length, 0) := by
  induction n using Nat.strongRecOn with
  | _ n ih =>
    intro i acc hb hp
    by_cases h : n < 128
    · rw [num_small h]
      have c1 : ¬ ((0 < i ∧ n = 0) ∨ (i = 9 ∧ n ≠ 1)) := by
        rintro (⟨h1, h2⟩ | ⟨rfl, h2⟩)
        · have := hp h1; omega
        · rw [pow9] at hb
          have := hp (by omega)
          omega
      simp only [List.cons_append, List.nil_append, rd, if_neg c1, if_pos h, List.length_cons, List.length_nil]
      rw [Nat.mod_eq_of_lt h]
    · rw [num_great h]
      have hi : i < 9 := by
        rcases Nat.lt_or_ge i 9 with h9 | h9
        · exact h9
        · have := pow_ge9 h9
          have : 128 * 9223372036854775808 ≤ n * 128 ^ i := Nat.mul_le_mul (by omega) this
          omega
      have c1 : ¬ ((0 < i ∧ n % 128 + 128 = 0) ∨ (i = 9 ∧ n % 128 + 128 ≠ 1)) := by omega
      have c2 : ¬ (n % 128 + 128 < 128) := by omega
      simp only [List.cons_append, rd, if_neg c1, if_neg c2, List.length_cons]
      have e0 : (n % 128 + 128) % 128 = n % 128 := by omega
      have e1 : n % 128 * 128 ^ i + n / 128 * 128 ^ (i + 1) = n * 128 ^ i := by
        have : n = n % 128 + 128 * (n / 128) := (Nat.mod_add_div n 128).symm
        conv => rhs; rw [this]
        rw [Nat.add_mul, Nat.pow_succ, Nat.mul_comm (128 ^ i) 128, ← Nat.mul_assoc, Nat.mul_comm (n / 128) 128]
      rw [ih (n / 128) (by omega) (i + 1) _ (by omega) (by omega), e0]
      rw [Nat.add_assoc, e1, Nat.add_assoc i 1, Nat.add_comm 1]

/-- What is read was written so. -/
theorem rd_ok (l : List Nat) (hl : ∀ x ∈ l, x < 256) : ∀ i acc n k, i ≤ 9 → rd l i acc = (n, k, 0) →
    ∃ m, n = acc + m * 128 ^ i ∧ k = i + (num m).length ∧ (0 < i → 0 < m) ∧ m * 128 ^ i < 18446744073709551616 ∧ l.take (num m).length = num m := by
  induction l with
  | nil => intro i acc n k hi h; simp [rd] at h
  | cons c l ih =>
    intro i acc n k hi h
    have hc : c < 256 := hl c (by simp)
    have ih := ih (fun x hx => hl x (by simp [hx]))
    by_cases c1 : (0 < i ∧ c = 0) ∨ (i = 9 ∧ c ≠ 1)
    · simp only [rd, if_pos c1] at h; simp at h
    · simp only [rd, if_neg c1] at h
      have hp : 128 ^ i ≤ 128 ^ 9 := Nat.pow_le_pow_right (by omega) hi
      rw [pow9] at hp
      by_cases c2 : c < 128
      · rw [if_pos c2] at h
        simp only [Prod.mk.injEq] at h
        obtain ⟨rfl, rfl, -⟩ := h
        refine ⟨c, by rw [Nat.mod_eq_of_lt c2], by rw [num_small c2]; rfl, by omega, ?_, by rw [num_small c2]; simp⟩
        by_cases h9 : i = 9
        · subst h9; rw [pow9]; omega
        · have hp : 128 ^ i ≤ 128 ^ 8 := Nat.pow_le_pow_right (by omega) (by omega)
          have : c * 128 ^ i ≤ 128 * 128 ^ 8 := Nat.mul_le_mul (by omega) hp
          have : 128 * 128 ^ 8 = 9223372036854775808 := by decide
          omega
      · rw [if_neg c2] at h
        have h9 : i ≠ 9 := by omega
        obtain ⟨m, e1, e2, e3, e4, e5⟩ := ih (i + 1) _ n k (by omega) h
        have hm := e3 (by omega)
        have hbig : ¬ (c % 128 + 128 * m < 128) := by omega
        have d1 : (c % 128 + 128 * m) % 128 = c % 128 := by omega
        have d2 : (c % 128 + 128 * m) / 128 = m := by omega
        have e6 : (c % 128 + 128 * m) * 128 ^ i = c % 128 * 128 ^ i + m * 128 ^ (i + 1) := by
          rw [Nat.add_mul, Nat.pow_succ, Nat.mul_comm (128 ^ i) 128, ← Nat.mul_assoc, Nat.mul_comm m 128]
        refine ⟨c % 128 + 128 * m, ?_, ?_, by omega, ?_, ?_⟩
        · rw [e6, e1, Nat.add_assoc]
        · rw [num_great hbig, d2, List.length_cons, e2]; omega
        · rw [e6]
          have : c % 128 * 128 ^ i < 128 * 128 ^ i := Nat.mul_lt_mul_of_pos_right (by omega) (Nat.pow_pos (by omega))
          have e8 : m * 128 ^ (i + 1) = m * (128 * 128 ^ i) := by rw [Nat.pow_succ, Nat.mul_comm (128 ^ i)]
          have hpp : ∃ q, 18446744073709551616 = q * (128 * 128 ^ i) := by
            rcases (show i = 0 ∨ i = 1 ∨ i = 2 ∨ i = 3 ∨ i = 4 ∨ i = 5 ∨ i = 6 ∨ i = 7 ∨ i = 8 by omega) with rfl | rfl | rfl | rfl | rfl | rfl | rfl | rfl | rfl
            · exact ⟨144115188075855872, by decide⟩
            · exact ⟨1125899906842624, by decide⟩
            · exact ⟨8796093022208, by decide⟩
            · exact ⟨68719476736, by decide⟩
            · exact ⟨536870912, by decide⟩
            · exact ⟨4194304, by decide⟩
            · exact ⟨32768, by decide⟩
            · exact ⟨256, by decide⟩
            · exact ⟨2, by decide⟩
          obtain ⟨q, hq⟩ := hpp
          rw [e8] at e4 ⊢
          rw [hq] at e4 ⊢
          have hmq : m < q := Nat.lt_of_mul_lt_mul_right e4
          have : (m + 1) * (128 * 128 ^ i) ≤ q * (128 * 128 ^ i) := Nat.mul_le_mul_right _ hmq
          rw [Nat.add_mul] at this
          omega
        · rw [num_great hbig, d1, d2]
          simp only [List.length_cons, List.take_succ_cons, e5]
          have : c % 128 + 128 = c := by omega
          rw [this]

/-- A beginning of a number's bytes is no number. -/
theorem rd_part (l : List Nat) : ∀ i acc n k j, rd l i acc = (n, k, 0) → j < k - i → rd (l.take j) i acc = (0, 0, 20) := by
  induction l with
  | nil => intro i acc n k j h hj; simp [rd] at h
  | cons c l ih =>
    intro i acc n k j h hj
    cases j with
    | zero => simp [rd]
    | succ j =>
      by_cases c1 : (0 < i ∧ c = 0) ∨ (i = 9 ∧ c ≠ 1)
      · simp only [rd, if_pos c1] at h; simp at h
      · by_cases c2 : c < 128
        · simp only [rd, if_neg c1, if_pos c2, Prod.mk.injEq] at h
          obtain ⟨_, rfl, _⟩ := h
          omega
        · simp only [rd, if_neg c1, if_neg c2] at h
          simp only [List.take_succ_cons, rd, if_neg c1, if_neg c2]
          exact ih _ _ _ _ _ h (by omega)

/-- The error of a reading. -/
theorem rd_err (l : List Nat) : ∀ i acc, (rd l i acc).2.2 = 0 ∨ ((rd l i acc) = (0, 0, 20) ∨ (rd l i acc) = (0, 0, 21)) := by
  induction l with
  | nil => intro i acc; simp [rd]
  | cons c l ih =>
    intro i acc
    by_cases c1 : (0 < i ∧ c = 0) ∨ (i = 9 ∧ c ≠ 1)
    · simp [rd, if_pos c1]
    · by_cases c2 : c < 128
      · simp [rd, if_neg c1, if_pos c2]
      · simp only [rd, if_neg c1, if_neg c2]; exact ih _ _

/-! Sums (P2.4). -/
def step (x : Nat) : Nat := if x % 2 = 1 then x / 2 ^^^ 2197175160 else x / 2
def steps : Nat → Nat → Nat
  | 0, x => x
  | k + 1, x => steps k (step x)
def feed (x c : Nat) : Nat := steps 8 (x ^^^ c)
def state (x : Nat) (l : List Nat) : Nat := l.foldl feed x
def crc (l : List Nat) : Nat := state 4294967295 l ^^^ 4294967295

theorem steps_add (a b x : Nat) : steps (a + b) x = steps b (steps a x) := by
  induction a generalizing x with
  | zero => simp [steps]
  | succ a ih => rw [show a + 1 + b = (a + b) + 1 by omega]; exact ih _
theorem xor_mod2 (x y : Nat) : (x ^^^ y) % 2 = (x % 2 + y % 2) % 2 := by
  have h := Nat.testBit_xor x y 0
  simp only [Nat.testBit_zero] at h
  rcases Nat.mod_two_eq_zero_or_one x with hx | hx <;> rcases Nat.mod_two_eq_zero_or_one y with hy | hy <;> rcases Nat.mod_two_eq_zero_or_one (x ^^^ y) with hz | hz <;> simp_all
theorem xor_div2 (x y : Nat) : (x ^^^ y) / 2 = x / 2 ^^^ y / 2 := by
  apply Nat.eq_of_testBit_eq
  intro i
  simp only [Nat.testBit_div_two, Nat.testBit_xor]
theorem step_xor (x y : Nat) : step (x ^^^ y) = step x ^^^ step y := by
  unfold step
  rw [xor_mod2, xor_div2]
  rcases Nat.mod_two_eq_zero_or_one x with hx | hx <;> rcases Nat.mod_two_eq_zero_or_one y with hy | hy <;> simp only [hx, hy]
  · simp
  · simp [Nat.xor_assoc]
  · simp
    rw [Nat.xor_assoc, Nat.xor_comm (y / 2), ← Nat.xor_assoc]
  · simp
    rw [Nat.xor_assoc (x / 2), Nat.xor_comm 2197175160, Nat.xor_assoc, Nat.xor_self]
    simp
theorem steps_xor (k x y : Nat) : steps k (x ^^^ y) = steps k x ^^^ steps k y := by
  induction k generalizing x y with
  | zero => rfl
  | succ k ih => simp only [steps]; rw [step_xor, ih]
theorem step_double (x : Nat) : step (2 * x) = x := by unfold step; rw [if_neg (by omega)]; omega
theorem steps_shift (k x : Nat) : steps k (2 ^ k * x) = x := by
  induction k generalizing x with
  | zero => simp [steps]
  | succ k ih => simp only [steps]; rw [show 2 ^ (k + 1) * x = 2 * (2 ^ k * x) by rw [Nat.pow_succ]; rw [Nat.mul_comm (2 ^ k) 2, Nat.mul_assoc], step_double, ih]
theorem step_lt {x : Nat} (h : x < 4294967296) : step x < 4294967296 := by
  unfold step
  split
  · exact Nat.xor_lt_two_pow (n := 32) (by omega) (by omega)
  · omega
theorem steps_lt (k : Nat) {x : Nat} (h : x < 4294967296) : steps k x < 4294967296 := by
  induction k generalizing x with
  | zero => exact h
  | succ k ih => exact ih (step_lt h)
theorem step_ne {x : Nat} (h : x < 4294967296) (h0 : x ≠ 0) : step x ≠ 0 := by
  unfold step
  split
  · intro e
    have : x / 2 = 2197175160 := by
      have h2 := congrArg (· ^^^ 2197175160) e
      simpa [Nat.xor_assoc] using h2
    omega
  · omega
theorem steps_ne (k : Nat) {x : Nat} (h : x < 4294967296) (h0 : x ≠ 0) : steps k x ≠ 0 := by
  induction k generalizing x with
  | zero => exact h0
  | succ k ih => exact ih (step_lt h) (step_ne h h0)

/-- a + 2^k * b, as bits. -/
theorem split_xor (k x y : Nat) (h : x < 2 ^ k) : x + 2 ^ k * y = x ^^^ (2 ^ k * y) := by
  rw [Nat.add_comm]
  have : 2 ^ k * y + x = 2 ^ k * y ||| x := Nat.two_pow_add_eq_or_of_lt h y
  rw [this]
  apply Nat.eq_of_testBit_eq
  intro i
  rw [Nat.testBit_or, Nat.testBit_xor]
  by_cases hi : i < k
  · have : (2 ^ k * y).testBit i = false := by rw [Nat.testBit_two_pow_mul]; simp; omega
    rw [this]; simp
  · have : x.testBit i = false := Nat.testBit_lt_two_pow (Nat.lt_of_lt_of_le h (Nat.pow_le_pow_right (by omega) (by omega)))
    rw [this]; simp

/-- Four steps at once, over the table. -/
theorem steps4 (x : Nat) : steps 4 x = x / 16 ^^^ steps 4 (x % 16) := by
  have e : x = x % 16 + 2 ^ 4 * (x / 16) := (Nat.mod_add_div x 16).symm
  conv => lhs; rw [e, split_xor 4 _ _ (Nat.mod_lt _ (by omega)), steps_xor, steps_shift]
  exact Nat.xor_comm _ _
theorem steps8 (x : Nat) : steps 8 x = steps 4 (steps 4 x) := steps_add 4 4 x

/-- Bytes as one number, the lowest first. -/
def val : List Nat → Nat
  | [] => 0
  | c :: l => c + 256 * val l
theorem val_append (l r : List Nat) : val (l ++ r) = val l + 256 ^ l.length * val r := by
  induction l with
  | nil => simp [val]
  | cons c l ih =>
    simp only [List.cons_append, val, ih, List.length_cons, Nat.pow_succ]
    rw [Nat.mul_add, ← Nat.mul_assoc, Nat.mul_comm 256 (256 ^ l.length), Nat.add_assoc]
theorem val_lt (l : List Nat) (h : ∀ x ∈ l, x < 256) : val l < 256 ^ l.length := by
  induction l with
  | nil => simp [val]
  | cons c l ih =>
    have := ih (fun x hx => h x (by simp [hx]))
    have hc := h c (by simp)
    simp only [val, List.length_cons, Nat.pow_succ]
    omega
theorem val_inj (l r : List Nat) (hl : ∀ x ∈ l, x < 256) (hr : ∀ x ∈ r, x < 256) (hn : l.length = r.length) (h : val l = val r) : l = r := by
  induction l generalizing r with
  | nil => cases r with
    | nil => rfl
    | cons _ _ => simp at hn
  | cons c l ih => cases r with
    | nil => simp at hn
    | cons d r =>
      have hc := hl c (by simp)
      have hd := hr d (by simp)
      simp only [val] at h
      have e : c = d := by omega
      have e2 : val l = val r := by omega
      rw [e, ih r (fun x hx => hl x (by simp [hx])) (fun x hx => hr x (by simp [hx])) (by simpa using hn) e2]

theorem state_val (l : List Nat) (h : ∀ x ∈ l, x < 256) : ∀ s, state s l = steps (8 * l.length) (s ^^^ val l) := by
  induction l with
  | nil => intro s; simp [state, val, steps]
  | cons c l ih =>
    intro s
    have hc := h c (by simp)
    have ih := ih (fun x hx => h x (by simp [hx])) (feed s c)
    show state (feed s c) l = _
    rw [ih, show 8 * (c :: l).length = 8 + 8 * l.length by simp; omega, steps_add]
    congr 1
    simp only [val]
    rw [show c + 256 * val l = c + 2 ^ 8 * val l by rfl, split_xor 8 _ _ (by omega), ← Nat.xor_assoc, steps_xor, steps_shift]
    rfl
theorem state_lt {s : Nat} (h : s < 4294967296) (l : List Nat) (hl : ∀ x ∈ l, x < 256) : state s l < 4294967296 := by
  induction l generalizing s with
  | nil => exact h
  | cons c l ih =>
    have hc := hl c (by simp)
    exact ih (steps_lt 8 (Nat.xor_lt_two_pow (n := 32) (by omega) (by omega))) (fun x hx => hl x (by simp [hx]))
theorem crc_lt (l : List Nat) (hl : ∀ x ∈ l, x < 256) : crc l < 4294967296 := Nat.xor_lt_two_pow (n := 32) (state_lt (by omega) l hl) (by omega)

def four (x : Nat) : List Nat := [x % 256, x / 256 % 256, x / 65536 % 256, x / 16777216 % 256]
theorem four_byte (x : Nat) : ∀ y ∈ four x, y < 256 := by simp [four]; omega
theorem four_val {x : Nat} (h : x < 4294967296) : val (four x) = x := by simp [val, four]; omega

/-! Texts and frames (P2.3, P2.5). -/
def words (s : List Nat) : List Nat := num s.length ++ s
def text (b : List Nat) (most : Int) : List Nat × Nat × Nat :=
  if (rd b 0 0).2.2 ≠ 0 then ([], 0, (rd b 0 0).2.2)
  else if most < ((rd b 0 0).1 : Int) then ([], 0, 22)
  else if b.length < (rd b 0 0).2.1 + (rd b 0 0).1 then ([], 0, 20)
  else ((b.drop (rd b 0 0).2.1).take (rd b 0 0).1, (rd b 0 0).2.1 + (rd b 0 0).1, 0)
def frame (body : List Nat) : List Nat := num body.length ++ body ++ four (crc (num body.length ++ body))
def unframe (b : List Nat) : List Nat × Nat × Nat :=
  if (rd b 0 0).2.2 ≠ 0 then ([], 0, (rd b 0 0).2.2)
  else if 262144 < (rd b 0 0).1 then ([], 0, 22)
  else if b.length < (rd b 0 0).2.1 + (rd b 0 0).1 + 4 then ([], 0, 20)
  else if (b.drop ((rd b 0 0).2.1 + (rd b 0 0).1)).take 4 ≠ four (crc (b.take ((rd b 0 0).2.1 + (rd b 0 0).1))) then ([], 0, 23)
  else ((b.drop (rd b 0 0).2.1).take (rd b 0 0).1, (rd b 0 0).2.1 + (rd b 0 0).1 + 4, 0)

end CMath
end Go.Proofs.Ytbloifnibgdeoaa
