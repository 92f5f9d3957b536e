import Derived.WalkKit
import Derived.WalkSpells
import Derived.Below
import Derived.Lib.AppendStr
import Derived.Deep.QuietTactic
import Derived.Laws.AppendOwnNone
import Derived.Deep.AppendLies
import Derived.Maps.AppendAt
import Derived.Test.YtkebbmdghnplmaaDoorProg
import Derived.ProofKit
import Derived.OpenShut
import Derived.SizedLaws
import Derived.WalkLawsBesides
import Derived.BigQuiet
import Derived.Laws.OwnMore
namespace Go.Proofs.YtkebbmdghnplmaaDoor
namespace CMath
set_option linter.unusedVariables false

/-! Numbers as bytes (P2.1, P2.2). -/
/-- The bytes of a number. -/
def num (n : Nat) : List Nat := if n < 128 then [n] else (n % 128 + 128) :: num (n / 128)
  termination_by n
  decreasing_by omega

theorem num_small {n : Nat} (h : n < 128) : num n = [n] := by rw [num, if_pos h]
theorem num_great {n : Nat} (h : ¬ n < 128) : num n = (n % 128 + 128) :: num (n / 128) := by rw [num, if_neg h]
theorem num_pos (n : Nat) : 0 < (num n).length := by
  by_cases h : n < 128
  · rw [num_small h]; simp
  · rw [num_great h]; simp
theorem num_byte (n : Nat) : ∀ x ∈ num n, x < 256 := by
  induction n using Nat.strongRecOn with
  | _ n ih =>
    intro x hx
    by_cases h : n < 128
    · rw [num_small h] at hx; simp at hx; omega
    · rw [num_great h] at hx
      simp at hx
      rcases hx with rfl | hx
      · omega
      · exact ih _ (by omega) x hx
theorem num_len (n : Nat) : ∀ k, n < 128 ^ k → 0 < k → (num n).length ≤ k := by
  induction n using Nat.strongRecOn with
  | _ n ih =>
    intro k hn hk
    by_cases h : n < 128
    · rw [num_small h]; simp; omega
    · rw [num_great h]
      obtain ⟨j, rfl⟩ : ∃ j, k = j + 1 := ⟨k - 1, by omega⟩
      have hj : 0 < j := by
        rcases Nat.eq_zero_or_pos j with rfl | hj
        · simp at hn; omega
        · exact hj
      have := ih (n / 128) (by omega) j (by rw [Nat.pow_succ] at hn; exact Nat.div_lt_of_lt_mul (by omega)) hj
      simpa using this
theorem num_le10 {n : Nat} (h : n < 18446744073709551616) : (num n).length ≤ 10 := num_len n 10 (by omega) (by omega)

/-- A number read from bytes: it, how many bytes, the error. -/
def rd : List Nat → Nat → Nat → Nat × Nat × Nat
  | [], _, _ => (0, 0, 20)
  | c :: l, i, n =>
    if (0 < i ∧ c = 0) ∨ (i = 9 ∧ c ≠ 1) then (0, 0, 21)
    else if c < 128 then (n + c % 128 * 128 ^ i, i + 1, 0)
    else rd l (i + 1) (n + c % 128 * 128 ^ i)

theorem pow9 : (128 : Nat) ^ 9 = 9223372036854775808 := by decide
theorem pow_ge9 {i : Nat} (h : 9 ≤ i) : 9223372036854775808 ≤ 128 ^ i := by
  rw [← pow9]; exact Nat.pow_le_pow_right (by omega) h

/-- What is written is read again. -/
theorem rd_num (more : List Nat) (n : Nat) : ∀ i acc, n * 128 ^ i < 18446744073709551616 → (0 < i → 0 < n) →
    rd (num n ++ more) i acc = (acc + n * 128 ^ i, i + (num n).length, 0) := by
  induction n using Nat.strongRecOn with
  | _ n ih =>
    intro i acc hb hp
    by_cases h : n < 128
    · rw [num_small h]
      have c1 : ¬ ((0 < i ∧ n = 0) ∨ (i = 9 ∧ n ≠ 1)) := by
        rintro (⟨h1, h2⟩ | ⟨rfl, h2⟩)
        · have := hp h1; omega
        · rw [pow9] at hb
          have := hp (by omega)
          omega
      simp only [List.cons_append, List.nil_append, rd, if_neg c1, if_pos h, List.length_cons, List.length_nil]
      rw [Nat.mod_eq_of_lt h]
    · rw [num_great h]
      have hi : i < 9 := by
        rcases Nat.lt_or_ge i 9 with h9 | h9
        · exact h9
        · have := pow_ge9 h9
          have : 128 * 9223372036854775808 ≤ n * 128 ^ i := Nat.mul_le_mul (by omega) this
          omega
      have c1 : ¬ ((0 < i ∧ n % 128 + 128 = 0) ∨ (i = 9 ∧ n % 128 + 128 ≠ 1)) := by omega
      have c2 : ¬ (n % 128 + 128 < 128) := by omega
      simp only [List.cons_append, rd, if_neg c1, if_neg c2, List.length_cons]
      have e0 : (n % 128 + 128) % 128 = n % 128 := by omega
      have e1 : n % 128 * 128 ^ i + n / 128 * 128 ^ (i + 1) = n * 128 ^ i := by
        have : n = n % 128 + 128 * (n / 128) := (Nat.mod_add_div n 128).symm
        conv => rhs; rw [this]
        rw [Nat.add_mul, Nat.pow_succ, Nat.mul_comm (128 ^ i) 128, ← Nat.mul_assoc, Nat.mul_comm (n / 128) 128]
      rw [ih (n / 128) (by omega) (i + 1) _ (by omega) (by omega), e0]
      rw [Nat.add_assoc, e1, Nat.add_assoc i 1, Nat.add_comm 1]

/-- What is read was written so. -/
theorem rd_ok (l : List Nat) (hl : ∀ x ∈ l, x < 256) : ∀ i acc n k, i ≤ 9 → rd l i acc = (n, k, 0) →
    ∃ m, n = acc + m * 128 ^ i ∧ k = i + (num m).length ∧ (0 < i → 0 < m) ∧ m * 128 ^ i < 18446744073709551616 ∧ l.take (num m).length = num m := by
  induction l with
  | nil => intro i acc n k hi h; simp [rd] at h
  | cons c l ih =>
    intro i acc n k hi h
    have hc : c < 256 := hl c (by simp)
    have ih := ih (fun x hx => hl x (by simp [hx]))
    by_cases c1 : (0 < i ∧ c = 0) ∨ (i = 9 ∧ c ≠ 1)
    · simp only [rd, if_pos c1] at h; simp at h
    · simp only [rd, if_neg c1] at h
      have hp : 128 ^ i ≤ 128 ^ 9 := Nat.pow_le_pow_right (by omega) hi
      rw [pow9] at hp
      by_cases c2 : c < 128
      · rw [if_pos c2] at h
        simp only [Prod.mk.injEq] at h
        obtain ⟨rfl, rfl, -⟩ := h
        refine ⟨c, by rw [Nat.mod_eq_of_lt c2], by rw [num_small c2]; rfl, by omega, ?_, by rw [num_small c2]; simp⟩
        by_cases h9 : i = 9
        · subst h9; rw [pow9]; omega
        · have hp : 128 ^ i ≤ 128 ^ 8 := Nat.pow_le_pow_right (by omega) (by omega)
          have : c * 128 ^ i ≤ 128 * 128 ^ 8 := Nat.mul_le_mul (by omega) hp
          have : 128 * 128 ^ 8 = 9223372036854775808 := by decide
          omega
      · rw [if_neg c2] at h
        have h9 : i ≠ 9 := by omega
        obtain ⟨m, e1, e2, e3, e4, e5⟩ := ih (i + 1) _ n k (by omega) h
        have hm := e3 (by omega)
        have hbig : ¬ (c % 128 + 128 * m < 128) := by omega
        have d1 : (c % 128 + 128 * m) % 128 = c % 128 := by omega
        have d2 : (c % 128 + 128 * m) / 128 = m := by omega
        have e6 : (c % 128 + 128 * m) * 128 ^ i = c % 128 * 128 ^ i + m * 128 ^ (i + 1) := by
          rw [Nat.add_mul, Nat.pow_succ, Nat.mul_comm (128 ^ i) 128, ← Nat.mul_assoc, Nat.mul_comm m 128]
        refine ⟨c % 128 + 128 * m, ?_, ?_, by omega, ?_, ?_⟩
        · rw [e6, e1, Nat.add_assoc]
        · rw [num_great hbig, d2, List.length_cons, e2]; omega
        · rw [e6]
          have : c % 128 * 128 ^ i < 128 * 128 ^ i := Nat.mul_lt_mul_of_pos_right (by omega) (Nat.pow_pos (by omega))
          have e8 : m * 128 ^ (i + 1) = m * (128 * 128 ^ i) := by rw [Nat.pow_succ, Nat.mul_comm (128 ^ i)]
          have hpp : ∃ q, 18446744073709551616 = q * (128 * 128 ^ i) := by
            rcases (show i = 0 ∨ i = 1 ∨ i = 2 ∨ i = 3 ∨ i = 4 ∨ i = 5 ∨ i = 6 ∨ i = 7 ∨ i = 8 by omega) with rfl | rfl | rfl | rfl | rfl | rfl | rfl | rfl | rfl
            · exact ⟨144115188075855872, by decide⟩
            · exact ⟨1125899906842624, by decide⟩
            · exact ⟨8796093022208, by decide⟩
            · exact ⟨68719476736, by decide⟩
            · exact ⟨536870912, by decide⟩
            · exact ⟨4194304, by decide⟩
            · exact ⟨32768, by decide⟩
            · exact ⟨256, by decide⟩
            · exact ⟨2, by decide⟩
          obtain ⟨q, hq⟩ := hpp
          rw [e8] at e4 ⊢
          rw [hq] at e4 ⊢
          have hmq : m < q := Nat.lt_of_mul_lt_mul_right e4
          have : (m + 1) * (128 * 128 ^ i) ≤ q * (128 * 128 ^ i) := Nat.mul_le_mul_right _ hmq
          rw [Nat.add_mul] at this
          omega
        · rw [num_great hbig, d1, d2]
          simp only [List.length_cons, List.take_succ_cons, e5]
          have : c % 128 + 128 = c := by omega
          rw [this]

/-- A beginning of a number's bytes is no number. -/
theorem rd_part (l : List Nat) : ∀ i acc n k j, rd l i acc = (n, k, 0) → j < k - i → rd (l.take j) i acc = (0, 0, 20) := by
  induction l with
  | nil => intro i acc n k j h hj; simp [rd] at h
  | cons c l ih =>
    intro i acc n k j h hj
    cases j with
    | zero => simp [rd]
    | succ j =>
      by_cases c1 : (0 < i ∧ c = 0) ∨ (i = 9 ∧ c ≠ 1)
      · simp only [rd, if_pos c1] at h; simp at h
      · by_cases c2 : c < 128
        · simp only [rd, if_neg c1, if_pos c2, Prod.mk.injEq] at h
          obtain ⟨_, rfl, _⟩ := h
          omega
        · simp only [rd, if_neg c1, if_neg c2] at h
          simp only [List.take_succ_cons, rd, if_neg c1, if_neg c2]
          exact ih _ _ _ _ _ h (by omega)

/-- The error of a reading. -/
theorem rd_err (l : List Nat) : ∀ i acc, (rd l i acc).2.2 = 0 ∨ ((rd l i acc) = (0, 0, 20) ∨ (rd l i acc) = (0, 0, 21)) := by
  induction l with
  | nil => intro i acc; simp [rd]
  | cons c l ih =>
    intro i acc
    by_cases c1 : (0 < i ∧ c = 0) ∨ (i = 9 ∧ c ≠ 1)
    · simp [rd, if_pos c1]
    · by_cases c2 : c < 128
      · simp [rd, if_neg c1, if_pos c2]
      · simp only [rd, if_neg c1, if_neg c2]; exact ih _ _

/-! Sums (P2.4). -/
def step (x : Nat) : Nat := if x % 2 = 1 then x / 2 ^^^ 2197175160 else x / 2
def steps : Nat → Nat → Nat
  | 0, x => x
  | k + 1, x => steps k (step x)
def feed (x c : Nat) : Nat := steps 8 (x ^^^ c)
def state (x : Nat) (l : List Nat) : Nat := l.foldl feed x
def crc (l : List Nat) : Nat := state 4294967295 l ^^^ 4294967295

theorem steps_add (a b x : Nat) : steps (a + b) x = steps b (steps a x) := by
  induction a generalizing x with
  | zero => simp [steps]
  | succ a ih => rw [show a + 1 + b = (a + b) + 1 by omega]; exact ih _
theorem xor_mod2 (x y : Nat) : (x ^^^ y) % 2 = (x % 2 + y % 2) % 2 := by
  have h := Nat.testBit_xor x y 0
  simp only [Nat.testBit_zero] at h
  rcases Nat.mod_two_eq_zero_or_one x with hx | hx <;> rcases Nat.mod_two_eq_zero_or_one y with hy | hy <;> rcases Nat.mod_two_eq_zero_or_one (x ^^^ y) with hz | hz <;> simp_all
theorem xor_div2 (x y : Nat) : (x ^^^ y) / 2 = x / 2 ^^^ y / 2 := by
  apply Nat.eq_of_testBit_eq
  intro i
  simp only [Nat.testBit_div_two, Nat.testBit_xor]
theorem step_xor (x y : Nat) : step (x ^^^ y) = step x ^^^ step y := by
  unfold step
  rw [xor_mod2, xor_div2]
  rcases Nat.mod_two_eq_zero_or_one x with hx | hx <;> rcases Nat.mod_two_eq_zero_or_one y with hy | hy <;> simp only [hx, hy]
  · simp
  · simp [Nat.xor_assoc]
  · simp
    rw [Nat.xor_assoc, Nat.xor_comm (y / 2), ← Nat.xor_assoc]
  · simp
    rw [Nat.xor_assoc (x / 2), Nat.xor_comm 2197175160, Nat.xor_assoc, Nat.xor_self]
    simp
theorem steps_xor (k x y : Nat) : steps k (x ^^^ y) = steps k x ^^^ steps k y := by
  induction k generalizing x y with
  | zero => rfl
  | succ k ih => simp only [steps]; rw [step_xor, ih]
theorem step_double (x : Nat) : step (2 * x) = x := by unfold step; rw [if_neg (by omega)]; omega
theorem steps_shift (k x : Nat) : steps k (2 ^ k * x) = x := by
  induction k generalizing x with
  | zero => simp [steps]
  | succ k ih => simp only [steps]; rw [show 2 ^ (k + 1) * x = 2 * (2 ^ k * x) by rw [Nat.pow_succ]; rw [Nat.mul_comm (2 ^ k) 2, Nat.mul_assoc], step_double, ih]
theorem step_lt {x : Nat} (h : x < 4294967296) : step x < 4294967296 := by
  unfold step
  split
  · exact Nat.xor_lt_two_pow (n := 32) (by omega) (by omega)
  · omega
theorem steps_lt (k : Nat) {x : Nat} (h : x < 4294967296) : steps k x < 4294967296 := by
  induction k generalizing x with
  | zero => exact h
  | succ k ih => exact ih (step_lt h)
theorem step_ne {x : Nat} (h : x < 4294967296) (h0 : x ≠ 0) : step x ≠ 0 := by
  unfold step
  split
  · intro e
    have : x / 2 = 2197175160 := by
      have h2 := congrArg (· ^^^ 2197175160) e
      simpa [Nat.xor_assoc] using h2
    omega
  · omega
theorem steps_ne (k : Nat) {x : Nat} (h : x < 4294967296) (h0 : x ≠ 0) : steps k x ≠ 0 := by
  induction k generalizing x with
  | zero => exact h0
  | succ k ih => exact ih (step_lt h) (step_ne h h0)

/-- a + 2^k * b, as bits. -/
theorem split_xor (k x y : Nat) (h : x < 2 ^ k) : x + 2 ^ k * y = x ^^^ (2 ^ k * y) := by
  rw [Nat.add_comm]
  have : 2 ^ k * y + x = 2 ^ k * y ||| x := Nat.two_pow_add_eq_or_of_lt h y
  rw [this]
  apply Nat.eq_of_testBit_eq
  intro i
  rw [Nat.testBit_or, Nat.testBit_xor]
  by_cases hi : i < k
  · have : (2 ^ k * y).testBit i = false := by rw [Nat.testBit_two_pow_mul]; simp; omega
    rw [this]; simp
  · have : x.testBit i = false := Nat.testBit_lt_two_pow (Nat.lt_of_lt_of_le h (Nat.pow_le_pow_right (by omega) (by omega)))
    rw [this]; simp

/-- Four steps at once, over the table. -/
theorem steps4 (x : Nat) : steps 4 x = x / 16 ^^^ steps 4 (x % 16) := by
  have e : x = x % 16 + 2 ^ 4 * (x / 16) := (Nat.mod_add_div x 16).symm
  conv => lhs; rw [e, split_xor 4 _ _ (Nat.mod_lt _ (by omega)), steps_xor, steps_shift]
  exact Nat.xor_comm _ _
theorem steps8 (x : Nat) : steps 8 x = steps 4 (steps 4 x) := steps_add 4 4 x

/-- Bytes as one number, the lowest first. -/
def val : List Nat → Nat
  | [] => 0
  | c :: l => c + 256 * val l
theorem val_append (l r : List Nat) : val (l ++ r) = val l + 256 ^ l.length * val r := by
  induction l with
  | nil => simp [val]
  | cons c l ih =>
    simp only [List.cons_append, val, ih, List.length_cons, Nat.pow_succ]
    rw [Nat.mul_add, ← Nat.mul_assoc, Nat.mul_comm 256 (256 ^ l.length), Nat.add_assoc]
theorem val_lt (l : List Nat) (h : ∀ x ∈ l, x < 256) : val l < 256 ^ l.length := by
  induction l with
  | nil => simp [val]
  | cons c l ih =>
    have := ih (fun x hx => h x (by simp [hx]))
    have hc := h c (by simp)
    simp only [val, List.length_cons, Nat.pow_succ]
    omega
theorem val_inj (l r : List Nat) (hl : ∀ x ∈ l, x < 256) (hr : ∀ x ∈ r, x < 256) (hn : l.length = r.length) (h : val l = val r) : l = r := by
  induction l generalizing r with
  | nil => cases r with
    | nil => rfl
    | cons _ _ => simp at hn
  | cons c l ih => cases r with
    | nil => simp at hn
    | cons d r =>
      have hc := hl c (by simp)
      have hd := hr d (by simp)
      simp only [val] at h
      have e : c = d := by omega
      have e2 : val l = val r := by omega
      rw [e, ih r (fun x hx => hl x (by simp [hx])) (fun x hx => hr x (by simp [hx])) (by simpa using hn) e2]

theorem state_val (l : List Nat) (h : ∀ x ∈ l, x < 256) : ∀ s, state s l = steps (8 * l.length) (s ^^^ val l) := by
  induction l with
  | nil => intro s; simp [state, val, steps]
  | cons c l ih =>
    intro s
    have hc := h c (by simp)
    have ih := ih (fun x hx => h x (by simp [hx])) (feed s c)
    show state (feed s c) l = _
    rw [ih, show 8 * (c :: l).length = 8 + 8 * l.length by simp; omega, steps_add]
    congr 1
    simp only [val]
    rw [show c + 256 * val l = c + 2 ^ 8 * val l by rfl, split_xor 8 _ _ (by omega), ← Nat.xor_assoc, steps_xor, steps_shift]
    rfl
theorem state_lt {s : Nat} (h : s < 4294967296) (l : List Nat) (hl : ∀ x ∈ l, x < 256) : state s l < 4294967296 := by
  induction l generalizing s with
  | nil => exact h
  | cons c l ih =>
    have hc := hl c (by simp)
    exact ih (steps_lt 8 (Nat.xor_lt_two_pow (n := 32) (by omega) (by omega))) (fun x hx => hl x (by simp [hx]))
theorem crc_lt (l : List Nat) (hl : ∀ x ∈ l, x < 256) : crc l < 4294967296 := Nat.xor_lt_two_pow (n := 32) (state_lt (by omega) l hl) (by omega)

def four (x : Nat) : List Nat := [x % 256, x / 256 % 256, x / 65536 % 256, x / 16777216 % 256]
theorem four_byte (x : Nat) : ∀ y ∈ four x, y < 256 := by simp [four]; omega
theorem four_val {x : Nat} (h : x < 4294967296) : val (four x) = x := by simp [val, four]; omega

/-! Texts and frames (P2.3, P2.5). -/
def words (s : List Nat) : List Nat := num s.length ++ s
def text (b : List Nat) (most : Int) : List Nat × Nat × Nat :=
  if (rd b 0 0).2.2 ≠ 0 then ([], 0, (rd b 0 0).2.2)
  else if most < ((rd b 0 0).1 : Int) then ([], 0, 22)
  else if b.length < (rd b 0 0).2.1 + (rd b 0 0).1 then ([], 0, 20)
  else ((b.drop (rd b 0 0).2.1).take (rd b 0 0).1, (rd b 0 0).2.1 + (rd b 0 0).1, 0)
def frame (body : List Nat) : List Nat := num body.length ++ body ++ four (crc (num body.length ++ body))
def unframe (b : List Nat) : List Nat × Nat × Nat :=
  if (rd b 0 0).2.2 ≠ 0 then ([], 0, (rd b 0 0).2.2)
  else if 262144 < (rd b 0 0).1 then ([], 0, 22)
  else if b.length < (rd b 0 0).2.1 + (rd b 0 0).1 + 4 then ([], 0, 20)
  else if (b.drop ((rd b 0 0).2.1 + (rd b 0 0).1)).take 4 ≠ four (crc (b.take ((rd b 0 0).2.1 + (rd b 0 0).1))) then ([], 0, 23)
  else ((b.drop (rd b 0 0).2.1).take (rd b 0 0).1, (rd b 0 0).2.1 + (rd b 0 0).1 + 4, 0)

end CMath
end Go.Proofs.YtkebbmdghnplmaaDoor
namespace Go.Proofs.YtkebbmdghnplmaaDoor
namespace Byt
open Go.RowKit CMath
set_option linter.unusedVariables false

/-- Bytes that lie in a block. -/
def BRow (w : World) (b off : Nat) (l : List Nat) : Prop := b < w.heap.size ∧ ∀ (i x : Nat), l[i]? = some x → w.cell? ⟨b, off + i, none⟩ = some (.int .u8 (x : Int))
/-- What a slice of bytes holds. -/
def IsB (w : World) (a : Option Addr) (l : List Nat) : Prop := (l ≠ [] → ∃ b off, a = some ⟨b, off, none⟩ ∧ BRow w b off l) ∧ (∀ x ∈ l, x < 256)

theorem BRow.keep {w w' : World} {b off : Nat} {l : List Nat} (h : BRow w b off l) (hb : w'.heap[b]? = w.heap[b]?) (hs : w.heap.size ≤ w'.heap.size) : BRow w' b off l :=
  ⟨Nat.lt_of_lt_of_le h.1 hs, fun i x hx => (World.cell?_of_block (w := w) (a := ⟨b, off + i, none⟩) hb).trans (h.2 i x hx)⟩
theorem BRow.below {w w' : World} {B b off : Nat} {l : List Nat} (h : BRow w b off l) (hb : Below B w w') (hB : b < B) : BRow w' b off l :=
  h.keep (hb.block b hB) hb.size
theorem IsB.below {w w' : World} {a : Option Addr} {l : List Nat} (h : IsB w a l) (hb : Below w.heap.size w w') : IsB w' a l :=
  ⟨fun hne => by
    obtain ⟨b, off, e, hr⟩ := h.1 hne
    exact ⟨b, off, e, hr.below hb hr.1⟩, h.2⟩
theorem IsB.nil (w : World) (a : Option Addr) : IsB w a [] := ⟨fun h => absurd rfl h, by simp⟩
theorem IsB.some {w : World} {b off : Nat} {l : List Nat} (h : BRow w b off l) (hl : ∀ x ∈ l, x < 256) : IsB w (some ⟨b, off, none⟩) l := ⟨fun _ => ⟨b, off, rfl, h⟩, hl⟩
theorem BRow.take {w : World} {b off : Nat} {l : List Nat} (h : BRow w b off l) (n : Nat) : BRow w b off (l.take n) :=
  ⟨h.1, fun i x hx => h.2 i x (by
    rw [List.getElem?_take] at hx
    split at hx
    · exact hx
    · cases hx)⟩
theorem BRow.drop {w : World} {b off : Nat} {l : List Nat} (h : BRow w b off l) (n : Nat) : BRow w b (off + n) (l.drop n) :=
  ⟨h.1, fun i x hx => by
    rw [List.getElem?_drop] at hx
    have := h.2 (n + i) x hx
    rwa [← Nat.add_assoc] at this⟩
theorem IsB.take {w : World} {a : Option Addr} {l : List Nat} (h : IsB w a l) (n : Nat) : IsB w a (l.take n) :=
  ⟨fun hne => by
    obtain ⟨b, off, e, hr⟩ := h.1 (by intro e; rw [e] at hne; simp at hne)
    exact ⟨b, off, e, hr.take n⟩, fun x hx => h.2 x (List.mem_of_mem_take hx)⟩
theorem IsB.none {w : World} {l : List Nat} (h : IsB w none l) : l = [] := by
  by_cases hne : l = []
  · exact hne
  · obtain ⟨b, off, e, _⟩ := h.1 hne
    cases e

/-- The cells of bytes. -/
def cellsB (l : List Nat) : List Value := l.map fun (x : Nat) => .int .u8 (x : Int)
theorem cellsB_length (l : List Nat) : (cellsB l).length = l.length := by simp [cellsB]
theorem cellsB_append (l r : List Nat) : cellsB (l ++ r) = cellsB l ++ cellsB r := by simp [cellsB]
theorem cellsB_one (l : List Nat) : ∀ u ∈ cellsB l, u.oneCell' = true := by
  intro u hu
  simp [cellsB] at hu
  obtain ⟨x, _, rfl⟩ := hu
  rfl
theorem cellsB_get {l : List Nat} {i x : Nat} (h : l[i]? = some x) : (cellsB l)[i]? = some (.int .u8 (x : Int)) := by simp [cellsB, h]
theorem cellsB_inv {l : List Nat} {i : Nat} {u : Value} (h : (cellsB l)[i]? = some u) : ∃ x, l[i]? = some x ∧ u = .int .u8 (x : Int) := by
  simp [cellsB] at h
  obtain ⟨x, h1, h2⟩ := h
  exact ⟨x, h1, h2.symm⟩

theorem add_plain' (b off t : Nat) : (⟨b, off, none⟩ : Addr).add t = ⟨b, off + t, none⟩ := by unfold Addr.add; by_cases ht : t = 0 <;> simp [ht]

theorem news_of {w : World} {a : Option Addr} {l : List Nat} (h : IsB w a l) : ∀ ad, a = some ad → ∀ j u, (cellsB l)[j]? = some u → w.cell? (ad.add j) = some u := by
  intro ad had j u hu
  obtain ⟨x, hx, rfl⟩ := cellsB_inv hu
  obtain ⟨b, off, h', hlt, hr⟩ := h.1 (by intro e; rw [e] at hx; simp at hx)
  rw [had] at h'
  cases h'
  rw [add_plain']
  exact hr j x hx

theorem row_of_own {w : World} {base g n c : Nat} {l : List Nat} {e : TypeId} (h : w.ownsRow base e 1 (.slice (some ⟨g, 0, none⟩) n c) n (cellsB l)) (hn : n = l.length) : BRow w g 0 l := by
  refine ⟨(h.lt g rfl).2, fun i x hx => ?_⟩
  have hi : i < l.length := (List.getElem?_eq_some_iff.1 hx).1
  rw [Nat.zero_add, h.cellAt _ (by omega)]
  exact cellsB_get hx
theorem isB_of_own {w : World} {base n : Nat} {v : Value} {l : List Nat} {e : TypeId} (h : w.ownsRow base e 1 v n (cellsB l)) (hl : ∀ x ∈ l, x < 256) : n = l.length ∧ ((v = .slice none 0 0 ∧ l = []) ∨ ∃ g c, v = .slice (some ⟨g, 0, none⟩) n c ∧ n ≤ c ∧ base ≤ g ∧ BRow w g 0 l) := by
  have hn : n = l.length := by have := h.1; rw [cellsB_length] at this; omega
  refine ⟨hn, ?_⟩
  rcases h.2 with ⟨h1, h2⟩ | ⟨g, c, cur, rfl, hg, _, hc, _⟩
  · exact .inl ⟨h1, List.eq_nil_of_length_eq_zero (by omega)⟩
  · exact .inr ⟨g, c, rfl, hc, hg, row_of_own h hn⟩

/-- The answer of a call: bytes in memory of its own, not nil. -/
def Own (T base : Nat) (w : World) (v : Value) (l : List Nat) : Prop := ∃ g c, v = .slice (some ⟨g, 0, none⟩) l.length c ∧ w.ownsRow base T 1 v l.length (cellsB l) ∧ ∀ x ∈ l, x < 256
theorem Own.mk' {T base : Nat} {w : World} {v : Value} {n : Nat} {l : List Nat} (h : w.ownsRow base T 1 v n (cellsB l)) (hl : ∀ x ∈ l, x < 256) (hv : v ≠ .slice none 0 0) : Own T base w v l := by
  obtain ⟨hn, h1 | ⟨g, c, h1, _⟩⟩ := isB_of_own h hl
  · exact absurd h1.1 hv
  · exact ⟨g, c, by rw [← hn]; exact h1, by rw [← hn]; exact h, hl⟩
theorem Own.pos {T base : Nat} {w : World} {v : Value} {n : Nat} {l : List Nat} (h : w.ownsRow base T 1 v n (cellsB l)) (hl : ∀ x ∈ l, x < 256) (hp : 0 < n) : Own T base w v l := by
  refine Own.mk' h hl ?_
  rintro rfl
  rcases h.2 with ⟨_, h2⟩ | ⟨g, c, cur, h', _⟩
  · omega
  · cases h'

theorem Own.row {T base : Nat} {w : World} {v : Value} {l : List Nat} (h : Own T base w v l) : w.ownsRow base T 1 v l.length (cellsB l) := by
  obtain ⟨g, c, _, h2, _⟩ := h
  exact h2
theorem Own.byte {T base : Nat} {w : World} {v : Value} {l : List Nat} (h : Own T base w v l) : ∀ x ∈ l, x < 256 := by
  obtain ⟨g, c, _, _, h2⟩ := h
  exact h2
theorem Own.lower {T base base' : Nat} {w : World} {v : Value} {l : List Nat} (h : Own T base w v l) (hb : base' ≤ base) : Own T base' w v l := by
  obtain ⟨g, c, e, ⟨h1, h2⟩, h3⟩ := h
  refine ⟨g, c, e, ⟨h1, ?_⟩, h3⟩
  rcases h2 with h2 | ⟨g, cap, cur, hv, hg, hr⟩
  · exact .inl h2
  · exact .inr ⟨g, cap, cur, hv, by omega, hr⟩

theorem Own.isB {T base : Nat} {w : World} {v : Value} {l : List Nat} (h : Own T base w v l) : ∃ g c, v = .slice (some ⟨g, 0, none⟩) l.length c ∧ base ≤ g ∧ g < w.heap.size ∧ l.length ≤ c ∧ IsB w (some ⟨g, 0, none⟩) l := by
  obtain ⟨g, c, rfl, h2, h3⟩ := h
  have hr := row_of_own h2 rfl
  have hg := h2.lt g rfl
  refine ⟨g, c, rfl, hg.1, hg.2, ?_, IsB.some hr h3⟩
  rcases h2.2 with ⟨h4, _⟩ | ⟨g', c', cur, h4, _, _, h5, _⟩
  · cases h4
  · cases h4; exact h5
theorem Own.keep {T base : Nat} {w w' : World} {v : Value} {l : List Nat} (h : Own T base w v l) (hb : ∀ g, v.ownBlock = some g → w'.heap[g]? = w.heap[g]?) : Own T base w' v l := by
  obtain ⟨g, c, e, ⟨h1, h2⟩, h3⟩ := h
  refine ⟨g, c, e, ⟨h1, ?_⟩, h3⟩
  rcases h2 with h2 | ⟨g, cap, cur, hv, hg, hh, hr⟩
  · exact .inl h2
  · exact .inr ⟨g, cap, cur, hv, hg, (hb g (by rw [hv]; rfl)).trans hh, hr⟩
theorem Own.below {T base : Nat} {w w' : World} {v : Value} {l : List Nat} (h : Own T base w v l) (hb : Below w.heap.size w w') : Own T base w' v l :=
  h.keep fun g hg => hb.block g (h.row.lt g hg).2

theorem below_drewN {B : Nat} {a w : World} (h : Below B a w) (n : Nat) : Below B a (w.drewN n) := h.trans ⟨rfl, rfl, rfl, Nat.le_refl _, fun _ _ => rfl⟩

/-- Strings as bytes. -/
def strB (s : ByteArray) : List Nat := s.data.toList.map (·.toNat)
theorem strB_length (s : ByteArray) : (strB s).length = s.size := by simp [strB]
theorem strB_byte (s : ByteArray) : ∀ x ∈ strB s, x < 256 := by
  intro x hx
  simp [strB] at hx
  obtain ⟨y, _, rfl⟩ := hx
  exact y.toNat_lt
theorem strCells_eq (s : ByteArray) : Lib.strCells s = cellsB (strB s) := by
  unfold Lib.strCells cellsB strB
  simp
theorem strB_inj {s t : ByteArray} (h : strB s = strB t) : s = t := by
  unfold strB at h
  have : s.data.toList = t.data.toList := by
    have hi : Function.Injective UInt8.toNat := fun a b h => UInt8.toNat_inj.1 h
    exact List.map_inj_right (fun a b h => hi h) |>.1 h
  cases s; cases t
  simp at this
  rw [this]
/-- Bytes as a string. -/
def ofB (l : List Nat) : ByteArray := ⟨(l.map UInt8.ofNat).toArray⟩
theorem strB_ofB {l : List Nat} (h : ∀ x ∈ l, x < 256) : strB (ofB l) = l := by
  unfold strB ofB
  simp only [List.map_map]
  conv => rhs; rw [← List.map_id l]
  refine List.map_congr_left fun x hx => ?_
  have := h x hx
  simp
  omega

/-- append of bytes onto bytes of the call's own. -/
theorem wpList_appB {P : Program} {w : World} {ops : Array Oper} {rest : List Oper} {o : Oper} {a : Act} {Q : Exit → Act → World → Prop} (hgd : o.guard = none) (s x : Operand) (t : TypeId)
    (ho : o.op = .call { callee := .builtin .append, args := #[s, x], argTypes := #[t, t] })
    (base : Nat) (e : TypeId) (i : TypeInfo) (ht : P.underlying t = some (.slice e)) (hi : P.info? e = some i) (hz : i.zero = some (.int .u8 0)) (hsize : i.size = 1) (hby : i.bytes = 1)
    (v : Value) (l : List Nat) (n : Nat) (hs : a.eval s = v) (hown : w.ownsRow base e 1 v n (cellsB l))
    (ao : Option Addr) (m c : Nat) (r : List Nat) (hx : a.eval x = .slice ao m c) (hm : m = r.length) (hn : ao = none → c = 0) (hr : IsB w ao r)
    (h47 : n + m ≤ 140737488355328) (hbase : base ≤ w.heap.size)
    (h : ∀ v' w', w'.ownsRow base e 1 v' (n + m) (cellsB (l ++ r)) → w.grownBy w' v.ownBlock → (v ≠ .slice none 0 0 → v' ≠ .slice none 0 0) → wpList P ops Q rest (a.put o.dst v') w') : wpList P ops Q (o :: rest) a w := by
  subst hm
  cases ao with
  | none =>
    have hr0 := hr.none
    subst hr0
    obtain rfl := hn rfl
    refine wpList_append_own_none hgd s x t ho base e i 1 ht hi v n _ hs hown hx (h v w (by simpa using hown) (World.grownBy.refl _ _) (fun h => h))
  | some ad =>
    refine wpList_append_own w hgd s x t ho base e i (.int .u8 0) 1 1 ht hi hz hsize hby rfl (by omega) v n _ hs hown ad r.length c (cellsB r) hx (by rw [cellsB_length]; omega) (news_of hr ad rfl) (cellsB_one r) (by unfold maxLen; omega) (by omega) hbase fun v' w' h2 h3 h4 => h v' w' (by rw [cellsB_append]; exact h2) h3 (fun hv hv' => hv (h4.1 hv').1)
theorem isB_new {w : World} {y : Int} {x : Nat} {T : TypeId} (hy : y = x) (hx : x < 256) : IsB (w.alloc (.cells #[.int .u8 y] T)) (some ⟨w.heap.size, 0, none⟩) [x] := by
  subst hy
  refine IsB.some ⟨by simp, fun i z hz => ?_⟩ (by simpa using hx)
  rw [World.cell?_alloc_at _ _ _ _ rfl]
  cases i with
  | zero => simp at hz; subst hz; rfl
  | succ i => simp at hz
theorem or128 (n : Nat) : bits .or .u8 ((n : Int) % 256) 128 = ((n % 128 + 128 : Nat) : Int) := by
  have e : ((n : Int) % 256) = ((n % 256 : Nat) : Int) := by omega
  rw [e]
  have h := u8_or_nat (n % 256) 128 (by omega) (by omega)
  rw [show ((128 : Nat) : Int) = 128 by rfl] at h
  rw [h]
  congr 1
  have h2 : n % 256 % 128 + 2 ^ 7 * (n % 256 / 128) = n % 256 := by omega
  have h3 := Nat.two_pow_add_eq_or_of_lt (i := 7) (b := n % 256 % 128) (by omega) (n % 256 / 128)
  rcases (show n % 256 / 128 = 0 ∨ n % 256 / 128 = 1 by omega) with h4 | h4
  · have : n % 256 = n % 128 := by omega
    rw [this, Nat.or_comm]
    have := Nat.two_pow_add_eq_or_of_lt (i := 7) (b := n % 128) (by omega) 1
    simp at this
    omega
  · have e5 : n % 256 = 128 + n % 128 := by omega
    have := Nat.two_pow_add_eq_or_of_lt (i := 7) (b := n % 128) (by omega) 1
    simp at this
    rw [e5, this, Nat.or_comm (128 ||| n % 128), ← Nat.or_assoc, Nat.or_self]
    omega

end Byt
end Go.Proofs.YtkebbmdghnplmaaDoor
namespace Go.Proofs.YtkebbmdghnplmaaDoor
namespace Opn
open Go.ChangeShapes Go.WideShapes Go.ChangeAt Go.RowKit CMath Byt
set_option linter.unusedVariables false
set_option maxRecDepth 100000

theorem own : ownKnob Tryd.prog.godebug = none := by kernel_rfl
theorem laidOut : laidOutB Tryd.prog = true := by kernel_rfl
theorem cells8 : Tryd.prog.cellsOf 5 = 1 := by kernel_rfl
theorem bytes8 : Tryd.prog.bytesOf 5 = 1 := by kernel_rfl

section
variable {H : Type} {enc : TypeId × Value → H} {w : World} {base : Nat} {spare : Nat → Bool} {held : Bool} {r : Reach} {b0 : Nat}

theorem byte_wf {x : Int} (h : (Lit.int .u8 x).wf = true) : 0 ≤ x ∧ x < 256 := by
  have h1 : IntKind.u8.min = 0 := rfl
  have h2 : IntKind.u8.max = 255 := rfl
  simp only [Lit.wf, Bool.and_eq_true, decide_eq_true_eq] at h
  omega
theorem u64_wf {x : Int} (h : (Lit.int .u64 x).wf = true) : ∃ n : Nat, x = n ∧ n < 18446744073709551616 := by
  have h1 : IntKind.u64.min = 0 := rfl
  have h2 : IntKind.u64.max = 18446744073709551615 := rfl
  simp only [Lit.wf, Bool.and_eq_true, decide_eq_true_eq] at h
  exact ⟨x.toNat, by omega, by omega⟩
theorem i64_wf {x : Int} (h : (Lit.int .i64 x).wf = true) : -9223372036854775808 ≤ x ∧ x ≤ 9223372036854775807 := by
  have h1 : IntKind.i64.min = -9223372036854775808 := rfl
  have h2 : IntKind.i64.max = 9223372036854775807 := rfl
  simp only [Lit.wf, Bool.and_eq_true, decide_eq_true_eq] at h
  omega

/-- An argument of bytes. -/
theorem bytes {v : Value} {d : DataW H} {p : List MemPlace} (hv : Value.okWide Tryd.prog w r b0 22 v) (h : DataW.Trod enc Tryd.prog w base spare held 22 v d p) :
    ∃ (a : Option Addr) (cap : Nat) (l : List Nat), v = .slice a l.length cap ∧ IsB w a l ∧ (a = none → cap = 0) ∧ l.length ≤ cap ∧ cap ≤ 9223372036854775807 ∧ (l = [] ∨ ∃ es sp, d = .slice es sp ∧ es.length = l.length) := by
  obtain ⟨a0, len, cap, rfl⟩ := okWide_slice Tryd.underlying22 hv
  obtain ⟨fuel, hf⟩ := h
  rcases open_ints Tryd.underlying22 Tryd.underlying5 cells8 hf with ⟨hcs, hx⟩ | ⟨a, len', cap', zs, hcs, _, hl, hm, hz, hx, hcell, hwz⟩
  · simp [Value.cells] at hcs
    obtain ⟨rfl, rfl, rfl⟩ := hcs
    exact ⟨none, 0, [], rfl, IsB.nil _ _, fun _ => rfl, Nat.le_refl _, Nat.zero_le _, .inl rfl⟩
  · simp [Value.cells] at hcs
    obtain ⟨rfl, rfl, rfl⟩ := hcs
    simp only [Prod.mk.injEq] at hx
    obtain ⟨rfl, rfl⟩ := hx
    have hlm : len ≤ zs.length := by rw [hz]; split <;> omega
    have hlen : ((zs.take len).map Int.toNat).length = len := by simp; omega
    refine ⟨some a, cap, (zs.take len).map Int.toNat, by rw [hlen], ⟨fun hne => ?_, ?_⟩, fun e => (by cases e), (by rw [hlen]; exact hl), hm, .inr ⟨_, _, rfl, by simp [lits]⟩⟩
    · have h0 : 0 < len := by
        rcases Nat.eq_zero_or_pos len with rfl | h0
        · simp at hne
        · exact h0
      obtain ⟨b, off, sp⟩ := a
      have hsp : sp = none := by
        have := World.cell?_spot (hcell 0 (by omega))
        simpa [Addr.add] using this
      subst hsp
      refine ⟨b, off, rfl, ?_, fun i x hx' => ?_⟩
      · have := World.block_lt_of_cell? w _ (hcell 0 (by omega))
        simpa [Addr.add] using this
      · have hi : i < len := by
          have := (List.getElem?_eq_some_iff.1 hx').1
          rw [hlen] at this
          exact this
        have q := hcell i (by omega)
        rw [add_plain'] at q
        rw [q]
        have hzi : i < zs.length := by omega
        have e : x = (zs[i]).toNat := by
          simp [hi, hzi] at hx'
          exact hx'.symm
        have hb := byte_wf (hwz _ (List.getElem_mem hzi))
        have e2 : zs.getD i 0 = ((x : Nat) : Int) := by
          rw [e]
          simp [List.getD, hzi]
          omega
        rw [e2]
    · intro x hx'
      obtain ⟨y, hy, rfl⟩ := List.mem_map.1 hx'
      have hb := byte_wf (hwz y (List.mem_of_mem_take hy))
      omega
theorem reach {P : Program} {ts : List TypeId} {ds : List (DataW H)} {t e : TypeId} {l : List Nat} {d : DataW H} {j : Nat} (hsz : (DataW.weightsEach P ts ds).all (· ≤ reachBytes) = true) (ht : ts[j]? = some t) (hd : ds[j]? = some d) (hu : P.underlying t = some (.slice e)) (hb : P.bytesOf e = 1)
    (h : l = [] ∨ ∃ es sp, d = .slice es sp ∧ es.length = l.length) : l.length + 4096 ≤ 140737488355328 := by
  rcases h with rfl | ⟨es, sp, rfl, h⟩
  · simp
  · have := sized_slice hsz ht hd hu
    rw [hb] at this
    simp only [reachBytes] at this
    omega
end
end Opn
end Go.Proofs.YtkebbmdghnplmaaDoor
namespace Go.Proofs.YtkebbmdghnplmaaDoor
namespace Cod
open Go.RowKit CMath Byt
set_option linter.unusedVariables false
set_option maxRecDepth 20000

theorem info8 : (Tryd.prog.info? 5).map (fun i => (i.zero, i.size, i.bytes)) = some (some (.int .u8 0), 1, 1) := by kernel_rfl

theorem below_of {base : Nat} {w w1 w' : World} {row : Option Nat} (h : Below base w w1) (hg : w1.grownBy w' row) (hb : base ≤ w.heap.size) (hr : ∀ k, row = some k → base ≤ k) : Below base w w' :=
  h.grown hg (Nat.le_trans hb h.size) hr

set_option maxHeartbeats 1000000 in
theorem grown_any (a : Option Addr) (cap k : Nat) (l : List Nat) (w : World) (h : IsB w a l) (hn : a = none → cap = 0) (hk : l.length + k ≤ 140737488355328) :
    Calls Tryd.prog 98 #[.slice a l.length cap, .int .i64 k] w fun e w' => ∃ v, e = .returned v ∧ Own 5 w.heap.size w' v l ∧ Below w.heap.size w w' := by
  obtain ⟨i8, hi, hz0, hz1, hz2⟩ := info_parts info8
  have HI : Hid (IsB w a l) := h
  have HN : Hid (a = none → cap = 0) := hn
  clear h hn
  go_enter Tryd.func98, Tryd.ntmps98
  go_wp2_with (first | (at_make; refine wpList_make_own _ rfl _ _ 22 rfl w.heap.size 5 i8 _ 1 Tryd.underlying22 hi hz0 hz1 _ _ _ (l.length + k) rfl rfl (by omega) (by rw [hz2]; omega) (by unfold maxLen; omega) (Nat.le_refl _) ?_; intro w1 hown1 hgr1; have HG1 : Hid (w.grownBy w1 none) := hgr1; have HO1 : Hid (w1.ownsRow w.heap.size 5 1 _ 0 []) := hown1; clear hgr1 hown1; have HB1 : Hid (Below w.heap.size w w1) := below_of (Below.refl _ _) HG1.out (Nat.le_refl _) (by simp); have HI1 : Hid (IsB w1 a l) := HI.out.below HB1.out) | (at_builtin; refine wpList_appB (by rfl) (.tmp 9) (.tmp 10) 22 (by rfl) w.heap.size 5 i8 Tryd.underlying22 hi hz0 hz1 hz2 _ [] 0 (by rfl) HO1.out a l.length cap l (by rfl) rfl HN.out HI1.out (by omega) HB1.out.size ?_; intro v2 w2 hown2 hgr2 hnn2; have HG2 : Hid (w1.grownBy w2 _) := hgr2; have HO2 : Hid (w2.ownsRow w.heap.size 5 1 v2 (0 + l.length) (cellsB l)) := hown2; have HNN : Hid (v2 ≠ .slice none 0 0) := hnn2 (by simp); clear hgr2 hown2 hnn2))
  go_ret
  exact ⟨v2, rfl, Own.mk' HO2.out HI.out.2 HNN.out, below_of HB1.out HG2.out (Nat.le_refl _) (fun j hj => (HO1.out.lt j hj).1)⟩

theorem grown_int (a : Option Addr) (cap k : Nat) (K : Int) (l : List Nat) (w : World) (hK : K = k) (h : IsB w a l) (hn : a = none → cap = 0) (hk : l.length + k ≤ 140737488355328) :
    Calls Tryd.prog 98 #[.slice a l.length cap, .int .i64 K] w fun e w' => ∃ v, e = .returned v ∧ Own 5 w.heap.size w' v l ∧ Below w.heap.size w w' := by
  subst hK
  exact grown_any a cap k l w h hn hk

theorem quo128 (m : Nat) : (m : Int) / 128 = ((m / 128 : Nat) : Int) := by omega
theorem shr7 (m : Nat) : (m : Int) / 2 ^ 7 = ((m / 128 : Nat) : Int) := by omega

set_option maxHeartbeats 1000000 in
theorem appendUint_any (base : Nat) (v : Value) (pre : List Nat) (n : Nat) (w : World) (hown : w.ownsRow base 5 1 v pre.length (cellsB pre)) (hpre : ∀ x ∈ pre, x < 256) (hn : n < 18446744073709551616) (hbase : base ≤ w.heap.size) (hk : pre.length + 10 ≤ 140737488355328) :
    Calls Tryd.prog 97 #[v, .int .u64 n] w fun e w' => ∃ v, e = .returned v ∧ Own 5 base w' v (pre ++ num n) ∧ Below base w w' := by
  obtain ⟨i8, hi, hz0, hz1, hz2⟩ := info_parts info8
  have h10 := num_le10 hn
  have HO : Hid (w.ownsRow base 5 1 v pre.length (cellsB pre)) := hown
  have HP : Hid (∀ x ∈ pre, x < 256) := hpre
  clear hown hpre
  go_enter Tryd.func97, Tryd.ntmps97
  go_wp2
  go_loopw [0, 1] (fun v i wr => ∃ (q : List Nat) (m : Nat), q ++ num m = pre ++ num n ∧ i = .int .u64 m ∧ m < 18446744073709551616 ∧ wr.ownsRow base 5 1 v q.length (cellsB q) ∧ Below base w wr) (fun _ i _ => (intOf i).toNat)
  case atStart => exact ⟨pre, n, rfl, rfl, hn, HO.out, Below.refl _ _⟩
  case round =>
    obtain ⟨q, m, hq, rfl, hm, hown, hbe⟩ := hrel
    have hsz := hbe.size
    have HQ : Hid (q ++ num m = pre ++ num n) := hq
    have hlen : q.length + (num m).length = pre.length + (num n).length := by simpa using congrArg List.length hq
    have hpos := num_pos m
    have HW : Hid (wr.ownsRow base 5 1 _ q.length (cellsB q)) := hown
    have HB : Hid (Below base w wr) := hbe
    clear hq hown hbe
    by_cases hlt : m < 128
    · have e1 : num m = [m] := num_small hlt
      go_wp2_with (at_builtin; refine wpList_appB (by rfl) (.tmp 15) (.tmp 18) 22 (by rfl) base 5 i8 Tryd.underlying22 hi hz0 hz1 hz2 _ q q.length (by rfl) (HW.out.alloc _) (some ⟨wr.heap.size, 0, none⟩) 1 1 [m] (by rfl) rfl (by simp) (isB_new (by omega) (by omega)) (by omega) (by simp; omega) ?_; intro v2 w2 hown2 hgr2 hnn2; have HG2 : Hid ((wr.alloc _).grownBy w2 _) := hgr2; have HO2 : Hid (w2.ownsRow base 5 1 v2 (q.length + 1) (cellsB (q ++ [m]))) := hown2; clear hgr2 hown2 hnn2)
      go_ret
      have hall : ∀ x ∈ pre ++ num n, x < 256 := by
        intro x hx
        rcases List.mem_append.1 hx with hx | hx
        · exact HP.out x hx
        · exact num_byte n x hx
      refine ⟨v2, rfl, ?_, below_of (HB.out.alloc (by omega) _) HG2.out (by omega) (fun j hj => (HW.out.lt j hj).1)⟩
      rw [← HQ.out, e1] at hall ⊢
      exact Own.pos HO2.out hall (by omega)
    · have e1 : num m = (m % 128 + 128) :: num (m / 128) := num_great hlt
      go_wp2_with (at_builtin; refine wpList_appB (by rfl) (.tmp 7) (.tmp 11) 22 (by rfl) base 5 i8 Tryd.underlying22 hi hz0 hz1 hz2 _ q q.length (by rfl) (HW.out.alloc _) (some ⟨wr.heap.size, 0, none⟩) 1 1 [m % 128 + 128] (by rfl) rfl (by simp) (isB_new (or128 m) (by omega)) (by omega) (by simp; omega) ?_; intro v2 w2 hown2 hgr2 hnn2; have HG2 : Hid ((wr.alloc _).grownBy w2 _) := hgr2; have HO2 : Hid (w2.ownsRow base 5 1 v2 (q.length + 1) (cellsB (q ++ [m % 128 + 128]))) := hown2; clear hgr2 hown2 hnn2)
      go_roundw
      case rel =>
        refine ⟨q ++ [m % 128 + 128], m / 128, ?_, by rw [quo128], by omega, by simpa using HO2.out, below_of (HB.out.alloc (by omega) _) HG2.out (by omega) (fun j hj => (HW.out.lt j hj).1)⟩
        rw [← HQ.out, e1]; simp
      case measure => simp [intOf]; omega

set_option maxHeartbeats 1000000 in
theorem number_any (n : Nat) (w : World) (hn : n < 18446744073709551616) :
    Calls Tryd.prog 64 #[.int .u64 n] w fun e w' => ∃ v, e = .returned v ∧ Own 5 w.heap.size w' v (num n) ∧ Below w.heap.size w w' := by
  obtain ⟨i8, hi, hz0, hz1, hz2⟩ := info_parts info8
  have h10 := num_le10 hn
  go_enter Tryd.func64, Tryd.ntmps64
  go_wp2
  go_loopw [3, 0] (fun v i wr => ∃ (q : List Nat) (m : Nat), q ++ num m = num n ∧ i = .int .u64 m ∧ m < 18446744073709551616 ∧ wr.ownsRow w.heap.size 5 1 v q.length (cellsB q) ∧ Below w.heap.size w wr) (fun _ i _ => (intOf i).toNat)
  case atStart => exact ⟨[], n, rfl, rfl, hn, World.ownsRow_nil _ _ _ _, Below.refl _ _⟩
  case round =>
    obtain ⟨q, m, hq, rfl, hm, hown, hbe⟩ := hrel
    have hsz := hbe.size
    have HQ : Hid (q ++ num m = num n) := hq
    have hlen : q.length + (num m).length = (num n).length := by simpa using congrArg List.length hq
    have hpos := num_pos m
    have HW : Hid (wr.ownsRow w.heap.size 5 1 _ q.length (cellsB q)) := hown
    have HB : Hid (Below w.heap.size w wr) := hbe
    clear hq hown hbe
    by_cases hlt : m < 128
    · have e1 : num m = [m] := num_small hlt
      go_wp2_with (at_builtin; refine wpList_appB (by rfl) (.tmp 15) (.tmp 18) 22 (by rfl) w.heap.size 5 i8 Tryd.underlying22 hi hz0 hz1 hz2 _ q q.length (by rfl) (HW.out.alloc _) (some ⟨wr.heap.size, 0, none⟩) 1 1 [m] (by rfl) rfl (by simp) (isB_new (by omega) (by omega)) (by omega) (by simp; omega) ?_; intro v2 w2 hown2 hgr2 hnn2; have HG2 : Hid ((wr.alloc _).grownBy w2 _) := hgr2; have HO2 : Hid (w2.ownsRow w.heap.size 5 1 v2 (q.length + 1) (cellsB (q ++ [m]))) := hown2; clear hgr2 hown2 hnn2)
      go_ret
      have hall : ∀ x ∈ num n, x < 256 := num_byte n
      refine ⟨v2, rfl, ?_, below_of (HB.out.alloc (by omega) _) HG2.out (by omega) (fun j hj => (HW.out.lt j hj).1)⟩
      rw [← HQ.out, e1] at hall ⊢
      exact Own.pos HO2.out hall (by omega)
    · have e1 : num m = (m % 128 + 128) :: num (m / 128) := num_great hlt
      go_wp2_with (at_builtin; refine wpList_appB (by rfl) (.tmp 6) (.tmp 11) 22 (by rfl) w.heap.size 5 i8 Tryd.underlying22 hi hz0 hz1 hz2 _ q q.length (by rfl) (HW.out.alloc _) (some ⟨wr.heap.size, 0, none⟩) 1 1 [m % 128 + 128] (by rfl) rfl (by simp) (isB_new (by omega) (by omega)) (by omega) (by simp; omega) ?_; intro v2 w2 hown2 hgr2 hnn2; have HG2 : Hid ((wr.alloc _).grownBy w2 _) := hgr2; have HO2 : Hid (w2.ownsRow w.heap.size 5 1 v2 (q.length + 1) (cellsB (q ++ [m % 128 + 128]))) := hown2; clear hgr2 hown2 hnn2)
      go_roundw
      case rel =>
        refine ⟨q ++ [m % 128 + 128], m / 128, ?_, by rw [quo128], by omega, by simpa using HO2.out, below_of (HB.out.alloc (by omega) _) HG2.out (by omega) (fun j hj => (HW.out.lt j hj).1)⟩
        rw [← HQ.out, e1]; simp
      case measure => simp [intOf]; omega

set_option maxHeartbeats 1000000 in
theorem putUint_any (a : Option Addr) (cap : Nat) (l : List Nat) (n : Nat) (w : World) (h : IsB w a l) (hc : a = none → cap = 0) (hk : l.length + 10 ≤ 140737488355328) (hn : n < 18446744073709551616) :
    Calls Tryd.prog 91 #[.slice a l.length cap, .int .u64 n] w fun e w' => ∃ v, e = .returned v ∧ Own 5 w.heap.size w' v (l ++ num n) ∧ Below w.heap.size w w' := by
  have HI : Hid (IsB w a l) := h
  have HN : Hid (a = none → cap = 0) := hc
  clear h hc
  go_enter Tryd.func91, Tryd.ntmps91
  go_wp2_with (first | (go_at_call 98; refine (grown_int a cap 10 _ l w rfl HI.out HN.out hk).mono ?_; rintro e w1 ⟨v1, rfl, ho1, hb1⟩; have HO1 : Hid (Own 5 w.heap.size w1 v1 l) := ho1; have HB1 : Hid (Below w.heap.size w w1) := hb1; clear ho1 hb1) | (go_at_call 97; refine (appendUint_any w.heap.size v1 l n w1 HO1.out.row HO1.out.byte hn HB1.out.size hk).mono ?_; rintro e w2 ⟨v2, rfl, ho2, hb2⟩; have HO2 : Hid (Own 5 w.heap.size w2 v2 (l ++ num n)) := ho2; have HB2 : Hid (Below w.heap.size w1 w2) := hb2; clear ho2 hb2))
  go_ret
  exact ⟨v2, rfl, HO2.out, HB1.out.trans HB2.out⟩

theorem putUint_n (a : Option Addr) (cap m : Nat) (l : List Nat) (n : Nat) (w : World) (h : IsB w a l) (hc : a = none → cap = 0) (hk : l.length + 10 ≤ 140737488355328) (hn : n < 18446744073709551616) (hm : m = l.length) :
    Calls Tryd.prog 91 #[.slice a m cap, .int .u64 n] w fun e w' => ∃ v, e = .returned v ∧ Own 5 w.heap.size w' v (l ++ num n) ∧ Below w.heap.size w w' := by
  subst hm
  exact putUint_any a cap l n w h hc hk hn

end Cod
end Go.Proofs.YtkebbmdghnplmaaDoor
namespace Go.Proofs.YtkebbmdghnplmaaDoor
namespace Cod
open Go.RowKit CMath Byt
set_option linter.unusedVariables false
set_option maxRecDepth 20000

/-- A slice of bytes of the call's own, which may be nil. -/
structure New (T base : Nat) (w : World) (a : Option Addr) (c : Nat) (l : List Nat) : Prop where
  row : w.ownsRow base T 1 (.slice a l.length c) l.length (cellsB l)
  byte : ∀ x ∈ l, x < 256
theorem New.of {T base : Nat} {w : World} {v : Value} {n : Nat} {l : List Nat} (h : w.ownsRow base T 1 v n (cellsB l)) (hl : ∀ x ∈ l, x < 256) : ∃ a c, v = .slice a l.length c ∧ New T base w a c l := by
  obtain ⟨hn, ⟨h1, h2⟩ | ⟨g, c, h1, _⟩⟩ := isB_of_own h hl
  · refine ⟨none, 0, by rw [h1, h2]; rfl, ⟨?_, hl⟩⟩
    rw [hn] at h
    rw [h1] at h
    rw [h2] at h ⊢
    exact h
  · refine ⟨some ⟨g, 0, none⟩, c, by rw [h1, hn], ⟨?_, hl⟩⟩
    rw [h1, hn] at h
    exact h
theorem New.isB {T base : Nat} {w : World} {a : Option Addr} {c : Nat} {l : List Nat} (h : New T base w a c l) : IsB w a l := by
  obtain ⟨hn, ⟨h1, h2⟩ | ⟨g, c, h1, _, _, h3⟩⟩ := isB_of_own h.row h.byte
  · rw [h2]; exact IsB.nil _ _
  · cases h1
    exact IsB.some h3 h.byte
theorem New.cap {T base : Nat} {w : World} {a : Option Addr} {c : Nat} {l : List Nat} (h : New T base w a c l) : a = none → c = 0 := by
  intro e
  subst e
  rcases h.row.2 with ⟨h1, _⟩ | ⟨g, c, cur, h1, _⟩
  · simp at h1; exact h1.2
  · simp at h1
theorem New.le {T base : Nat} {w : World} {a : Option Addr} {c : Nat} {l : List Nat} (h : New T base w a c l) : l.length ≤ c := by
  rcases h.row.2 with ⟨h1, h2⟩ | ⟨g, c, cur, h1, _, _, h5, _⟩
  · omega
  · cases h1; exact h5
theorem New.max {T base : Nat} {w : World} {a : Option Addr} {c : Nat} {l : List Nat} (h : New T base w a c l) : c ≤ 9223372036854775807 := by
  rcases h.row.2 with ⟨h1, h2⟩ | ⟨g, c, cur, h1, _, _, _, h5, _⟩
  · simp at h1; omega
  · cases h1; exact h5
theorem New.below {T base : Nat} {w w' : World} {a : Option Addr} {c : Nat} {l : List Nat} (h : New T base w a c l) (hb : Below w.heap.size w w') : New T base w' a c l := by
  refine ⟨⟨h.row.1, ?_⟩, h.byte⟩
  rcases h.row.2 with h2 | ⟨g, cap, cur, hv, hg, hh, hr⟩
  · exact .inl h2
  · exact .inr ⟨g, cap, cur, hv, hg, (hb.block g (h.row.lt g (by rw [hv]; rfl)).2).trans hh, hr⟩
theorem New.lower {T base base' : Nat} {w : World} {a : Option Addr} {c : Nat} {l : List Nat} (h : New T base w a c l) (hb : base' ≤ base) : New T base' w a c l := by
  refine ⟨⟨h.row.1, ?_⟩, h.byte⟩
  rcases h.row.2 with h2 | ⟨g, cap, cur, hv, hg, hr⟩
  · exact .inl h2
  · exact .inr ⟨g, cap, cur, hv, by omega, hr⟩
theorem New.ofOwn {T base : Nat} {w : World} {v : Value} {l : List Nat} (h : Own T base w v l) : ∃ a c, v = .slice a l.length c ∧ New T base w a c l := New.of h.row h.byte

theorem byte_app {l r : List Nat} (hl : ∀ x ∈ l, x < 256) (hr : ∀ x ∈ r, x < 256) : ∀ x ∈ l ++ r, x < 256 := by
  intro x hx
  rcases List.mem_append.1 hx with hx | hx
  · exact hl x hx
  · exact hr x hx

set_option maxHeartbeats 1000000 in
theorem same_any (a b : Option Addr) (ca cb n m : Nat) (l : List Nat) (w : World) (ha : IsB w a l) (hb : IsB w b l) (hlen : l.length ≤ 9223372036854775807) (hn : n = l.length) (hm : m = l.length) :
    Calls Tryd.prog 15 #[.slice a n ca, .slice b m cb] w fun e w' => e = .returned (.bool true) ∧ ∃ n, w' = w.drewN n := by
  subst hn
  subst hm
  have HA : Hid (l ≠ [] → ∃ b off, a = some ⟨b, off, none⟩ ∧ BRow w b off l) := ha.1
  have HB : Hid (l ≠ [] → ∃ b' off, b = some ⟨b', off, none⟩ ∧ BRow w b' off l) := hb.1
  clear ha hb
  go_enter Tryd.func15, Tryd.ntmps15
  go_wp2
  go_loopw [5] (fun i wr => ∃ k n : Nat, k ≤ l.length ∧ i = .int .i64 k ∧ wr = w.drewN n) (fun i _ => l.length - (intOf i).toNat)
  case atStart => exact ⟨0, 0, Nat.zero_le _, rfl, rfl⟩
  case round =>
    obtain ⟨k, n, hk, rfl, rfl⟩ := hrel
    by_cases hlt : k < l.length
    · have hne : l ≠ [] := by intro e; rw [e] at hlt; simp at hlt
      obtain ⟨b1, o1, rfl, hr1⟩ := HA.out hne
      obtain ⟨b2, o2, rfl, hr2⟩ := HB.out hne
      obtain ⟨x, hx⟩ : ∃ x, l[k]? = some x := ⟨_, List.getElem?_eq_getElem hlt⟩
      have c0 := hr1.2 k _ hx
      have e0 := hr2.2 k _ hx
      have q1 : (k : Int) < (l.length : Int) := by omega
      clear hx hne
      go_wp2
      go_quiet (fail)
      go_wp2
      go_roundw
      case rel => exact ⟨k + 1, _, by omega, by go_num, rfl⟩
      case measure => simp [intOf]; omega
    · go_wp2
      go_ret
      exact ⟨rfl, _, rfl⟩

end Cod
end Go.Proofs.YtkebbmdghnplmaaDoor
namespace Go.Proofs.YtkebbmdghnplmaaDoor
namespace Laws
open Go.RowKit
set_option linter.unusedVariables false

/-- append onto a slice of the call's own, which is not nil or gets something: where the new slice lies. -/
theorem run_app {P : Program} (w : World) (t ty : TypeId) (base : Nat) (e : TypeId) (i : TypeInfo) (z : Value) (size bytes : Nat) (ht : P.underlying t = some (.slice e)) (hi : P.info? e = some i) (hz : i.zero = some z)
    (hsize : i.size = size) (hby : i.bytes = bytes) (hzs : z.cells.size = size) (hsz : 0 < size)
    (v : Value) (n : Nat) (xs : List Value) (hown : w.ownsRow base e size v n xs)
    (ad : Addr) (m c : Nat) (news : List Value) (hl : news.length = m * size) (hnews : ∀ j u, news[j]? = some u → w.cell? (ad.add j) = some u) (h1 : ∀ u ∈ news, u.oneCell' = true)
    (hne : v = .slice none 0 0 → 0 < m) (h63 : n + m ≤ maxLen) (hbytes : (n + m) * bytes ≤ 140737488355328) (hbase : base ≤ w.heap.size) (H : Nat) (hH : w.heap.size = H) :
    ∃ g cap w', (Builtin.append_ #[t, t] ty #[v, .slice (some ad) m c]).run P w = .ok (.slice (some ⟨g, 0, none⟩) (n + m) cap) w' ∧
      w'.ownsRow base e size (.slice (some ⟨g, 0, none⟩) (n + m) cap) (n + m) (xs ++ news) ∧ w.grownBy w' v.ownBlock ∧ (v.ownBlock = some g ∨ g = H) ∧ g < w'.heap.size := by
  obtain ⟨v', w', hr, h2, h3, h4, h5⟩ := run_append_own_at (P := P) w base t ty e i z size bytes ht hi hz hsize hby hzs hsz v n xs hown ad m c news hl hnews h1 h63 hbytes hbase
  rcases h2.2 with ⟨hv, _⟩ | ⟨g, cap, cur, hv, _⟩
  · obtain ⟨e1, e2⟩ := h4.1 hv
    have := hne e1
    omega
  · subst hv
    refine ⟨g, cap, w', hr, h2, h3, ?_, (h2.lt g rfl).2⟩
    rcases h5 with h5 | h5
    · exact .inl (by rw [← h5]; rfl)
    · right
      have : g = w.heap.size := by simpa [Value.ownBlock] using h5
      rw [this, hH]

theorem wp_app {P : Program} (w : World) {o : Oper} {a : Act} {K : Act → World → Prop} {Q : Exit → Act → World → Prop} (s x : Operand) (t : TypeId)
    (ho : o.op = .call { callee := .builtin .append, args := #[s, x], argTypes := #[t, t] })
    (base : Nat) (e : TypeId) (i : TypeInfo) (z : Value) (size bytes : Nat) (ht : P.underlying t = some (.slice e)) (hi : P.info? e = some i) (hz : i.zero = some z)
    (hsize : i.size = size) (hby : i.bytes = bytes) (hzs : z.cells.size = size) (hsz : 0 < size)
    (v : Value) (n : Nat) (xs : List Value) (hs : a.eval s = v) (hown : w.ownsRow base e size v n xs)
    (ad : Addr) (m c : Nat) (news : List Value) (hx : a.eval x = .slice (some ad) m c) (hl : news.length = m * size) (hnews : ∀ j u, news[j]? = some u → w.cell? (ad.add j) = some u) (h1 : ∀ u ∈ news, u.oneCell' = true)
    (hne : v = .slice none 0 0 → 0 < m) (h63 : n + m ≤ maxLen) (hbytes : (n + m) * bytes ≤ 140737488355328) (hbase : base ≤ w.heap.size) (H : Nat) (hH : w.heap.size = H)
    (h : ∀ g cap w', w'.ownsRow base e size (.slice (some ⟨g, 0, none⟩) (n + m) cap) (n + m) (xs ++ news) → w.grownBy w' v.ownBlock → (v.ownBlock = some g ∨ g = H) → g < w'.heap.size → K (a.put o.dst (.slice (some ⟨g, 0, none⟩) (n + m) cap)) w') : o.wp P a w K Q := by
  obtain ⟨g, cap, w', hr, h2, h3, h4, h5⟩ := run_app (P := P) w t o.type base e i z size bytes ht hi hz hsize hby hzs hsz v n xs hown ad m c news hl hnews h1 hne h63 hbytes hbase H hH
  unfold Oper.wp execOp
  simp only [ho, resolve, invoke, builtin, Sem.run_bind, Sem.run_pure, Result.andThen_ok, List.map_toArray, List.map_cons, List.map_nil, hs, hx, hr]
  exact h g cap w' h2 h3 h4 h5

theorem wpList_app {P : Program} (w : World) {ops : Array Oper} {rest : List Oper} {o : Oper} {a : Act} {Q : Exit → Act → World → Prop} (hgd : o.guard = none) (s x : Operand) (t : TypeId)
    (ho : o.op = .call { callee := .builtin .append, args := #[s, x], argTypes := #[t, t] })
    (base : Nat) (e : TypeId) (i : TypeInfo) (z : Value) (size bytes : Nat) (ht : P.underlying t = some (.slice e)) (hi : P.info? e = some i) (hz : i.zero = some z)
    (hsize : i.size = size) (hby : i.bytes = bytes) (hzs : z.cells.size = size) (hsz : 0 < size)
    (v : Value) (n : Nat) (xs : List Value) (hs : a.eval s = v) (hown : w.ownsRow base e size v n xs)
    (ad : Addr) (m c : Nat) (news : List Value) (hx : a.eval x = .slice (some ad) m c) (hl : news.length = m * size) (hnews : ∀ j u, news[j]? = some u → w.cell? (ad.add j) = some u) (h1 : ∀ u ∈ news, u.oneCell' = true)
    (hne : v = .slice none 0 0 → 0 < m) (h63 : n + m ≤ maxLen) (hbytes : (n + m) * bytes ≤ 140737488355328) (hbase : base ≤ w.heap.size) (H : Nat) (hH : w.heap.size = H)
    (h : ∀ g cap w', w'.ownsRow base e size (.slice (some ⟨g, 0, none⟩) (n + m) cap) (n + m) (xs ++ news) → w.grownBy w' v.ownBlock → (v.ownBlock = some g ∨ g = H) → g < w'.heap.size → wpList P ops Q rest (a.put o.dst (.slice (some ⟨g, 0, none⟩) (n + m) cap)) w') : wpList P ops Q (o :: rest) a w :=
  wpList_plain hgd fun _ hK => wp_app w s x t ho base e i z size bytes ht hi hz hsize hby hzs hsz v n xs hs hown ad m c news hx hl hnews h1 hne h63 hbytes hbase H hH fun g cap w' h2 h3 h4 h5 => hK _ _ (h g cap w' h2 h3 h4 h5)

theorem step_app {P : Program} (w : World) {ops : Array Oper} {o : Oper} {a : Act} {K : Act → World → Prop} {Q : Exit → Act → World → Prop} {E : Prop} (hgd : o.guard = none) (s x : Operand) (t : TypeId)
    (ho : o.op = .call { callee := .builtin .append, args := #[s, x], argTypes := #[t, t] })
    (base : Nat) (e : TypeId) (i : TypeInfo) (z : Value) (size bytes : Nat) (ht : P.underlying t = some (.slice e)) (hi : P.info? e = some i) (hz : i.zero = some z)
    (hsize : i.size = size) (hby : i.bytes = bytes) (hzs : z.cells.size = size) (hsz : 0 < size)
    (v : Value) (n : Nat) (xs : List Value) (hs : a.eval s = v) (hown : w.ownsRow base e size v n xs)
    (ad : Addr) (m c : Nat) (news : List Value) (hx : a.eval x = .slice (some ad) m c) (hl : news.length = m * size) (hnews : ∀ j u, news[j]? = some u → w.cell? (ad.add j) = some u) (h1 : ∀ u ∈ news, u.oneCell' = true)
    (hne : v = .slice none 0 0 → 0 < m) (h63 : n + m ≤ maxLen) (hbytes : (n + m) * bytes ≤ 140737488355328) (hbase : base ≤ w.heap.size) (H : Nat) (hH : w.heap.size = H)
    (h : ∀ g cap w', w'.ownsRow base e size (.slice (some ⟨g, 0, none⟩) (n + m) cap) (n + m) (xs ++ news) → w.grownBy w' v.ownBlock → (v.ownBlock = some g ∨ g = H) → g < w'.heap.size → K (a.put o.dst (.slice (some ⟨g, 0, none⟩) (n + m) cap)) w') :
    if Region.wanted o (yielded ops a.tmps) = true then Oper.wp P o a w K Q else E := by
  have hw : Region.wanted o (yielded ops a.tmps) = true := by simp [Region.wanted, hgd]
  rw [if_pos hw]
  exact wp_app w s x t ho base e i z size bytes ht hi hz hsize hby hzs hsz v n xs hs hown ad m c news hx hl hnews h1 hne h63 hbytes hbase H hH h

/-- All blocks but those named are as they were. -/
structure Keep (bs : List Nat) (w w' : World) : Prop where
  os : w'.os = w.os
  tape : w'.tape = w.tape
  output : w'.output = w.output
  size : w.heap.size ≤ w'.heap.size
  block : ∀ k, k < w.heap.size → k ∉ bs → w'.heap[k]? = w.heap[k]?
theorem Keep.refl (bs : List Nat) (w : World) : Keep bs w w := ⟨rfl, rfl, rfl, Nat.le_refl _, fun _ _ _ => rfl⟩
theorem Keep.trans {bs : List Nat} {a b c : World} (h : Keep bs a b) (k : Keep bs b c) : Keep bs a c :=
  ⟨k.os.trans h.os, k.tape.trans h.tape, k.output.trans h.output, Nat.le_trans h.size k.size, fun i hi hn => (k.block i (Nat.lt_of_lt_of_le hi h.size) hn).trans (h.block i hi hn)⟩
/-- Blocks that were not there before may be written besides. -/
theorem Keep.later {bs cs : List Nat} {a b c : World} (h : Keep bs a b) (k : Keep cs b c) (hc : ∀ x ∈ cs, x ∈ bs ∨ a.heap.size ≤ x) : Keep bs a c :=
  ⟨k.os.trans h.os, k.tape.trans h.tape, k.output.trans h.output, Nat.le_trans h.size k.size, fun i hi hn => (k.block i (Nat.lt_of_lt_of_le hi h.size) (fun hm => by
    rcases hc i hm with h1 | h1
    · exact hn h1
    · omega)).trans (h.block i hi hn)⟩
theorem Keep.mono {bs cs : List Nat} {a b : World} (h : Keep bs a b) (hs : ∀ x ∈ bs, x ∈ cs) : Keep cs a b := ⟨h.os, h.tape, h.output, h.size, fun i hi hn => h.block i hi fun hm => hn (hs i hm)⟩
theorem Keep.below {bs : List Nat} {a b : World} (h : Below a.heap.size a b) : Keep bs a b := ⟨h.os, h.tape, h.output, h.size, fun i hi _ => h.block i hi⟩
theorem Keep.alloc (bs : List Nat) (w : World) (o : Obj) : Keep bs w (w.alloc o) := Keep.below ((Below.refl _ _).alloc (Nat.le_refl _) _)
theorem Keep.drew (bs : List Nat) (w : World) : Keep bs w w.drew := Keep.below (Below.refl _ _).drew
theorem Keep.set (w : World) (R j : Nat) (u : Value) : Keep [R] w (w.setCell ⟨R, j, none⟩ u) := ⟨rfl, rfl, rfl, by simp, fun i _ hn => Below.heap_setCell _ _ _ _ (by intro e; exact hn (by simp [e]))⟩
theorem Keep.grown {w w' : World} {r : Option Nat} (h : w.grownBy w' r) : Keep r.toList w w' := ⟨h.os, h.tape, h.output, h.size, fun i hi hn => h.block i hi (fun e => hn (by rw [← e]; simp))⟩
theorem Keep.cell {bs : List Nat} {w w' : World} (h : Keep bs w w') {p : Addr} (hp : p.block < w.heap.size) (hn : p.block ∉ bs) : w'.cell? p = w.cell? p := World.cell?_of_block (h.block p.block hp hn)
theorem Keep.frozen {bs : List Nat} {w w' : World} (h : Keep bs w w') {p : Addr} (hp : p.block < w.heap.size) (hn : p.block ∉ bs) : w'.frozen? p = w.frozen? p := World.frozen?_of_block (h.block p.block hp hn)
theorem Keep.own {bs : List Nat} {w w' : World} (h : Keep bs w w') {v : Value} {l : List Value} {base : Nat} {e : TypeId} {size n : Nat} (ho : w.ownsRow base e size v n l) (hn : ∀ g, v.ownBlock = some g → g ∉ bs) : w'.ownsRow base e size v n l := by
  have hlt := ho.lt
  obtain ⟨h1, h2⟩ := ho
  refine ⟨h1, ?_⟩
  rcases h2 with h2 | ⟨g, cap, cur, hv, hg, hh, hr⟩
  · exact .inl h2
  · have hb : v.ownBlock = some g := by rw [hv]; rfl
    exact .inr ⟨g, cap, cur, hv, hg, (h.block g (hlt g hb).2 (hn g hb)).trans hh, hr⟩

end Laws
end Go.Proofs.YtkebbmdghnplmaaDoor
namespace Go.Proofs.YtkebbmdghnplmaaDoor
namespace Irw
open Go.RowKit Laws
set_option linter.unusedVariables false

/-- Ints that lie in a block. -/
def IRow (w : World) (b off : Nat) (l : List Int) : Prop := b < w.heap.size ∧ ∀ (i : Nat) (x : Int), l[i]? = some x → w.cell? ⟨b, off + i, none⟩ = some (.int .i64 x)
/-- What a slice of ints holds. -/
def IsI (w : World) (a : Option Addr) (l : List Int) : Prop := l ≠ [] → ∃ b off, a = some ⟨b, off, none⟩ ∧ IRow w b off l
theorem IRow.keep {w w' : World} {b off : Nat} {l : List Int} (h : IRow w b off l) (hb : w'.heap[b]? = w.heap[b]?) (hs : w.heap.size ≤ w'.heap.size) : IRow w' b off l :=
  ⟨Nat.lt_of_lt_of_le h.1 hs, fun i x hx => (World.cell?_of_block (w := w) (a := ⟨b, off + i, none⟩) hb).trans (h.2 i x hx)⟩
theorem IRow.below {w w' : World} {B b off : Nat} {l : List Int} (h : IRow w b off l) (hb : Below B w w') (hB : b < B) : IRow w' b off l := h.keep (hb.block b hB) hb.size
theorem IsI.below {w w' : World} {a : Option Addr} {l : List Int} (h : IsI w a l) (hb : Below w.heap.size w w') : IsI w' a l := fun hne => by
  obtain ⟨b, off, e, hr⟩ := h hne
  exact ⟨b, off, e, hr.below hb hr.1⟩
theorem IsI.nil (w : World) (a : Option Addr) : IsI w a [] := fun h => absurd rfl h
theorem IsI.of {w : World} {b off : Nat} {l : List Int} (h : IRow w b off l) : IsI w (some ⟨b, off, none⟩) l := fun _ => ⟨b, off, rfl, h⟩
theorem IsI.at_ {w : World} {a : Option Addr} {l : List Int} (h : IsI w a l) (hn : 0 < l.length) : ∃ b off, a = some ⟨b, off, none⟩ ∧ IRow w b off l := h (by rintro rfl; simp at hn)
theorem IRow.cell {w : World} {b off : Nat} {l : List Int} (h : IRow w b off l) {i : Nat} (hi : i < l.length) : w.cell? ⟨b, off + i, none⟩ = some (.int .i64 (l.getD i 0)) := h.2 i _ (by simp [hi])
theorem IRow.take {w : World} {b off : Nat} {l : List Int} (h : IRow w b off l) (n : Nat) : IRow w b off (l.take n) :=
  ⟨h.1, fun i x hx => h.2 i x (by
    rw [List.getElem?_take] at hx
    split at hx
    · exact hx
    · cases hx)⟩
theorem IRow.drop {w : World} {b off : Nat} {l : List Int} (h : IRow w b off l) (n : Nat) : IRow w b (off + n) (l.drop n) :=
  ⟨h.1, fun i x hx => by
    rw [List.getElem?_drop] at hx
    have := h.2 (n + i) x hx
    rwa [← Nat.add_assoc] at this⟩
theorem IsI.take {w : World} {a : Option Addr} {l : List Int} (h : IsI w a l) (n : Nat) : IsI w a (l.take n) := fun hne => by
  obtain ⟨b, off, e, hr⟩ := h (by intro e; rw [e] at hne; simp at hne)
  exact ⟨b, off, e, hr.take n⟩

def cellsI (l : List Int) : List Value := l.map (Value.int .i64)
theorem cellsI_length (l : List Int) : (cellsI l).length = l.length := by simp [cellsI]
theorem cellsI_append (l r : List Int) : cellsI (l ++ r) = cellsI l ++ cellsI r := by simp [cellsI]
theorem cellsI_one (l : List Int) : ∀ u ∈ cellsI l, u.oneCell' = true := by
  intro u hu
  simp [cellsI] at hu
  obtain ⟨x, _, rfl⟩ := hu
  rfl
theorem cellsI_get {l : List Int} {i : Nat} {x : Int} (h : l[i]? = some x) : (cellsI l)[i]? = some (.int .i64 x) := by simp [cellsI, h]
theorem cellsI_inv {l : List Int} {i : Nat} {u : Value} (h : (cellsI l)[i]? = some u) : ∃ x, l[i]? = some x ∧ u = .int .i64 x := by
  simp [cellsI] at h
  obtain ⟨x, h1, h2⟩ := h
  exact ⟨x, h1, h2.symm⟩
theorem cellsI_take (l : List Int) (n : Nat) : (cellsI l).take n = cellsI (l.take n) := by simp [cellsI, List.map_take]
theorem add_plain' (b off t : Nat) : (⟨b, off, none⟩ : Addr).add t = ⟨b, off + t, none⟩ := by unfold Addr.add; by_cases ht : t = 0 <;> simp [ht]
theorem news_of {w : World} {a : Option Addr} {l : List Int} (h : IsI w a l) : ∀ ad, a = Option.some ad → ∀ j u, (cellsI l)[j]? = Option.some u → w.cell? (ad.add j) = Option.some u := by
  intro ad had j u hu
  obtain ⟨x, hx, rfl⟩ := cellsI_inv hu
  obtain ⟨b, off, h', hlt, hr⟩ := h (by intro e; rw [e] at hx; simp at hx)
  rw [had] at h'
  cases h'
  rw [add_plain']
  exact hr j x hx

/-! Lists of one's own, told by tags of blocks. -/

/-- Whose a block is. -/
def upd (T : Nat → Nat) (g t : Nat) : Nat → Nat := fun b => if b = g then t else T b
theorem upd_same (T : Nat → Nat) (g t : Nat) : upd T g t g = t := by simp [upd]
theorem upd_other (T : Nat → Nat) {g b : Nat} (t : Nat) (h : b ≠ g) : upd T g t b = T b := by simp [upd, h]

/-- A list of ints of one's own (nil, or in a block of that tag, from its beginning on, maybe with spare room). -/
def OwnL (t : Nat) (T : Nat → Nat) (w : World) (v : Value) (l : List Int) : Prop := w.ownsRow 0 3 1 v l.length (cellsI l) ∧ ∀ g, v.ownBlock = some g → T g = t
/-- From one moment to a later one: only blocks of tags that t tells have turned; tags stay. -/
structure Goes (t : Nat → Prop) (T : Nat → Nat) (w : World) (T' : Nat → Nat) (w' : World) : Prop where
  os : w'.os = w.os
  tape : w'.tape = w.tape
  output : w'.output = w.output
  size : w.heap.size ≤ w'.heap.size
  block : ∀ b, b < w.heap.size → ¬ t (T b) → w'.heap[b]? = w.heap[b]?
  tag : ∀ b, b < w.heap.size → ¬ t (T b) → T' b = T b
  high : ∀ b, w'.heap.size ≤ b → T b = 0 → T' b = 0
theorem Goes.refl (t : Nat → Prop) (T : Nat → Nat) (w : World) : Goes t T w T w := ⟨rfl, rfl, rfl, Nat.le_refl _, fun _ _ _ => rfl, fun _ _ _ => rfl, fun _ _ h => h⟩
theorem Goes.trans {t : Nat → Prop} {T T' T'' : Nat → Nat} {w w' w'' : World} (h : Goes t T w T' w') (k : Goes t T' w' T'' w'') : Goes t T w T'' w'' :=
  ⟨k.os.trans h.os, k.tape.trans h.tape, k.output.trans h.output, Nat.le_trans h.size k.size, fun b hb ht => (k.block b (Nat.lt_of_lt_of_le hb h.size) (by rw [h.tag b hb ht]; exact ht)).trans (h.block b hb ht), fun b hb ht => (k.tag b (Nat.lt_of_lt_of_le hb h.size) (by rw [h.tag b hb ht]; exact ht)).trans (h.tag b hb ht), fun b hb h0 => k.high b hb (h.high b (Nat.le_trans k.size hb) h0)⟩
theorem Goes.mono {t t' : Nat → Prop} {T T' : Nat → Nat} {w w' : World} (h : Goes t T w T' w') (ht : ∀ x, t x → t' x) : Goes t' T w T' w' :=
  ⟨h.os, h.tape, h.output, h.size, fun b hb hn => h.block b hb fun z => hn (ht _ z), fun b hb hn => h.tag b hb fun z => hn (ht _ z), h.high⟩
theorem Goes.below {t : Nat → Prop} {T : Nat → Nat} {w w' : World} (h : Below w.heap.size w w') : Goes t T w T w' := ⟨h.os, h.tape, h.output, h.size, fun b hb _ => h.block b hb, fun _ _ _ => rfl, fun _ _ h => h⟩
theorem Goes.setCell {t : Nat → Prop} {T : Nat → Nat} {w : World} {p j : Nat} {v : Value} (h : t (T p)) : Goes t T w T (w.setCell ⟨p, j, none⟩ v) :=
  ⟨rfl, rfl, rfl, by simp, fun b hb ht => Below.heap_setCell w _ v b (fun e => ht (by rw [e]; exact h)), fun _ _ _ => rfl, fun _ _ h => h⟩
/-- Nothing that was there before has turned; tags tell what was made since. -/
structure Old (w0 : World) (T : Nat → Nat) (w : World) : Prop where
  below : Below w0.heap.size w0 w
  zero : ∀ b, b < w0.heap.size ∨ w.heap.size ≤ b → T b = 0
theorem Old.goes {t : Nat → Prop} {T T' : Nat → Nat} {w0 w w' : World} (h : Old w0 T w) (hg : Goes t T w T' w') (ht : ¬ t 0) : Old w0 T' w' :=
  ⟨⟨hg.os.trans h.below.os, hg.tape.trans h.below.tape, hg.output.trans h.below.output, Nat.le_trans h.below.size hg.size, fun b hb => (hg.block b (Nat.lt_of_lt_of_le hb h.below.size) (by rw [h.zero b (.inl hb)]; exact ht)).trans (h.below.block b hb)⟩,
    fun b hb => by
      rcases hb with hb | hb
      · rw [hg.tag b (Nat.lt_of_lt_of_le hb h.below.size) (by rw [h.zero b (.inl hb)]; exact ht)]; exact h.zero b (.inl hb)
      · exact hg.high b hb (h.zero b (.inr (Nat.le_trans hg.size hb)))⟩
theorem Old.first (w : World) : Old w (fun _ => 0) w := ⟨Below.refl _ _, fun _ _ => rfl⟩
theorem Goes.cell {t : Nat → Prop} {T T' : Nat → Nat} {w w' : World} (hg : Goes t T w T' w') {b j : Nat} (hb : b < w.heap.size) (h0 : ¬ t (T b)) : w'.cell? ⟨b, j, none⟩ = w.cell? ⟨b, j, none⟩ := World.cell?_of_block (a := ⟨b, j, none⟩) (hg.block b hb h0)
theorem OwnL.goes {s : Nat} {t : Nat → Prop} {T T' : Nat → Nat} {w w' : World} {v : Value} {l : List Int} (h : OwnL s T w v l) (hg : Goes t T w T' w') (hs : ¬ t s) : OwnL s T' w' v l := by
  have hlt := fun g hv => (h.1.lt g hv).2
  refine ⟨⟨h.1.1, ?_⟩, fun g hv => (hg.tag g (hlt g hv) (by rw [h.2 g hv]; exact hs)).trans (h.2 g hv)⟩
  rcases h.1.2 with h1 | ⟨g, cap, cur, hv, hb, hh, hr⟩
  · exact .inl h1
  · have hv' : v.ownBlock = some g := by rw [hv]; rfl
    exact .inr ⟨g, cap, cur, hv, hb, (hg.block g (hlt g hv') (by rw [h.2 g hv']; exact hs)).trans hh, hr⟩
theorem OwnL.below {s : Nat} {T : Nat → Nat} {w w' : World} {v : Value} {l : List Int} (h : OwnL s T w v l) (hb : Below w.heap.size w w') : OwnL s T w' v l := h.goes (Goes.below (t := fun _ => False) hb) (fun z => z)
theorem OwnL.form {s : Nat} {T : Nat → Nat} {w : World} {v : Value} {l : List Int} (h : OwnL s T w v l) : ∃ a c, v = .slice a l.length c ∧ IsI w a l ∧ l.length ≤ c ∧ (a = none → c = 0) ∧ (∀ g off, a = some ⟨g, off, none⟩ → off = 0 ∧ T g = s ∧ g < w.heap.size) := by
  rcases h.1.2 with ⟨h1, h2⟩ | ⟨g, cap, cur, hv, hb, hh, hc, hr⟩
  · refine ⟨none, 0, by rw [h1, h2], ?_, by omega, by simp, by simp⟩
    have : l = [] := List.eq_nil_of_length_eq_zero h2
    rw [this]; exact IsI.nil _ _
  · refine ⟨some ⟨g, 0, none⟩, cap, hv, ?_, hc, by simp, ?_⟩
    · have h1 := h.1
      rw [hv] at h1
      refine IsI.of ⟨(h1.lt g rfl).2, fun i x hx => ?_⟩
      have hi : i < l.length := (List.getElem?_eq_some_iff.1 hx).1
      rw [Nat.zero_add, h1.cellAt _ (by omega)]
      exact cellsI_get hx
    · intro g' off e
      simp only [Option.some.injEq, Addr.mk.injEq] at e
      obtain ⟨rfl, rfl, _⟩ := e
      have hv' : v.ownBlock = some g := by rw [hv]; rfl
      exact ⟨rfl, h.2 g hv', (h.1.lt g hv').2⟩
theorem OwnL.isI {t : Nat} {T : Nat → Nat} {w : World} {a : Option Addr} {n c : Nat} {l : List Int} (h : OwnL t T w (.slice a n c) l) : IsI w a l ∧ n = l.length ∧ (a = none → c = 0) ∧ n ≤ c := by
  obtain ⟨a', c', e, hi, h1, h2, _⟩ := h.form
  simp only [Value.slice.injEq] at e
  obtain ⟨rfl, rfl, rfl⟩ := e
  exact ⟨hi, rfl, h2, h1⟩
theorem OwnL.nil (t : Nat) (T : Nat → Nat) (w : World) : OwnL t T w (.slice none 0 0) [] := ⟨World.ownsRow_nil _ _ _ _, by simp [Value.ownBlock]⟩
/-- its first part -/
theorem OwnL.cut {t : Nat} {T : Nat → Nat} {w : World} {g n c : Nat} {l : List Int} (h : OwnL t T w (.slice (some ⟨g, 0, none⟩) n c) l) {k : Nat} (hk : k ≤ l.length) : OwnL t T w (.slice (some ⟨g, 0, none⟩) k c) (l.take k) := by
  refine ⟨⟨by simp [cellsI], ?_⟩, h.2⟩
  rcases h.1.2 with ⟨h1, h2⟩ | ⟨g', cap, cur, hv, hb, hh, hc, hm, hs, ht⟩
  · cases h1
  · cases hv
    refine .inr ⟨g, c, cur, by rw [List.length_take, Nat.min_eq_left hk], hb, hh, by rw [List.length_take]; omega, hm, hs, ?_⟩
    have := congrArg (List.take k) ht
    rw [List.take_take, Nat.mul_one, Nat.min_eq_left hk] at this
    rw [List.length_take, Nat.min_eq_left hk, Nat.mul_one, this, cellsI_take]
/-- a cell is written -/
theorem OwnL.set {t : Nat} {T : Nat → Nat} {w : World} {g n c : Nat} {l : List Int} (h : OwnL t T w (.slice (some ⟨g, 0, none⟩) n c) l) (j : Nat) (x : Int) (hn : n = l.length) : OwnL t T (w.setCell ⟨g, j, none⟩ (.int .i64 x)) (.slice (some ⟨g, 0, none⟩) n c) (l.set j x) := by
  have h1 := h.1
  subst hn
  have h2 := h1.stored j (.int .i64 x)
  refine ⟨?_, h.2⟩
  rw [List.length_set]
  have e : (cellsI l).set j (.int .i64 x) = cellsI (l.set j x) := by simp [cellsI, List.map_set]
  rw [← e]
  exact h2.1

/-- something is appended -/
theorem OwnL.grown {t : Nat} {T : Nat → Nat} {w w' : World} {v : Value} {g n c H : Nat} {l r : List Int} (h : OwnL t T w v l) (hgr : w.grownBy w' v.ownBlock) (hown : w'.ownsRow 0 3 1 (.slice (some ⟨g, 0, none⟩) n c) n (cellsI l ++ cellsI r)) (hn : n = l.length + r.length)
    (hat : v.ownBlock = some g ∨ g = H) (hH : w.heap.size ≤ H) : OwnL t (upd T g t) w' (.slice (some ⟨g, 0, none⟩) n c) (l ++ r) ∧ Goes (· = t) T w (upd T g t) w' := by
  refine ⟨⟨?_, fun g' e => ?_⟩, hgr.os, hgr.tape, hgr.output, hgr.size, fun b hb ht => ?_, fun b hb _ => ?_, fun b hb h0 => ?_⟩
  · rw [List.length_append, ← hn, cellsI_append]; exact hown
  · simp only [Value.ownBlock, Option.some.injEq] at e
    subst e; exact upd_same _ _ _
  · refine hgr.block b hb (fun e => ht ?_)
    exact h.2 b e.symm
  · by_cases e : b = g
    · subst e
      rcases hat with e | e
      · rw [upd_same, h.2 _ e]
      · omega
    · exact upd_other _ _ e
  · rw [upd_other _ _ (by have := (hown.lt g rfl).2; omega)]; exact h0

theorem OwnL.retag {t : Nat} {T : Nat → Nat} {w : World} {v : Value} {l : List Int} (h : OwnL t T w v l) {g s : Nat} (hg : w.heap.size ≤ g) : OwnL t (upd T g s) w v l :=
  ⟨h.1, fun g' e => by rw [upd_other _ _ (by have := (h.1.lt g' e).2; omega)]; exact h.2 g' e⟩
theorem IsI.none {w : World} {l : List Int} (h : IsI w none l) : l = [] := by
  by_cases hne : l = []
  · exact hne
  · obtain ⟨b, off, e, _⟩ := h hne
    cases e

/-- append of what a slice holds onto a list of one's own -/
theorem run_appL {P : Program} (w : World) (t ty : TypeId) (i : TypeInfo) (ht : P.underlying t = some (.slice 3)) (hi : P.info? 3 = some i) (hz : i.zero = some (.int .i64 0)) (hsize : i.size = 1) (hby : i.bytes = 8)
    (s : Nat) (T : Nat → Nat) (v : Value) (l : List Int) (hown : OwnL s T w v l) (ao : Option Addr) (m c : Nat) (r : List Int) (hm : m = r.length) (hn : ao = none → c = 0) (hr : IsI w ao r) (h40 : l.length + r.length ≤ 1000000000000) :
    ∃ v' T' w', (Builtin.append_ #[t, t] ty #[v, .slice ao m c]).run P w = .ok v' w' ∧ OwnL s T' w' v' (l ++ r) ∧ Goes (· = s) T w T' w' ∧ (v'.ownBlock = v.ownBlock ∨ v'.ownBlock = some w.heap.size) ∧ (0 < r.length → v' ≠ .slice none 0 0) := by
  subst hm
  cases ao with
  | none =>
    have hr0 := hr.none
    subst hr0
    obtain rfl := hn rfl
    have hrun := run_append_owned_none (P := P) (w := w) 0 t ty 3 i 1 ht hi v l.length (cellsI l) hown.1
    exact ⟨v, T, w, hrun, by rw [List.append_nil]; exact hown, Goes.refl _ _ _, .inl rfl, by simp⟩
  | some ad =>
    obtain ⟨v', w', hrun, h2, h3, h4, h5⟩ := run_append_own_at (P := P) w 0 t ty 3 i (.int .i64 0) 1 8 ht hi hz hsize hby rfl (by omega) v l.length (cellsI l) hown.1 ad r.length c (cellsI r) (by rw [cellsI_length]; omega) (news_of hr ad rfl) (cellsI_one r) (by unfold maxLen; omega) (by omega) (Nat.zero_le _)
    rcases h2.2 with ⟨e1, e2⟩ | ⟨g, cap, cur, hv, _⟩
    · have hl : l = [] := List.eq_nil_of_length_eq_zero (by omega)
      have hr0 : r = [] := List.eq_nil_of_length_eq_zero (by omega)
      subst hl; subst hr0
      have hv := (h4.1 e1).1
      refine ⟨v', T, w', hrun, ⟨by rw [e1]; exact World.ownsRow_nil _ _ _ _, by rw [e1]; simp [Value.ownBlock]⟩, ⟨h3.os, h3.tape, h3.output, h3.size, fun b hb _ => h3.block b hb (by rw [hv]; simp [Value.ownBlock]), fun _ _ _ => rfl, fun _ _ h => h⟩, h5, by simp⟩
    · subst hv
      have hat : v.ownBlock = some g ∨ g = w.heap.size := by
        rcases h5 with h5 | h5
        · exact .inl (by rw [← h5]; rfl)
        · exact .inr (by simpa [Value.ownBlock] using h5)
      obtain ⟨k1, k2⟩ := hown.grown h3 h2 rfl hat (Nat.le_refl _)
      exact ⟨_, _, w', hrun, k1, k2, h5, by simp⟩
theorem wp_appL {P : Program} (w : World) {o : Oper} {a : Act} {K : Act → World → Prop} {Q : Exit → Act → World → Prop} (s x : Operand) (t : TypeId)
    (ho : o.op = .call { callee := .builtin .append, args := #[s, x], argTypes := #[t, t] })
    (i : TypeInfo) (ht : P.underlying t = some (.slice 3)) (hi : P.info? 3 = some i) (hz : i.zero = some (.int .i64 0)) (hsize : i.size = 1) (hby : i.bytes = 8)
    (g : Nat) (T : Nat → Nat) (v : Value) (l : List Int) (hs : a.eval s = v) (hown : OwnL g T w v l) (ao : Option Addr) (m c : Nat) (r : List Int) (hx : a.eval x = .slice ao m c) (hm : m = r.length) (hn : ao = none → c = 0) (hr : IsI w ao r) (h40 : l.length + r.length ≤ 1000000000000)
    (h : ∀ a' c' T' w', OwnL g T' w' (.slice a' (l.length + r.length) c') (l ++ r) → Goes (· = g) T w T' w' → ((Value.slice a' (l.length + r.length) c').ownBlock = v.ownBlock ∨ (Value.slice a' (l.length + r.length) c').ownBlock = some w.heap.size) → K (a.put o.dst (.slice a' (l.length + r.length) c')) w') : o.wp P a w K Q := by
  obtain ⟨v', T', w', hr, h2, h3, h4, h5⟩ := run_appL (P := P) w t o.type i ht hi hz hsize hby g T v l hown ao m c r hm hn hr h40
  unfold Oper.wp execOp
  simp only [ho, resolve, invoke, builtin, Sem.run_bind, Sem.run_pure, Result.andThen_ok, List.map_toArray, List.map_cons, List.map_nil, hs, hx, hr]
  obtain ⟨a', c', rfl, _⟩ := h2.form
  rw [List.length_append] at h2 h4 ⊢
  exact h a' c' T' w' h2 h3 h4
theorem wpList_appL {P : Program} (w : World) {ops : Array Oper} {rest : List Oper} {o : Oper} {a : Act} {Q : Exit → Act → World → Prop} (hgd : o.guard = none) (s x : Operand) (t : TypeId)
    (ho : o.op = .call { callee := .builtin .append, args := #[s, x], argTypes := #[t, t] })
    (i : TypeInfo) (ht : P.underlying t = some (.slice 3)) (hi : P.info? 3 = some i) (hz : i.zero = some (.int .i64 0)) (hsize : i.size = 1) (hby : i.bytes = 8)
    (g : Nat) (T : Nat → Nat) (v : Value) (l : List Int) (hs : a.eval s = v) (hown : OwnL g T w v l) (ao : Option Addr) (m c : Nat) (r : List Int) (hx : a.eval x = .slice ao m c) (hm : m = r.length) (hn : ao = none → c = 0) (hr : IsI w ao r) (h40 : l.length + r.length ≤ 1000000000000)
    (h : ∀ a' c' T' w', OwnL g T' w' (.slice a' (l.length + r.length) c') (l ++ r) → Goes (· = g) T w T' w' → ((Value.slice a' (l.length + r.length) c').ownBlock = v.ownBlock ∨ (Value.slice a' (l.length + r.length) c').ownBlock = some w.heap.size) → wpList P ops Q rest (a.put o.dst (.slice a' (l.length + r.length) c')) w') : wpList P ops Q (o :: rest) a w :=
  wpList_plain hgd fun _ hK => wp_appL w s x t ho i ht hi hz hsize hby g T v l hs hown ao m c r hx hm hn hr h40 fun a' c' T' w' h2 h3 h4 => hK _ _ (h a' c' T' w' h2 h3 h4)
theorem step_appL {P : Program} (w : World) {ops : Array Oper} {o : Oper} {a : Act} {K : Act → World → Prop} {Q : Exit → Act → World → Prop} {E : Prop} (hgd : o.guard = none) (s x : Operand) (t : TypeId)
    (ho : o.op = .call { callee := .builtin .append, args := #[s, x], argTypes := #[t, t] })
    (i : TypeInfo) (ht : P.underlying t = some (.slice 3)) (hi : P.info? 3 = some i) (hz : i.zero = some (.int .i64 0)) (hsize : i.size = 1) (hby : i.bytes = 8)
    (g : Nat) (T : Nat → Nat) (v : Value) (l : List Int) (hs : a.eval s = v) (hown : OwnL g T w v l) (ao : Option Addr) (m c : Nat) (r : List Int) (hx : a.eval x = .slice ao m c) (hm : m = r.length) (hn : ao = none → c = 0) (hr : IsI w ao r) (h40 : l.length + r.length ≤ 1000000000000)
    (h : ∀ a' c' T' w', OwnL g T' w' (.slice a' (l.length + r.length) c') (l ++ r) → Goes (· = g) T w T' w' → ((Value.slice a' (l.length + r.length) c').ownBlock = v.ownBlock ∨ (Value.slice a' (l.length + r.length) c').ownBlock = some w.heap.size) → K (a.put o.dst (.slice a' (l.length + r.length) c')) w') :
    if Region.wanted o (yielded ops a.tmps) = true then Oper.wp P o a w K Q else E := by
  have hw : Region.wanted o (yielded ops a.tmps) = true := by simp [Region.wanted, hgd]
  rw [if_pos hw]
  exact wp_appL w s x t ho i ht hi hz hsize hby g T v l hs hown ao m c r hx hm hn hr h40 h

end Irw
end Go.Proofs.YtkebbmdghnplmaaDoor
namespace Go.Proofs.YtkebbmdghnplmaaDoor
namespace Crw
open Go.RowKit Laws Irw
set_option linter.unusedVariables false

/-! Lists of any kind of thing: rows of so many cells a thing. -/
structure Knd (α : Type) where
  ty : TypeId
  size : Nat
  bytes : Nat
  zero : Value
  cs : α → List Value
  len : ∀ x, (cs x).length = size
  one : ∀ x, ∀ u ∈ cs x, u.oneCell' = true
  pos : 0 < size
  zc : zero.cells.size = size
  b16 : bytes ≤ 64
variable {α : Type}
def Knd.cells (K : Knd α) : List α → List Value
  | [] => []
  | x :: r => K.cs x ++ K.cells r
theorem Knd.cells_length (K : Knd α) (l : List α) : (K.cells l).length = l.length * K.size := by
  induction l with
  | nil => simp [Knd.cells]
  | cons e r ih => simp only [Knd.cells, List.length_append, List.length_cons, ih, K.len, Nat.succ_mul]; omega
theorem Knd.cells_append (K : Knd α) (l r : List α) : K.cells (l ++ r) = K.cells l ++ K.cells r := by
  induction l with
  | nil => rfl
  | cons e l ih => simp only [List.cons_append, Knd.cells, ih, List.append_assoc]
theorem Knd.cells_one (K : Knd α) (l : List α) : ∀ u ∈ K.cells l, u.oneCell' = true := by
  induction l with
  | nil => intro u hu; simp [Knd.cells] at hu
  | cons e r ih =>
    intro u hu
    rcases List.mem_append.1 hu with hu | hu
    · exact K.one e u hu
    · exact ih u hu
theorem Knd.cells_get (K : Knd α) (l : List α) : ∀ (i : Nat) (e : α), l[i]? = some e → ∀ j, j < K.size → (K.cells l)[i * K.size + j]? = (K.cs e)[j]? := by
  induction l with
  | nil => intro i e h; simp at h
  | cons x r ih =>
    intro i e h j hj
    cases i with
    | zero =>
      simp at h; subst h
      rw [Nat.zero_mul, Nat.zero_add, Knd.cells, List.getElem?_append_left (by rw [K.len]; exact hj)]
    | succ i =>
      have := ih i e (by simpa using h) j hj
      rw [Knd.cells, List.getElem?_append_right (by rw [K.len, Nat.succ_mul]; omega), K.len, ← this]
      congr 1
      rw [Nat.succ_mul]; omega
def KRow (K : Knd α) (w : World) (b off : Nat) (l : List α) : Prop := b < w.heap.size ∧ ∀ (i : Nat) (e : α), l[i]? = some e → ∀ j u, (K.cs e)[j]? = some u → w.cell? ⟨b, off + i * K.size + j, none⟩ = some u
def IsK (K : Knd α) (w : World) (a : Option Addr) (l : List α) : Prop := l ≠ [] → ∃ b off, a = some ⟨b, off, none⟩ ∧ KRow K w b off l
variable {K : Knd α}
theorem KRow.keep {w w' : World} {b off : Nat} {l : List α} (h : KRow K w b off l) (hb : w'.heap[b]? = w.heap[b]?) (hs : w.heap.size ≤ w'.heap.size) : KRow K w' b off l :=
  ⟨Nat.lt_of_lt_of_le h.1 hs, fun i e he j u hu => (World.cell?_of_block (a := ⟨b, _, none⟩) hb).trans (h.2 i e he j u hu)⟩
theorem IsK.below {w w' : World} {a : Option Addr} {l : List α} (h : IsK K w a l) (hb : Below w.heap.size w w') : IsK K w' a l := fun hne => by
  obtain ⟨b, off, e, hr⟩ := h hne
  exact ⟨b, off, e, hr.keep (hb.block _ hr.1) hb.size⟩
theorem IsK.keep {w w' : World} {a : Option Addr} {l : List α} (h : IsK K w a l) (hb : ∀ b, b < w.heap.size → (∃ off, a = some ⟨b, off, none⟩) → w'.heap[b]? = w.heap[b]?) (hs : w.heap.size ≤ w'.heap.size) : IsK K w' a l := fun hne => by
  obtain ⟨b, off, e, hr⟩ := h hne
  exact ⟨b, off, e, hr.keep (hb _ hr.1 ⟨off, e⟩) hs⟩
theorem IsK.nil (w : World) (a : Option Addr) : IsK K w a [] := fun h => absurd rfl h
theorem IsK.at_ {w : World} {a : Option Addr} {l : List α} (h : IsK K w a l) (hn : 0 < l.length) : ∃ b off, a = some ⟨b, off, none⟩ ∧ KRow K w b off l := h (by rintro rfl; simp at hn)
theorem IsK.of {w : World} {b off : Nat} {l : List α} (h : KRow K w b off l) : IsK K w (some ⟨b, off, none⟩) l := fun _ => ⟨b, off, rfl, h⟩
theorem IsK.none {w : World} {l : List α} (h : IsK K w none l) : l = [] := by
  by_cases hne : l = []
  · exact hne
  · obtain ⟨b, off, e, _⟩ := h hne
    cases e
theorem newsK {w : World} {a : Option Addr} {l : List α} (h : IsK K w a l) : ∀ ad, a = Option.some ad → ∀ j u, (K.cells l)[j]? = Option.some u → w.cell? (ad.add j) = Option.some u := by
  intro ad had j u hu
  have hp := K.pos
  have hj : j < l.length * K.size := by rw [← K.cells_length]; exact (List.getElem?_eq_some_iff.1 hu).1
  have hi : j / K.size < l.length := Nat.div_lt_of_lt_mul (by rw [Nat.mul_comm]; exact hj)
  obtain ⟨b, off, h', hlt, hr⟩ := h (by rintro rfl; simp at hj)
  rw [had] at h'
  cases h'
  rw [add_plain']
  have hm := Nat.mod_lt j hp
  have e : j = j / K.size * K.size + j % K.size := by rw [Nat.mul_comm]; exact (Nat.div_add_mod j K.size).symm
  have hg := K.cells_get l (j / K.size) _ (List.getElem?_eq_getElem hi) (j % K.size) hm
  rw [← e, hu] at hg
  have := hr (j / K.size) _ (List.getElem?_eq_getElem hi) (j % K.size) u hg.symm
  rw [Nat.add_assoc, ← e] at this
  exact this

/-- A list of one's own. -/
def OwnK (K : Knd α) (t : Nat) (T : Nat → Nat) (w : World) (v : Value) (l : List α) : Prop := w.ownsRow 0 K.ty K.size v l.length (K.cells l) ∧ ∀ g, v.ownBlock = some g → T g = t
theorem OwnK.goes {s : Nat} {t : Nat → Prop} {T T' : Nat → Nat} {w w' : World} {v : Value} {l : List α} (h : OwnK K s T w v l) (hg : Goes t T w T' w') (hs : ¬ t s) : OwnK K s T' w' v l := by
  have hlt := fun g hv => (h.1.lt g hv).2
  refine ⟨⟨h.1.1, ?_⟩, fun g hv => (hg.tag g (hlt g hv) (by rw [h.2 g hv]; exact hs)).trans (h.2 g hv)⟩
  rcases h.1.2 with h1 | ⟨g, cap, cur, hv, hb, hh, hr⟩
  · exact .inl h1
  · have hv' : v.ownBlock = some g := by rw [hv]; rfl
    exact .inr ⟨g, cap, cur, hv, hb, (hg.block g (hlt g hv') (by rw [h.2 g hv']; exact hs)).trans hh, hr⟩
theorem OwnK.below {s : Nat} {T : Nat → Nat} {w w' : World} {v : Value} {l : List α} (h : OwnK K s T w v l) (hb : Below w.heap.size w w') : OwnK K s T w' v l := h.goes (Goes.below (t := fun _ => False) hb) (fun z => z)
theorem OwnK.form {s : Nat} {T : Nat → Nat} {w : World} {v : Value} {l : List α} (h : OwnK K s T w v l) : ∃ a c, v = .slice a l.length c ∧ IsK K w a l ∧ l.length ≤ c ∧ (a = none → c = 0) ∧ ∀ b off, a = some ⟨b, off, none⟩ → T b = s ∧ b < w.heap.size := by
  rcases h.1.2 with ⟨h1, h2⟩ | ⟨g, cap, cur, hv, hb, hh, hc, hr⟩
  · refine ⟨none, 0, by rw [h1, h2], ?_, by omega, by simp, fun b off e => by cases e⟩
    have : l = [] := List.eq_nil_of_length_eq_zero h2
    rw [this]; exact IsK.nil _ _
  · have hv' : v.ownBlock = some g := by rw [hv]; rfl
    refine ⟨some ⟨g, 0, none⟩, cap, hv, ?_, hc, by simp, fun b off e => by cases e; exact ⟨h.2 _ hv', (h.1.lt _ hv').2⟩⟩
    have h1 := h.1
    rw [hv] at h1
    refine IsK.of ⟨(h1.lt g rfl).2, fun i e he j u hu => ?_⟩
    have hi : i < l.length := (List.getElem?_eq_some_iff.1 he).1
    have hj : j < K.size := by rw [← K.len e]; exact (List.getElem?_eq_some_iff.1 hu).1
    have hd := K.cells_get l i e he j hj
    rw [Nat.zero_add, h1.cellAt _ (by
      have : (i + 1) * K.size ≤ l.length * K.size := Nat.mul_le_mul_right _ hi
      rw [Nat.succ_mul] at this
      omega), hd]
    exact hu
theorem OwnK.empty (t : Nat) (T : Nat → Nat) (w : World) : OwnK K t T w (.slice none 0 0) [] := ⟨World.ownsRow_nil _ _ _ _, by simp [Value.ownBlock]⟩
/-- something is appended -/
theorem OwnK.grown {t : Nat} {T : Nat → Nat} {w w' : World} {v : Value} {g n c H : Nat} {l r : List α} (h : OwnK K t T w v l) (hgr : w.grownBy w' v.ownBlock) (hown : w'.ownsRow 0 K.ty K.size (.slice (some ⟨g, 0, none⟩) n c) n (K.cells l ++ K.cells r)) (hn : n = l.length + r.length)
    (hat : v.ownBlock = some g ∨ g = H) (hH : w.heap.size ≤ H) : OwnK K t (upd T g t) w' (.slice (some ⟨g, 0, none⟩) n c) (l ++ r) ∧ Goes (· = t) T w (upd T g t) w' := by
  refine ⟨⟨?_, fun g' e => ?_⟩, hgr.os, hgr.tape, hgr.output, hgr.size, fun b hb ht => ?_, fun b hb _ => ?_, fun b hb h0 => ?_⟩
  · rw [List.length_append, ← hn, Knd.cells_append]; exact hown
  · simp only [Value.ownBlock, Option.some.injEq] at e
    subst e; exact upd_same _ _ _
  · refine hgr.block b hb (fun e => ht ?_)
    exact h.2 b e.symm
  · by_cases e : b = g
    · subst e
      rcases hat with e | e
      · rw [upd_same, h.2 _ e]
      · omega
    · exact upd_other _ _ e
  · rw [upd_other _ _ (by have := (hown.lt g rfl).2; omega)]; exact h0

/-- append of what a slice holds onto a list of one's own -/
theorem run_appK {P : Program} (K : Knd α) (w : World) (t ty : TypeId) (i : TypeInfo) (ht : P.underlying t = some (.slice K.ty)) (hi : P.info? K.ty = some i) (hz : i.zero = some K.zero) (hsize : i.size = K.size) (hby : i.bytes = K.bytes)
    (s : Nat) (T : Nat → Nat) (v : Value) (l : List α) (hown : OwnK K s T w v l) (ao : Option Addr) (m c : Nat) (r : List α) (hm : m = r.length) (hn : ao = none → c = 0) (hr : IsK K w ao r) (h40 : l.length + r.length ≤ 1000000000000) :
    ∃ v' T' w', (Builtin.append_ #[t, t] ty #[v, .slice ao m c]).run P w = .ok v' w' ∧ OwnK K s T' w' v' (l ++ r) ∧ Goes (· = s) T w T' w' ∧ (v'.ownBlock = v.ownBlock ∨ v'.ownBlock = some w.heap.size) ∧ (0 < r.length → v' ≠ .slice none 0 0) := by
  subst hm
  cases ao with
  | none =>
    have hr0 := hr.none
    subst hr0
    obtain rfl := hn rfl
    have hrun := run_append_owned_none (P := P) (w := w) 0 t ty K.ty i K.size ht hi v l.length (K.cells l) hown.1
    exact ⟨v, T, w, hrun, by rw [List.append_nil]; exact hown, Goes.refl _ _ _, .inl rfl, by simp⟩
  | some ad =>
    obtain ⟨v', w', hrun, h2, h3, h4, h5⟩ := run_append_own_at (P := P) w 0 t ty K.ty i K.zero K.size K.bytes ht hi hz hsize hby K.zc K.pos v l.length (K.cells l) hown.1 ad r.length c (K.cells r) (by rw [K.cells_length]) (newsK hr ad rfl) (K.cells_one r) (by unfold maxLen; omega) (by
        have := Nat.mul_le_mul h40 K.b16
        omega) (Nat.zero_le _)
    rcases h2.2 with ⟨e1, e2⟩ | ⟨g, cap, cur, hv, _⟩
    · have hl : l = [] := List.eq_nil_of_length_eq_zero (by omega)
      have hr0 : r = [] := List.eq_nil_of_length_eq_zero (by omega)
      subst hl; subst hr0
      have hv := (h4.1 e1).1
      refine ⟨v', T, w', hrun, ⟨by rw [e1]; exact World.ownsRow_nil _ _ _ _, by rw [e1]; simp [Value.ownBlock]⟩, ⟨h3.os, h3.tape, h3.output, h3.size, fun b hb _ => h3.block b hb (by rw [hv]; simp [Value.ownBlock]), fun _ _ _ => rfl, fun _ _ h => h⟩, h5, by simp⟩
    · subst hv
      have hat : v.ownBlock = some g ∨ g = w.heap.size := by
        rcases h5 with h5 | h5
        · exact .inl (by rw [← h5]; rfl)
        · exact .inr (by simpa [Value.ownBlock] using h5)
      obtain ⟨k1, k2⟩ := hown.grown h3 h2 rfl hat (Nat.le_refl _)
      exact ⟨_, _, w', hrun, k1, k2, h5, by simp⟩
theorem wp_appK {P : Program} (K : Knd α) (w : World) {o : Oper} {a : Act} {C : Act → World → Prop} {Q : Exit → Act → World → Prop} (s x : Operand) (t : TypeId)
    (ho : o.op = .call { callee := .builtin .append, args := #[s, x], argTypes := #[t, t] })
    (i : TypeInfo) (ht : P.underlying t = some (.slice K.ty)) (hi : P.info? K.ty = some i) (hz : i.zero = some K.zero) (hsize : i.size = K.size) (hby : i.bytes = K.bytes)
    (g : Nat) (T : Nat → Nat) (v : Value) (l : List α) (hs : a.eval s = v) (hown : OwnK K g T w v l) (ao : Option Addr) (m c : Nat) (r : List α) (hx : a.eval x = .slice ao m c) (hm : m = r.length) (hn : ao = none → c = 0) (hr : IsK K w ao r) (h40 : l.length + r.length ≤ 1000000000000)
    (h : ∀ a' c' T' w', OwnK K g T' w' (.slice a' (l.length + r.length) c') (l ++ r) → Goes (· = g) T w T' w' → C (a.put o.dst (.slice a' (l.length + r.length) c')) w') : o.wp P a w C Q := by
  obtain ⟨v', T', w', hr, h2, h3, h4, h5⟩ := run_appK (P := P) K w t o.type i ht hi hz hsize hby g T v l hown ao m c r hm hn hr h40
  unfold Oper.wp execOp
  simp only [ho, resolve, invoke, builtin, Sem.run_bind, Sem.run_pure, Result.andThen_ok, List.map_toArray, List.map_cons, List.map_nil, hs, hx, hr]
  obtain ⟨a', c', rfl, _⟩ := h2.form
  rw [List.length_append] at h2 h4 ⊢
  exact h a' c' T' w' h2 h3
theorem wpList_appK {P : Program} (K : Knd α) (w : World) {ops : Array Oper} {rest : List Oper} {o : Oper} {a : Act} {Q : Exit → Act → World → Prop} (hgd : o.guard = none) (s x : Operand) (t : TypeId)
    (ho : o.op = .call { callee := .builtin .append, args := #[s, x], argTypes := #[t, t] })
    (i : TypeInfo) (ht : P.underlying t = some (.slice K.ty)) (hi : P.info? K.ty = some i) (hz : i.zero = some K.zero) (hsize : i.size = K.size) (hby : i.bytes = K.bytes)
    (g : Nat) (T : Nat → Nat) (v : Value) (l : List α) (hs : a.eval s = v) (hown : OwnK K g T w v l) (ao : Option Addr) (m c : Nat) (r : List α) (hx : a.eval x = .slice ao m c) (hm : m = r.length) (hn : ao = none → c = 0) (hr : IsK K w ao r) (h40 : l.length + r.length ≤ 1000000000000)
    (h : ∀ a' c' T' w', OwnK K g T' w' (.slice a' (l.length + r.length) c') (l ++ r) → Goes (· = g) T w T' w' → wpList P ops Q rest (a.put o.dst (.slice a' (l.length + r.length) c')) w') : wpList P ops Q (o :: rest) a w :=
  wpList_plain hgd fun _ hK => wp_appK K w s x t ho i ht hi hz hsize hby g T v l hs hown ao m c r hx hm hn hr h40 fun a' c' T' w' h2 h3 => hK _ _ (h a' c' T' w' h2 h3)
theorem step_appK {P : Program} (K : Knd α) (w : World) {ops : Array Oper} {o : Oper} {a : Act} {C : Act → World → Prop} {Q : Exit → Act → World → Prop} {E : Prop} (hgd : o.guard = none) (s x : Operand) (t : TypeId)
    (ho : o.op = .call { callee := .builtin .append, args := #[s, x], argTypes := #[t, t] })
    (i : TypeInfo) (ht : P.underlying t = some (.slice K.ty)) (hi : P.info? K.ty = some i) (hz : i.zero = some K.zero) (hsize : i.size = K.size) (hby : i.bytes = K.bytes)
    (g : Nat) (T : Nat → Nat) (v : Value) (l : List α) (hs : a.eval s = v) (hown : OwnK K g T w v l) (ao : Option Addr) (m c : Nat) (r : List α) (hx : a.eval x = .slice ao m c) (hm : m = r.length) (hn : ao = none → c = 0) (hr : IsK K w ao r) (h40 : l.length + r.length ≤ 1000000000000)
    (h : ∀ a' c' T' w', OwnK K g T' w' (.slice a' (l.length + r.length) c') (l ++ r) → Goes (· = g) T w T' w' → C (a.put o.dst (.slice a' (l.length + r.length) c')) w') :
    if Region.wanted o (yielded ops a.tmps) = true then Oper.wp P o a w C Q else E := by
  have hw : Region.wanted o (yielded ops a.tmps) = true := by simp [Region.wanted, hgd]
  rw [if_pos hw]
  exact wp_appK K w s x t ho i ht hi hz hsize hby g T v l hs hown ao m c r hx hm hn hr h40 h
end Crw
end Go.Proofs.YtkebbmdghnplmaaDoor
namespace Go.Proofs.YtkebbmdghnplmaaDoor
namespace CMath
set_option linter.unusedVariables false

theorem rd_words (n : Nat) (more : List Nat) (h : n < 18446744073709551616) : rd (num n ++ more) 0 0 = (n, (num n).length, 0) := by
  rw [rd_num more n 0 0 (by simpa using h) (by omega)]; simp
theorem rd_ok0 {l : List Nat} (hl : ∀ x ∈ l, x < 256) {n k : Nat} (h : rd l 0 0 = (n, k, 0)) : n < 18446744073709551616 ∧ k = (num n).length ∧ l.take k = num n := by
  obtain ⟨m, e1, e2, _, e4, e5⟩ := rd_ok l hl 0 0 n k (by omega) h
  simp at e1 e2 e4
  subst e1 e2
  exact ⟨e4, rfl, e5⟩
theorem rd_part0 {l : List Nat} {n k j : Nat} (h : rd l 0 0 = (n, k, 0)) (hj : j < k) : rd (l.take j) 0 0 = (0, 0, 20) := rd_part l 0 0 n k j h (by omega)
theorem rd_bytes {l : List Nat} (hl : ∀ x ∈ l, x < 256) {n k : Nat} (h : rd l 0 0 = (n, k, 0)) : 1 ≤ k ∧ k ≤ l.length ∧ k ≤ 10 := by
  obtain ⟨h1, h2, h3⟩ := rd_ok0 hl h
  have := num_pos n
  have h4 := congrArg List.length h3
  rw [List.length_take] at h4
  have := num_le10 h1
  omega
/-- More bytes behind a number change nothing. -/
theorem rd_more {l : List Nat} (hl : ∀ x ∈ l, x < 256) {n k j : Nat} (h : rd l 0 0 = (n, k, 0)) (hj : k ≤ j) : rd (l.take j) 0 0 = (n, k, 0) := by
  obtain ⟨h1, h2, h3⟩ := rd_ok0 hl h
  have e : l.take j = num n ++ (l.take j).drop k := by
    rw [← h3]
    conv => lhs; rw [← List.take_append_drop k (l.take j), List.take_take, Nat.min_eq_left hj]
  rw [e, rd_words n _ h1, h2]

theorem take_len (a b : List Nat) : (a ++ b).take a.length = a := by simp
theorem drop_len (a b : List Nat) : (a ++ b).drop a.length = b := by simp

/-- P2.6, texts. -/
theorem text_back (s more : List Nat) (most : Int) (h : (s.length : Int) ≤ most) (hs : s.length < 18446744073709551616) : text (words s ++ more) most = (s, (words s).length, 0) := by
  have e := rd_words s.length (s ++ more) hs
  rw [← List.append_assoc] at e
  unfold text words
  rw [e]
  simp only []
  rw [if_neg (by simp), if_neg (by omega), if_neg (by simp)]
  rw [List.append_assoc, drop_len]
  simp
/-- P2.6, frames. -/
theorem unframe_back (s more : List Nat) (h : s.length ≤ 262144) : unframe (frame s ++ more) = (s, (frame s).length, 0) := by
  have e := rd_words s.length (s ++ four (crc (num s.length ++ s)) ++ more) (by omega)
  have e1 : num s.length ++ (s ++ four (crc (num s.length ++ s)) ++ more) = frame s ++ more := by simp [frame]
  rw [e1] at e
  unfold unframe
  rw [e]
  simp only []
  have e2 : (frame s ++ more).drop ((num s.length).length + s.length) = four (crc (num s.length ++ s)) ++ more := by
    rw [frame, List.append_assoc, ← List.length_append, drop_len]
  have e3 : (frame s ++ more).take ((num s.length).length + s.length) = num s.length ++ s := by
    rw [frame, List.append_assoc, ← List.length_append, take_len]
  rw [if_neg (by simp), if_neg (by omega), if_neg (by simp [frame, four]; omega), e2, e3, if_neg (by simp [four])]
  simp [frame, four]
  omega

/-- P2.7, texts. -/
theorem text_form {b : List Nat} (hb : ∀ x ∈ b, x < 256) {most : Int} {s : List Nat} {k : Nat} (h : text b most = (s, k, 0)) :
    1 ≤ k ∧ k ≤ b.length ∧ (s.length : Int) ≤ most ∧ b.take k = words s ∧ s.length < 18446744073709551616 ∧ ∀ i, i < k → (text (b.take i) most).2.2 ≠ 0 := by
  obtain ⟨n, j, e, hr⟩ : ∃ n j e, rd b 0 0 = (n, j, e) := ⟨_, _, _, rfl⟩
  have h0 := h
  unfold text at h
  rw [hr] at h
  simp only [] at h
  by_cases he : e = 0
  · subst he
    rw [if_neg (by simp)] at h
    split at h
    · simp at h
    · rename_i hm
      split at h
      · simp at h
      · rename_i hl
        simp only [Prod.mk.injEq, and_true] at h
        obtain ⟨rfl, rfl⟩ := h
        obtain ⟨h1, h2, h3⟩ := rd_ok0 hb hr
        have hk := rd_bytes hb hr
        have hlen : ((b.drop j).take n).length = n := by simp; omega
        refine ⟨by omega, by omega, by rw [hlen]; omega, ?_, by rw [hlen]; exact h1, ?_⟩
        · unfold words
          rw [hlen, List.take_add, h3]
        · intro i hi
          by_cases hij : i < j
          · have := rd_part0 hr hij
            unfold text
            rw [this]
            simp
          · have := rd_more hb hr (j := i) (by omega)
            unfold text
            rw [this]
            simp only []
            rw [if_neg (by simp), if_neg hm, if_pos (by simp; omega)]
            simp
  · rw [if_pos (by simpa using he)] at h
    simp only [Prod.mk.injEq] at h
    omega
theorem four_len (x : Nat) : (four x).length = 4 := rfl
/-- P2.7, frames. -/
theorem unframe_form {b : List Nat} (hb : ∀ x ∈ b, x < 256) {s : List Nat} {k : Nat} (h : unframe b = (s, k, 0)) :
    5 ≤ k ∧ k ≤ b.length ∧ s.length ≤ 262144 ∧ b.take k = frame s ∧ ∀ i, i < k → (unframe (b.take i)).2.2 ≠ 0 := by
  obtain ⟨n, j, e, hr⟩ : ∃ n j e, rd b 0 0 = (n, j, e) := ⟨_, _, _, rfl⟩
  unfold unframe at h
  rw [hr] at h
  simp only [] at h
  by_cases he : e = 0
  · subst he
    rw [if_neg (by simp)] at h
    split at h
    · simp at h
    · rename_i hm
      split at h
      · simp at h
      · rename_i hl
        split at h
        · simp at h
        · rename_i hf
          simp only [Prod.mk.injEq, and_true] at h
          obtain ⟨rfl, rfl⟩ := h
          obtain ⟨h1, h2, h3⟩ := rd_ok0 hb hr
          have hk := rd_bytes hb hr
          have hlen : ((b.drop j).take n).length = n := by simp; omega
          have hp : b.take (j + n) = num n ++ (b.drop j).take n := by rw [List.take_add, h3]
          refine ⟨by omega, by omega, by rw [hlen]; omega, ?_, ?_⟩
          · unfold frame
            rw [hlen, ← hp, List.take_add]
            congr 1
            exact Decidable.not_not.1 hf
          · intro i hi
            by_cases hij : i < j
            · have := rd_part0 hr hij
              unfold unframe
              rw [this]
              simp
            · have := rd_more hb hr (j := i) (by omega)
              unfold unframe
              rw [this]
              simp only []
              rw [if_neg (by simp), if_neg hm, if_pos (by simp; omega)]
              simp
  · rw [if_pos (by simpa using he)] at h
    simp only [Prod.mk.injEq] at h
    omega
theorem unframe_err {b : List Nat} (h : (unframe b).2.2 ≠ 0) : (unframe b).1 = [] ∧ (unframe b).2.1 = 0 := by
  unfold unframe at h ⊢
  split
  · exact ⟨rfl, rfl⟩
  · rename_i h0
    rw [if_neg h0] at h
    split
    · exact ⟨rfl, rfl⟩
    · rename_i h1
      rw [if_neg h1] at h
      split
      · exact ⟨rfl, rfl⟩
      · rename_i h2
        rw [if_neg h2] at h
        split
        · exact ⟨rfl, rfl⟩
        · rename_i h3
          rw [if_neg h3] at h
          exact absurd rfl h

/-! P2.8: bits turned within a span of 32. -/
theorem val_take_drop (l : List Nat) (n : Nat) (h : n ≤ l.length) : val l = val (l.take n) + 2 ^ (8 * n) * val (l.drop n) := by
  conv => lhs; rw [← List.take_append_drop n l, val_append]
  rw [List.length_take, Nat.min_eq_left h, Nat.pow_mul]
theorem lt_pow8 (l : List Nat) (h : ∀ x ∈ l, x < 256) : val l < 2 ^ (8 * l.length) := by
  have := val_lt l h
  rw [Nat.pow_mul]
  exact this

theorem mem_take {l : List Nat} {n : Nat} (h : ∀ x ∈ l, x < 256) : ∀ x ∈ l.take n, x < 256 := fun x hx => h x (List.mem_of_mem_take hx)
theorem mem_drop {l : List Nat} {n : Nat} (h : ∀ x ∈ l, x < 256) : ∀ x ∈ l.drop n, x < 256 := fun x hx => h x (List.mem_of_mem_drop hx)

/-- What is left over of a frame of N + 4 bytes: 0 where its sum is right. -/
def rest (N : Nat) (l : List Nat) : Nat := val (l.drop N) ^^^ crc (l.take N)
theorem rest_zero {N : Nat} {l : List Nat} (h : ∀ x ∈ l, x < 256) (hn : l.length = N + 4) : rest N l = 0 ↔ l.drop N = four (crc (l.take N)) := by
  have hc := crc_lt (l.take N) (mem_take h)
  constructor
  · intro e
    refine val_inj _ _ (mem_drop h) (four_byte _) (by simp [four]; omega) ?_
    rw [four_val hc]
    have h2 := congrArg (· ^^^ crc (l.take N)) e
    simpa [rest, Nat.xor_assoc] using h2
  · intro e
    unfold rest
    rw [e, four_val hc, Nat.xor_self]
theorem rest_eq {N : Nat} {l : List Nat} (h : ∀ x ∈ l, x < 256) (hn : l.length = N + 4) : rest N l = steps (8 * N) (val l) ^^^ steps (8 * N) 4294967295 ^^^ 4294967295 := by
  have hN : (l.take N).length = N := by simp; omega
  have e1 := val_take_drop l N (by omega)
  have e2 := lt_pow8 (l.take N) (mem_take h)
  rw [hN] at e2
  rw [split_xor _ _ _ e2] at e1
  rw [e1, steps_xor, steps_shift]
  unfold rest crc
  rw [state_val _ (mem_take h), hN, steps_xor]
  generalize steps (8 * N) (val (l.take N)) = A
  generalize val (l.drop N) = B
  generalize steps (8 * N) 4294967295 = C
  rw [Nat.xor_comm C A, Nat.xor_comm A B]
  simp only [Nat.xor_assoc]
theorem rest_diff {N : Nat} {l r : List Nat} (hl : ∀ x ∈ l, x < 256) (hr : ∀ x ∈ r, x < 256) (h1 : l.length = N + 4) (h2 : r.length = N + 4) (e : Nat) (he : val r = val l ^^^ e) : rest N r = rest N l ^^^ steps (8 * N) e := by
  rw [rest_eq hl h1, rest_eq hr h2, he, steps_xor]
  generalize steps (8 * N) (val l) = A
  generalize steps (8 * N) 4294967295 = C
  generalize steps (8 * N) e = D
  simp only [Nat.xor_assoc]
  rw [Nat.xor_comm D (C ^^^ 4294967295), Nat.xor_assoc]
/-- A burst is told. -/
theorem burst {N a e : Nat} (he : e < 4294967296) (h0 : e ≠ 0) : steps (8 * N) (2 ^ a * e) ≠ 0 := by
  by_cases h : a ≤ 8 * N
  · obtain ⟨m, hm⟩ : ∃ m, 8 * N = a + m := ⟨8 * N - a, by omega⟩
    rw [hm, steps_add, steps_shift]
    exact steps_ne m he h0
  · obtain ⟨m, rfl⟩ : ∃ m, a = 8 * N + m := ⟨a - 8 * N, by omega⟩
    rw [Nat.pow_add, Nat.mul_assoc, steps_shift]
    have : 0 < 2 ^ m * e := Nat.mul_pos (Nat.pow_pos (by omega)) (by omega)
    omega

end CMath
end Go.Proofs.YtkebbmdghnplmaaDoor
namespace Go.Proofs.YtkebbmdghnplmaaDoor
namespace KMath

/-- The order of texts, byte by byte. -/
theorem bl_irrefl (a : List UInt8) : Op.bytesLess a a = false := by
  induction a with
  | nil => rfl
  | cons x a ih => simp [Op.bytesLess, ih]

theorem bl_asymm (a b : List UInt8) (h : Op.bytesLess a b = true) : Op.bytesLess b a = false := by
  induction a generalizing b with
  | nil => cases b <;> simp [Op.bytesLess] at *
  | cons x a ih =>
    cases b with
    | nil => simp [Op.bytesLess] at h
    | cons y b =>
      simp only [Op.bytesLess, Bool.or_eq_true, decide_eq_true_eq, Bool.and_eq_true, beq_iff_eq] at h
      simp only [Op.bytesLess, Bool.or_eq_false_iff, decide_eq_false_iff_not, Bool.and_eq_false_iff, beq_eq_false_iff_ne]
      rcases h with h | ⟨rfl, h⟩
      · refine ⟨fun h' => ?_, Or.inl fun e => ?_⟩
        · rw [UInt8.lt_iff_toNat_lt] at h h'; omega
        · subst e; rw [UInt8.lt_iff_toNat_lt] at h; omega
      · exact ⟨fun h' => by rw [UInt8.lt_iff_toNat_lt] at h'; omega, Or.inr (ih b h)⟩

theorem bl_tri (a b : List UInt8) (h : Op.bytesLess a b = false) (h' : Op.bytesLess b a = false) : a = b := by
  induction a generalizing b with
  | nil => cases b with
    | nil => rfl
    | cons y b => simp [Op.bytesLess] at h
  | cons x a ih =>
    cases b with
    | nil => simp [Op.bytesLess] at h'
    | cons y b =>
      simp only [Op.bytesLess, Bool.or_eq_false_iff, decide_eq_false_iff_not, Bool.and_eq_false_iff, beq_eq_false_iff_ne] at h h'
      have e : x = y := by
        rw [UInt8.lt_iff_toNat_lt] at h h'
        exact UInt8.toNat_inj.1 (by omega)
      subst e
      rw [ih b (by simpa using h.2) (by simpa using h'.2)]

theorem bl_trans (a b c : List UInt8) (h : Op.bytesLess a b = true) (h' : Op.bytesLess b c = true) : Op.bytesLess a c = true := by
  induction a generalizing b c with
  | nil =>
    cases c with
    | nil => cases b <;> simp [Op.bytesLess] at *
    | cons z c => simp [Op.bytesLess]
  | cons x a ih =>
    cases b with
    | nil => simp [Op.bytesLess] at h
    | cons y b =>
      cases c with
      | nil => simp [Op.bytesLess] at h'
      | cons z c =>
        simp only [Op.bytesLess, Bool.or_eq_true, decide_eq_true_eq, Bool.and_eq_true, beq_iff_eq, UInt8.lt_iff_toNat_lt] at *
        rcases h with h | ⟨rfl, h⟩ <;> rcases h' with h' | ⟨rfl, h'⟩
        · exact Or.inl (by omega)
        · exact Or.inl h
        · exact Or.inl h'
        · exact Or.inr ⟨rfl, ih b c h h'⟩

theorem bl_drop_eq (a b : List UInt8) (k : Nat) (ha : k < a.length) (hb : k < b.length) (h : a[k] = b[k]) :
    Op.bytesLess (a.drop k) (b.drop k) = Op.bytesLess (a.drop (k + 1)) (b.drop (k + 1)) := by
  rw [List.drop_eq_getElem_cons ha, List.drop_eq_getElem_cons hb]
  simp [Op.bytesLess, h]

theorem bl_drop_ne (a b : List UInt8) (k : Nat) (ha : k < a.length) (hb : k < b.length) (h : a[k] ≠ b[k]) :
    Op.bytesLess (a.drop k) (b.drop k) = decide (a[k] < b[k]) := by
  rw [List.drop_eq_getElem_cons ha, List.drop_eq_getElem_cons hb]
  simp [Op.bytesLess, h]

theorem bl_drop_end (a b : List UInt8) (k : Nat) (hka : k ≤ a.length) (hkb : k ≤ b.length) (h : ¬ (k < a.length ∧ k < b.length)) :
    Op.bytesLess (a.drop k) (b.drop k) = decide (a.length < b.length) := by
  by_cases ha : k < a.length
  · have hb : b.length ≤ k := by omega
    rw [List.drop_of_length_le hb]
    have : ¬ a.length < b.length := by omega
    simp [Op.bytesLess, this]
  · rw [List.drop_of_length_le (show a.length ≤ k by omega)]
    by_cases hb : k < b.length
    · rw [List.drop_eq_getElem_cons hb]
      have : a.length < b.length := by omega
      simp [Op.bytesLess, this]
    · rw [List.drop_of_length_le (show b.length ≤ k by omega)]
      have : ¬ a.length < b.length := by omega
      simp [Op.bytesLess, this]

/-- The order of two texts, and of two numbers. -/
def cmpS (a b : ByteArray) : Int := if Op.bytesLess a.toList b.toList then -1 else if Op.bytesLess b.toList a.toList then 1 else 0
def cmpN (m n : Int) : Int := if m < n then -1 else if n < m then 1 else 0

/-- The order of two entries, of their keys and numbers (P1.3). -/
def cmpE (a b : ByteArray) (m n : Int) : Int := if cmpS a b = 0 then cmpN n m else cmpS a b

theorem cmpS_lt {a b : ByteArray} (h : Op.bytesLess a.toList b.toList = true) : cmpS a b = -1 := by simp [cmpS, h]
theorem cmpS_gt {a b : ByteArray} (h : Op.bytesLess b.toList a.toList = true) : cmpS a b = 1 := by simp [cmpS, h, bl_asymm _ _ h]
theorem cmpS_eq {a b : ByteArray} (h : Op.bytesLess a.toList b.toList = false) (h' : Op.bytesLess b.toList a.toList = false) : cmpS a b = 0 := by simp [cmpS, h, h']
theorem cmpS_self (a : ByteArray) : cmpS a a = 0 := by simp [cmpS, bl_irrefl]
theorem cmpN_self (m : Int) : cmpN m m = 0 := by simp [cmpN]
theorem cmpE_self (a : ByteArray) (m : Int) : cmpE a a m m = 0 := by simp [cmpE, cmpS_self, cmpN_self]
theorem cmpE_ne {a b : ByteArray} {m n : Int} (h : cmpS a b ≠ 0) : cmpE a b m n = cmpS a b := by simp [cmpE, h]
theorem cmpE_eq {a b : ByteArray} {m n : Int} (h : cmpS a b = 0) : cmpE a b m n = cmpN n m := by simp [cmpE, h]

theorem cmpS_cases (a b : ByteArray) : (Op.bytesLess a.toList b.toList = true ∧ cmpS a b = -1) ∨ (a.toList = b.toList ∧ cmpS a b = 0) ∨ (Op.bytesLess b.toList a.toList = true ∧ cmpS a b = 1) := by
  cases h1 : Op.bytesLess a.toList b.toList
  · cases h2 : Op.bytesLess b.toList a.toList
    · exact .inr (.inl ⟨bl_tri _ _ h1 h2, cmpS_eq h1 h2⟩)
    · exact .inr (.inr ⟨rfl, cmpS_gt h2⟩)
  · exact .inl ⟨rfl, cmpS_lt h1⟩

theorem cmpE_range (a b : ByteArray) (m n : Int) : -1 ≤ cmpE a b m n ∧ cmpE a b m n ≤ 1 := by
  unfold cmpE cmpN
  rcases cmpS_cases a b with ⟨_, h⟩ | ⟨_, h⟩ | ⟨_, h⟩ <;> rw [h] <;> (try split) <;> (try split) <;> omega

theorem cmpE_neg (a b : ByteArray) (m n : Int) : cmpE b a n m = - cmpE a b m n := by
  unfold cmpE
  rcases cmpS_cases a b with ⟨h', h⟩ | ⟨h', h⟩ | ⟨h', h⟩
  · rw [h, cmpS_gt h']; rfl
  · have h2 : cmpS b a = 0 := by unfold cmpS; rw [h', bl_irrefl]; rfl
    rw [h, h2]
    unfold cmpN
    simp only [if_true]
    split <;> (try split) <;> (try split) <;> omega
  · rw [h, cmpS_lt h']; rfl

theorem cmpE_zero_iff (a b : ByteArray) (m n : Int) : cmpE a b m n = 0 ↔ a.toList = b.toList ∧ m = n := by
  unfold cmpE
  rcases cmpS_cases a b with ⟨h', h⟩ | ⟨h', h⟩ | ⟨h', h⟩
  · rw [h]
    refine ⟨fun e => by simp at e, fun ⟨e, _⟩ => ?_⟩
    rw [e, bl_irrefl] at h'; cases h'
  · rw [h]
    unfold cmpN
    simp only [if_true]
    constructor
    · intro e; exact ⟨h', by split at e <;> (try split at e) <;> omega⟩
    · rintro ⟨_, rfl⟩; simp
  · rw [h]
    refine ⟨fun e => by simp at e, fun ⟨e, _⟩ => ?_⟩
    rw [e, bl_irrefl] at h'; cases h'

theorem cmpE_trans (k1 k2 k3 : ByteArray) (s1 s2 s3 : Int) :
    (cmpE k1 k2 s1 s2 ≤ 0 → cmpE k2 k3 s2 s3 ≤ 0 → cmpE k1 k3 s1 s3 ≤ 0) ∧ (0 ≤ cmpE k1 k2 s1 s2 → 0 ≤ cmpE k2 k3 s2 s3 → 0 ≤ cmpE k1 k3 s1 s3) ∧
    (cmpE k1 k2 s1 s2 = 0 → cmpE k2 k3 s2 s3 = 0 → cmpE k1 k3 s1 s3 = 0) ∧ (cmpE k1 k2 s1 s2 < 0 → cmpE k2 k3 s2 s3 ≤ 0 → cmpE k1 k3 s1 s3 < 0) := by
  unfold cmpE
  rcases cmpS_cases k1 k2 with ⟨h1, e1⟩ | ⟨h1, e1⟩ | ⟨h1, e1⟩ <;> rcases cmpS_cases k2 k3 with ⟨h2, e2⟩ | ⟨h2, e2⟩ | ⟨h2, e2⟩
  · have e3 : cmpS k1 k3 = -1 := cmpS_lt (bl_trans _ _ _ h1 h2)
    rw [e1, e2, e3]; simp
  · have e3 : cmpS k1 k3 = -1 := cmpS_lt (by rw [← h2]; exact h1)
    rw [e1, e2, e3]; simp
  · rw [e1, e2]; simp
  · have e3 : cmpS k1 k3 = -1 := cmpS_lt (by rw [h1]; exact h2)
    rw [e1, e2, e3]; simp
  · have e3 : cmpS k1 k3 = 0 := by unfold cmpS; rw [h1, h2, bl_irrefl]; rfl
    rw [e1, e2, e3]
    unfold cmpN
    simp only [if_true]
    refine ⟨?_, ?_, ?_, ?_⟩ <;> (repeat' split) <;> omega
  · have e3 : cmpS k1 k3 = 1 := cmpS_gt (by rw [h1]; exact h2)
    rw [e1, e2, e3]; simp
  · rw [e1, e2]; simp
  · have e3 : cmpS k1 k3 = 1 := cmpS_gt (by rw [← h2]; exact h1)
    rw [e1, e2, e3]; simp
  · have e3 : cmpS k1 k3 = 1 := cmpS_gt (bl_trans _ _ _ h2 h1)
    rw [e1, e2, e3]; simp

end KMath
end Go.Proofs.YtkebbmdghnplmaaDoor
namespace Go.Proofs.YtkebbmdghnplmaaDoor
namespace Qb
open CMath Byt KMath
set_option linter.unusedVariables false
set_option linter.unusedSimpArgs false

/-! The block's mathematics: entries, their bytes, the walk, the maker. -/
abbrev En := ByteArray × Int × Bool × ByteArray
def kB (e : En) : List Nat := strB e.1
def vB (e : En) : List Nat := strB e.2.2.2
/-- How many first bytes are the same. -/
def shr : List Nat → List Nat → Nat
  | a :: l, b :: r => if a = b then shr l r + 1 else 0
  | _, _ => 0
theorem shr_le_left (l r : List Nat) : shr l r ≤ l.length := by
  induction l generalizing r with
  | nil => simp [shr]
  | cons a l ih =>
    cases r with
    | nil => simp [shr]
    | cons b r =>
      simp only [shr]
      split
      · have := ih r; simp; omega
      · simp
theorem shr_le_right (l r : List Nat) : shr l r ≤ r.length := by
  induction l generalizing r with
  | nil => simp [shr]
  | cons a l ih =>
    cases r with
    | nil => simp [shr]
    | cons b r =>
      simp only [shr]
      split
      · have := ih r; simp; omega
      · simp
theorem shr_take (l r : List Nat) : ∀ s, s ≤ shr l r → l.take s = r.take s := by
  induction l generalizing r with
  | nil => intro s h; simp [shr] at h; subst h; simp
  | cons a l ih =>
    intro s h
    cases r with
    | nil => simp [shr] at h; subst h; simp
    | cons b r =>
      cases s with
      | zero => simp
      | succ s =>
        simp only [shr] at h
        split at h
        · rename_i e; subst e
          rw [List.take_succ_cons, List.take_succ_cons, ih r s (by omega)]
        · omega
/-- The shared bytes, found from the left. -/
theorem shr_at (l r : List Nat) (k : Nat) (h : l.take k = r.take k) (hl : k < l.length) (hr : k < r.length) (hne : l[k]? ≠ r[k]?) : shr l r = k := by
  induction l generalizing r k with
  | nil => simp at hl
  | cons a l ih =>
    cases r with
    | nil => simp at hr
    | cons b r =>
      cases k with
      | zero => simp at hne; simp [shr, hne]
      | succ k =>
        rw [List.take_succ_cons, List.take_succ_cons] at h
        simp only [List.cons.injEq] at h
        simp only [shr, if_pos h.1]
        rw [ih r k h.2 (by simpa using hl) (by simpa using hr) (by simpa using hne)]
theorem shr_end (l r : List Nat) (k : Nat) (hk : k = min l.length r.length) (h : l.take k = r.take k) : shr l r = k := by
  induction l generalizing r k with
  | nil => simp at hk; simp [shr, hk]
  | cons a l ih =>
    cases r with
    | nil => simp at hk; simp [shr, hk]
    | cons b r =>
      cases k with
      | zero => simp at hk
      | succ k =>
        rw [List.take_succ_cons, List.take_succ_cons] at h
        simp only [List.cons.injEq] at h
        simp only [shr, if_pos h.1]
        rw [ih r k (by simp at hk; omega) h.2]

def tag (e : En) : Nat := 2 * e.2.1.toNat + (if e.2.2.1 then 1 else 0)
/-- The bytes of an entry, so many of whose key's bytes are shared (P9.3). -/
def entB (s : Nat) (e : En) : List Nat := num s ++ (num ((kB e).length - s) ++ (num (tag e) ++ ((kB e).drop s ++ (if e.2.2.1 then [] else words (vB e)))))

/-- Why an entry can't be written (P9.1, P9.4). -/
def fault (e : En) : Int :=
  if e.1.size = 0 then 10 else if 64 < e.1.size then 11 else if e.2.2.1 = false ∧ 512 < e.2.2.2.size then 12
  else if 72057594037927935 < e.2.1 ∨ (e.2.2.1 = true ∧ e.2.2.2.size ≠ 0) then 91 else 0
/-- What Add answers behind a key. -/
def adds (last : ByteArray) (e : En) : Int := if fault e ≠ 0 then fault e else if Op.bytesLess last.data.toList e.1.data.toList = true then 0 else 90

structure Ok (e : En) : Prop where
  k1 : 1 ≤ e.1.size
  k2 : e.1.size ≤ 64
  v : e.2.2.1 = false → e.2.2.2.size ≤ 512
  q : e.2.1 ≤ 72057594037927935
  d : e.2.2.1 = true → e.2.2.2.size = 0
theorem fault_ok {e : En} (h : fault e = 0) : Ok e := by
  unfold fault at h
  split at h
  · simp at h
  split at h
  · simp at h
  split at h
  · simp at h
  split at h
  · simp at h
  rename_i h1 h2 h3 h4
  refine ⟨by omega, by omega, fun hd => ?_, ?_, fun hd => ?_⟩
  · rcases Nat.lt_or_ge 512 e.2.2.2.size with hv | hv
    · exact absurd ⟨hd, hv⟩ h3
    · exact hv
  · by_cases hq : 72057594037927935 < e.2.1
    · exact absurd (.inl hq) h4
    · omega
  · by_cases hv : e.2.2.2.size = 0
    · exact hv
    · exact absurd (.inr ⟨hd, hv⟩) h4
theorem adds_ok {last : ByteArray} {e : En} (h : adds last e = 0) : fault e = 0 ∧ Op.bytesLess last.data.toList e.1.data.toList = true := by
  unfold adds at h
  split at h
  · contradiction
  · rename_i h1
    split at h
    · rename_i h2; exact ⟨by simpa using h1, h2⟩
    · simp at h

/-- An entry read behind a key: it, and how many bytes it takes. -/
def rdE (b : List Nat) (ah : List Nat) : Option (En × Nat) :=
  if (rd b 0 0).2.2 ≠ 0 then none else
  if (rd (b.drop (rd b 0 0).2.1) 0 0).2.2 ≠ 0 then none else
  if (rd (b.drop ((rd b 0 0).2.1 + (rd (b.drop (rd b 0 0).2.1) 0 0).2.1)) 0 0).2.2 ≠ 0 then none else
  rdK b ah (rd b 0 0).1 (rd (b.drop (rd b 0 0).2.1) 0 0).1 (rd (b.drop ((rd b 0 0).2.1 + (rd (b.drop (rd b 0 0).2.1) 0 0).2.1)) 0 0).1 ((rd b 0 0).2.1 + (rd (b.drop (rd b 0 0).2.1) 0 0).2.1 + (rd (b.drop ((rd b 0 0).2.1 + (rd (b.drop (rd b 0 0).2.1) 0 0).2.1)) 0 0).2.1)
where
  rdK (b ah : List Nat) (s m t p : Nat) : Option (En × Nat) :=
    if ah.length < s ∨ 64 < s + m ∨ b.length - p < m then none
    else if t % 2 = 1 then some ((ofB (ah.take s ++ (b.drop p).take m), ((t / 2 : Nat) : Int), true, ⟨#[]⟩), p + m)
    else if (text (b.drop (p + m)) 512).2.2 ≠ 0 then none
    else some ((ofB (ah.take s ++ (b.drop p).take m), ((t / 2 : Nat) : Int), false, ofB (text (b.drop (p + m)) 512).1), p + m + (text (b.drop (p + m)) 512).2.1)

theorem rd_is (n : Nat) (more : List Nat) (h : n < 18446744073709551616) : rd (num n ++ more) 0 0 = (n, (num n).length, 0) := by
  have := rd_num more n 0 0 (by simpa using h) (by omega)
  simpa using this
theorem text_is (s more : List Nat) (h : s.length ≤ 512) : text (words s ++ more) 512 = (s, (words s).length, 0) := by
  have e : rd (words s ++ more) 0 0 = (s.length, (num s.length).length, 0) := by
    unfold words
    rw [List.append_assoc]
    exact rd_is _ _ (by omega)
  unfold text
  rw [e]
  simp only [ne_eq, not_true_eq_false, if_false]
  rw [if_neg (by omega), if_neg (by simp [words])]
  have : words s ++ more = num s.length ++ (s ++ more) := by simp [words]
  rw [this, List.drop_left, List.take_left]
  simp [words]

theorem ofB_strB (s : ByteArray) : ofB (strB s) = s := strB_inj (strB_ofB (strB_byte s))
theorem size0 {v : ByteArray} (h : v.size = 0) : v = ⟨#[]⟩ := by
  apply strB_inj
  have : (strB v).length = 0 := by rw [strB_length]; exact h
  rw [List.eq_nil_of_length_eq_zero this]
  rfl

/-- What is written is read again. -/
theorem rdE_entB (s : Nat) (e : En) (ah more : List Nat) (h : Ok e) (h0 : 0 ≤ e.2.1) (hs : s ≤ shr ah (kB e)) : rdE (entB s e ++ more) ah = some (e, (entB s e).length) := by
  obtain ⟨k, q, d, v⟩ := e
  obtain ⟨k1, k2, hv, hq, hd⟩ := h
  simp only at k1 k2 hv hq hd h0
  obtain ⟨q, rfl⟩ := Int.eq_ofNat_of_zero_le h0
  have hsk := shr_le_right ah (kB (k, (q : Int), d, v))
  have hsa := shr_le_left ah (kB (k, (q : Int), d, v))
  have hkl : (kB (k, (q : Int), d, v)).length = k.size := strB_length k
  have ht : tag (k, (q : Int), d, v) < 18446744073709551616 := by
    unfold tag; simp only [Int.toNat_natCast]; split <;> omega
  generalize hK : kB (k, (q : Int), d, v) = K at *
  have e1 : ∀ m2, rd (num s ++ m2) 0 0 = (s, (num s).length, 0) := fun m2 => rd_is _ _ (by omega)
  have e2 : ∀ m2, rd (num (K.length - s) ++ m2) 0 0 = (K.length - s, (num (K.length - s)).length, 0) := fun m2 => rd_is _ _ (by omega)
  have e3 : ∀ m2, rd (num (tag (k, (q : Int), d, v)) ++ m2) 0 0 = (tag (k, (q : Int), d, v), (num (tag (k, (q : Int), d, v))).length, 0) := fun m2 => rd_is _ _ ht
  have hB : entB s (k, (q : Int), d, v) ++ more = num s ++ (num (K.length - s) ++ (num (tag (k, (q : Int), d, v)) ++ (K.drop s ++ ((if d then [] else words (vB (k, (q : Int), d, v))) ++ more)))) := by
    unfold entB
    rw [hK]
    simp
  have hL : (entB s (k, (q : Int), d, v)).length = (num s).length + (num (K.length - s)).length + (num (tag (k, (q : Int), d, v))).length + (K.length - s) + (if d then [] else words (vB (k, (q : Int), d, v))).length := by
    unfold entB
    rw [hK]
    simp only [List.length_append, List.length_drop]
    omega
  rw [hB, hL]
  generalize hR : (if d then [] else words (vB (k, (q : Int), d, v))) = R at *
  generalize hT : tag (k, (q : Int), d, v) = T at *
  have d1 : ∀ x, (num s ++ x).drop (num s).length = x := fun x => List.drop_left
  have d2 : ∀ x, (num s ++ (num (K.length - s) ++ x)).drop ((num s).length + (num (K.length - s)).length) = x := by
    intro x
    rw [← List.drop_drop, List.drop_left, List.drop_left]
  have d3 : ∀ x, (num s ++ (num (K.length - s) ++ (num T ++ x))).drop ((num s).length + (num (K.length - s)).length + (num T).length) = x := by
    intro x
    rw [← List.drop_drop, d2, List.drop_left]
  have d4 : ∀ x, (num s ++ (num (K.length - s) ++ (num T ++ (K.drop s ++ x)))).drop ((num s).length + (num (K.length - s)).length + (num T).length + (K.length - s)) = x := by
    intro x
    rw [← List.drop_drop, d3]
    have : (K.drop s).length = K.length - s := by simp
    rw [← this, List.drop_left]
  unfold rdE
  rw [e1]
  simp only [ne_eq, not_true_eq_false, if_false, d1, e2, d2, e3]
  unfold rdE.rdK
  rw [if_neg (by
    simp only [List.length_append, List.length_drop]
    omega)]
  rw [d3, d4]
  have hkey : ofB (ah.take s ++ List.take (K.length - s) (K.drop s ++ (R ++ more))) = k := by
    have : (K.drop s).length = K.length - s := by simp
    rw [← this, List.take_left, shr_take _ _ s hs, List.take_append_drop, ← hK]
    exact ofB_strB k
  rw [hkey]
  cases d with
  | true =>
    have hTv : T % 2 = 1 ∧ T / 2 = q := by rw [← hT]; unfold tag; simp; omega
    rw [if_pos hTv.1, hTv.2]
    simp only [if_true] at hR
    subst hR
    rw [size0 (hd rfl)]
    simp
  | false =>
    have hTv : T % 2 ≠ 1 ∧ T / 2 = q := by rw [← hT]; unfold tag; simp
    rw [if_neg hTv.1, hTv.2]
    simp only [Bool.false_eq_true, if_false] at hR
    have hx : text (R ++ more) 512 = (vB (k, (q : Int), false, v), R.length, 0) := by
      rw [← hR]
      refine text_is _ _ ?_
      unfold vB
      rw [strB_length]
      exact hv rfl
    rw [hx]
    simp only [ne_eq, not_true_eq_false, if_false]
    have : ofB (vB (k, (q : Int), false, v)) = v := ofB_strB v
    rw [this]

/-- The entries of bytes, each with how many bytes it takes. -/
def wk (b ah : List Nat) : List (En × Nat) :=
  if hb : b = [] then []
  else match rdE b ah with
    | none => []
    | some x => if h0 : x.2 = 0 then [] else x :: wk (b.drop x.2) (kB x.1)
  termination_by b.length
  decreasing_by
    have : 0 < b.length := List.length_pos_iff.2 hb
    simp; omega
theorem wk_nil (ah : List Nat) : wk [] ah = [] := by rw [wk, dif_pos rfl]
theorem wk_none {b ah : List Nat} (h : rdE b ah = none) : wk b ah = [] := by
  rw [wk]
  split
  · rfl
  · rw [h]
theorem rd_pos {l : List Nat} (h : (rd l 0 0).2.2 = 0) (hb : ∀ x ∈ l, x < 256) : 0 < (rd l 0 0).2.1 := by
  obtain ⟨m, _, e2, _⟩ := rd_ok l hb 0 0 _ _ (by omega) (show rd l 0 0 = ((rd l 0 0).1, (rd l 0 0).2.1, 0) from Prod.ext rfl (Prod.ext rfl h))
  have := num_pos m
  omega
theorem rdE_pos {b ah : List Nat} {x : En × Nat} (h : rdE b ah = some x) (hb : ∀ x ∈ b, x < 256) : 0 < x.2 := by
  unfold rdE at h
  split at h
  · cases h
  split at h
  · cases h
  split at h
  · cases h
  rename_i h1 h2 h3
  have := rd_pos (by simpa using h1) hb
  unfold rdE.rdK at h
  split at h
  · cases h
  split at h
  · cases h; simp only; omega
  split at h
  · cases h
  · cases h; simp only; omega
theorem wk_some {b ah : List Nat} {x : En × Nat} (hb : b ≠ []) (hB : ∀ x ∈ b, x < 256) (h : rdE b ah = some x) : wk b ah = x :: wk (b.drop x.2) (kB x.1) := by
  have := rdE_pos h hB
  conv => lhs; rw [wk]
  rw [dif_neg hb, h]
  simp only
  rw [dif_neg (by omega)]

/-- The bytes of entries behind others. -/
def tl (r : Nat) : Nat → List Nat → List En → List Nat
  | _, _, [] => []
  | n, last, e :: l => entB (if n % r = 0 then 0 else shr last (kB e)) e ++ tl r (n + 1) (kB e) l
theorem entB_byte (s : Nat) (e : En) : ∀ x ∈ entB s e, x < 256 := by
  intro x hx
  unfold entB at hx
  simp only [List.mem_append] at hx
  rcases hx with hx | hx | hx | hx | hx
  · exact num_byte _ x hx
  · exact num_byte _ x hx
  · exact num_byte _ x hx
  · exact strB_byte _ x (List.mem_of_mem_drop hx)
  · split at hx
    · simp at hx
    · unfold words at hx
      rcases List.mem_append.1 hx with hx | hx
      · exact num_byte _ x hx
      · exact strB_byte _ x hx
theorem tl_byte (r : Nat) (l : List En) : ∀ n last, ∀ x ∈ tl r n last l, x < 256 := by
  induction l with
  | nil => intro n last x hx; simp [tl] at hx
  | cons e l ih =>
    intro n last x hx
    simp only [tl] at hx
    rcases List.mem_append.1 hx with hx | hx
    · exact entB_byte _ _ x hx
    · exact ih _ _ x hx
theorem entB_pos (s : Nat) (e : En) : 0 < (entB s e).length := by
  unfold entB
  have := num_pos s
  simp only [List.length_append]; omega
theorem entB_ne (s : Nat) (e : En) (m : List Nat) : entB s e ++ m ≠ [] := by
  intro h
  have := congrArg List.length h
  have hp := entB_pos s e
  simp at this
  rw [this.1] at hp
  simp at hp

def szs (r : Nat) : Nat → List Nat → List En → List (En × Nat)
  | _, _, [] => []
  | n, last, e :: l => (e, (entB (if n % r = 0 then 0 else shr last (kB e)) e).length) :: szs r (n + 1) (kB e) l
theorem szs_map (r : Nat) (l : List En) : ∀ n last, (szs r n last l).map Prod.fst = l := by
  induction l with
  | nil => intro n last; rfl
  | cons e l ih => intro n last; simp only [szs, List.map_cons, ih]
/-- What the walk finds in the bytes of entries: just these. -/
theorem wk_tl (r : Nat) (l : List En) (hok : ∀ e ∈ l, Ok e ∧ 0 ≤ e.2.1) : ∀ n last ah, (ah = last ∨ n % r = 0) → wk (tl r n last l) ah = szs r n last l := by
  induction l with
  | nil => intro n last ah _; simp only [tl, szs]; exact wk_nil _
  | cons e l ih =>
    intro n last ah h
    have he := hok e (by simp)
    simp only [tl, szs]
    rw [wk_some (entB_ne _ _ _) (fun x hx => by
      rcases List.mem_append.1 hx with hx | hx
      · exact entB_byte _ _ x hx
      · exact tl_byte _ _ _ _ x hx) (rdE_entB _ e ah _ he.1 he.2 (by
        split
        · omega
        · rename_i hn
          rcases h with h | h
          · rw [h]; exact Nat.le_refl _
          · exact absurd h hn))]
    simp only
    rw [List.drop_left, ih (fun x hx => hok x (by simp [hx])) _ _ _ (.inl rfl)]

/-! The maker. -/
structure St where
  b : List Nat
  p : List Nat
  n : Nat
  last : ByteArray
def sh (r : Nat) (s : St) (e : En) : Nat := if s.n % r = 0 then 0 else shr (strB s.last) (kB e)
def plc (r : Nat) (s : St) : List Nat := if s.n % r = 0 then s.p ++ four s.b.length else s.p
def push (r : Nat) (s : St) (e : En) : St := ⟨s.b ++ entB (sh r s e) e, plc r s, s.n + 1, e.1⟩
def st0 : St := ⟨[], [], 0, ⟨#[]⟩⟩
def pushes (r : Nat) (s : St) (l : List En) : St := l.foldl (push r) s
def blk0 (s : St) : List Nat := s.b ++ s.p ++ four (s.p.length / 4)
def blk (s : St) : List Nat := blk0 s ++ four (crc (blk0 s))
/-- All of the entries are taken. -/
def chain : ByteArray → List En → Prop
  | _, [] => True
  | last, e :: l => adds last e = 0 ∧ chain e.1 l
theorem pushes_b (r : Nat) (l : List En) : ∀ s, (pushes r s l).b = s.b ++ tl r s.n (strB s.last) l := by
  induction l with
  | nil => intro s; simp [pushes, tl]
  | cons e l ih =>
    intro s
    show (pushes r (push r s e) l).b = _
    rw [ih]
    simp only [push, tl, sh, List.append_assoc]
    rfl
theorem pushes_last (r : Nat) (s : St) (l : List En) (e : En) : (pushes r s (l ++ [e])).last = e.1 := by
  unfold pushes
  rw [List.foldl_append]
  rfl
theorem pushes_n (r : Nat) (l : List En) : ∀ s, (pushes r s l).n = s.n + l.length := by
  induction l with
  | nil => intro s; rfl
  | cons e l ih =>
    intro s
    show (pushes r (push r s e) l).n = _
    rw [ih]
    simp only [push, List.length_cons]; omega
theorem pushes_snoc (r : Nat) (s : St) (l : List En) (e : En) : pushes r s (l ++ [e]) = push r (pushes r s l) e := by
  unfold pushes
  rw [List.foldl_append]
  rfl
theorem chain_ok {last : ByteArray} {l : List En} (h : chain last l) : ∀ e ∈ l, Ok e := by
  induction l generalizing last with
  | nil => intro e he; simp at he
  | cons x l ih =>
    intro e he
    rcases List.mem_cons.1 he with rfl | he
    · exact fault_ok (adds_ok h.1).1
    · exact ih h.2 e he

end Qb
end Go.Proofs.YtkebbmdghnplmaaDoor
namespace Go.Proofs.YtkebbmdghnplmaaDoor
namespace Qb
open CMath Byt KMath
set_option linter.unusedVariables false
set_option linter.unusedSimpArgs false

/-! Open's mathematics: which restart, and that what was made is read again. -/
theorem pushes_app (r : Nat) (s : St) (l m : List En) : pushes r s (l ++ m) = pushes r (pushes r s l) m := by
  unfold pushes; rw [List.foldl_append]
theorem pushes_cons (r : Nat) (s : St) (e : En) (l : List En) : pushes r s (e :: l) = pushes r (push r s e) l := rfl
theorem four_len (x : Nat) : (four x).length = 4 := rfl
theorem plc_pre (r : Nat) (s : St) : ∃ m, plc r s = s.p ++ m := by
  unfold plc
  split
  · exact ⟨_, rfl⟩
  · exact ⟨[], by simp⟩
theorem pushes_pre (r : Nat) (l : List En) : ∀ s, ∃ m, (pushes r s l).p = s.p ++ m := by
  induction l with
  | nil => intro s; exact ⟨[], by simp [pushes]⟩
  | cons e l ih =>
    intro s
    obtain ⟨m, hm⟩ := ih (push r s e)
    obtain ⟨m', hm'⟩ := plc_pre r s
    refine ⟨m' ++ m, ?_⟩
    rw [pushes_cons, hm]
    show plc r s ++ m = _
    rw [hm', List.append_assoc]
theorem pushes_p4 (r : Nat) (l : List En) : ∀ s, s.p.length % 4 = 0 → (pushes r s l).p.length % 4 = 0 := by
  induction l with
  | nil => intro s h; exact h
  | cons e l ih =>
    intro s h
    rw [pushes_cons]
    refine ih _ ?_
    show (plc r s).length % 4 = 0
    unfold plc
    split
    · rw [List.length_append, four_len]; omega
    · exact h
theorem plc_byte (r : Nat) (s : St) (h : ∀ x ∈ s.p, x < 256) : ∀ x ∈ plc r s, x < 256 := by
  intro x hx
  unfold plc at hx
  split at hx
  · rcases List.mem_append.1 hx with hx | hx
    · exact h x hx
    · exact four_byte _ x hx
  · exact h x hx
theorem pushes_pbyte (r : Nat) (l : List En) : ∀ s, (∀ x ∈ s.p, x < 256) → ∀ x ∈ (pushes r s l).p, x < 256 := by
  induction l with
  | nil => intro s h; exact h
  | cons e l ih =>
    intro s h
    rw [pushes_cons]
    exact ih _ (plc_byte r s h)
/-- No restart point besides, as long as none is reached. -/
theorem pushes_none (r : Nat) (l : List En) : ∀ s, (∀ i, i < l.length → (s.n + i) % r ≠ 0) → (pushes r s l).p = s.p := by
  induction l with
  | nil => intro s _; rfl
  | cons e l ih =>
    intro s h
    rw [pushes_cons, ih _ (fun i hi => by
      have := h (i + 1) (by simpa using hi)
      show (s.n + 1 + i) % r ≠ 0
      rw [show s.n + 1 + i = s.n + (i + 1) by omega]
      exact this)]
    show plc r s = s.p
    unfold plc
    rw [if_neg (by have := h 0 (by simp); simpa using this)]
theorem pushes_eq (r r' : Nat) (l : List En) : ∀ s, (∀ i, i < l.length → ((s.n + i) % r = 0 ↔ (s.n + i) % r' = 0)) → pushes r s l = pushes r' s l := by
  induction l with
  | nil => intro s _; rfl
  | cons e l ih =>
    intro s h
    have h0 := h 0 (by simp)
    simp only [Nat.add_zero] at h0
    have e1 : push r s e = push r' s e := by
      unfold push sh plc
      by_cases hz : s.n % r = 0
      · rw [if_pos hz, if_pos hz, if_pos (h0.1 hz), if_pos (h0.1 hz)]
      · have hz' : ¬ s.n % r' = 0 := fun h' => hz (h0.2 h')
        rw [if_neg hz, if_neg hz, if_neg hz', if_neg hz']
    rw [pushes_cons, pushes_cons, e1]
    refine ih _ fun i hi => ?_
    have := h (i + 1) (by simpa using hi)
    show (s.n + 1 + i) % r = 0 ↔ (s.n + 1 + i) % r' = 0
    rw [show s.n + 1 + i = s.n + (i + 1) by omega]
    exact this
theorem mod_zero_small {i r : Nat} (h : i < r) : i % r = 0 ↔ i = 0 := by rw [Nat.mod_eq_of_lt h]

/-- The first r entries have one restart point, and the next one begins the second. -/
theorem p_first (r : Nat) (l : List En) (hr : 1 ≤ r) (hl : l.length ≤ r) (hne : l ≠ []) : (pushes r st0 l).p = four 0 := by
  cases l with
  | nil => exact absurd rfl hne
  | cons e l =>
    rw [pushes_cons, pushes_none]
    · show plc r st0 = _
      unfold plc
      rw [if_pos (by simp [st0])]
      rfl
    · intro i hi
      show (0 + 1 + i) % r ≠ 0
      rw [Nat.mod_eq_of_lt (by simp at hl; omega)]
      omega
theorem p_nil (r : Nat) : (pushes r st0 []).p = [] := rfl
theorem p_second (r : Nat) (l1 : List En) (e : En) (l2 : List En) (hr : 1 ≤ r) (h1 : l1.length = r) : ∃ m, (pushes r st0 (l1 ++ e :: l2)).p = four 0 ++ (four (pushes r st0 l1).b.length ++ m) := by
  rw [pushes_app, pushes_cons]
  obtain ⟨m, hm⟩ := pushes_pre r l2 (push r (pushes r st0 l1) e)
  refine ⟨m, ?_⟩
  rw [hm]
  show plc r (pushes r st0 l1) ++ m = _
  unfold plc
  have hn : (pushes r st0 l1).n = r := by rw [pushes_n, h1]; simp [st0]
  rw [if_pos (by rw [hn]; exact Nat.mod_self r), p_first r l1 hr (by omega) (by intro h; rw [h] at h1; simp at h1; omega)]
  simp

/-- How many entries are ahead of a place. -/
def cnt : List (En × Nat) → Nat → Nat → Nat
  | [], _, _ => 0
  | x :: t, p, q => if p = q then 0 else cnt t (p + x.2) q + 1
def sumS (l : List (En × Nat)) : Nat := (l.map Prod.snd).foldr (· + ·) 0
theorem sumS_cons (x : En × Nat) (l : List (En × Nat)) : sumS (x :: l) = x.2 + sumS l := rfl
theorem cnt_at (l m : List (En × Nat)) (hp : ∀ x ∈ l, 0 < x.2) (hm : m ≠ []) : ∀ p q, q = p + sumS l → cnt (l ++ m) p q = l.length := by
  induction l with
  | nil =>
    intro p q hq
    cases m with
    | nil => exact absurd rfl hm
    | cons x m => simp [sumS] at hq; simp [cnt, hq]
  | cons x l ih =>
    intro p q hq
    have h0 := hp x (by simp)
    rw [sumS_cons] at hq
    simp only [List.cons_append, cnt]
    rw [if_neg (by omega), ih (fun y hy => hp y (by simp [hy])) (p + x.2) q (by omega)]
    rfl
theorem szs_pos (r : Nat) (l : List En) : ∀ n last, ∀ x ∈ szs r n last l, 0 < x.2 := by
  induction l with
  | nil => intro n last x hx; simp [szs] at hx
  | cons e l ih =>
    intro n last x hx
    simp only [szs, List.mem_cons] at hx
    rcases hx with rfl | hx
    · exact entB_pos _ _
    · exact ih _ _ x hx
theorem szs_sum (r : Nat) (l : List En) : ∀ n last, sumS (szs r n last l) = (tl r n last l).length := by
  induction l with
  | nil => intro n last; rfl
  | cons e l ih => intro n last; simp only [szs, tl, sumS_cons, ih, List.length_append]
theorem szs_app (r : Nat) (l m : List En) : ∀ n last, ∃ last', szs r n last (l ++ m) = szs r n last l ++ szs r (n + l.length) last' m := by
  induction l with
  | nil => intro n last; exact ⟨last, by simp [szs]⟩
  | cons e l ih =>
    intro n last
    obtain ⟨last', h⟩ := ih (n + 1) (kB e)
    refine ⟨last', ?_⟩
    simp only [List.cons_append, szs, h, List.length_cons]
    rw [show n + 1 + l.length = n + (l.length + 1) by omega]
theorem szs_length (r : Nat) (l : List En) : ∀ n last, (szs r n last l).length = l.length := by
  induction l with
  | nil => intro n last; rfl
  | cons e l ih => intro n last; simp [szs, ih]

/-- The restart that a block can have. -/
def rst (eb pb : List Nat) : Nat := if pb.length / 4 < 2 then 9223372036854775807 else cnt (wk eb []) 0 (val ((pb.drop 4).take 4))
/-- What Open takes of bytes: the restart, and the entries. -/
noncomputable def opn (b : List Nat) : Option (Nat × List En) :=
  if b.length < 8 then none
  else if b.length - 8 < 4 * val ((b.drop (b.length - 8)).take 4) then none
  else opn2 b (b.length - 8 - 4 * val ((b.drop (b.length - 8)).take 4))
where
  opn2 (b : List Nat) (p : Nat) : Option (Nat × List En) := opn3 b (b.take p) (rst (b.take p) ((b.drop p).take (b.length - 8 - p)))
  opn3 (b eb : List Nat) (r : Nat) : Option (Nat × List En) := open Classical in
    if chain ⟨#[]⟩ ((wk eb []).map Prod.fst) ∧ blk (pushes (max r 1) st0 ((wk eb []).map Prod.fst)) = b then some (max r 1, (wk eb []).map Prod.fst) else none

theorem pushes_len4 (r : Nat) (l : List En) : 4 * ((pushes r st0 l).p.length / 4) = (pushes r st0 l).p.length := by
  have := pushes_p4 r l st0 (by simp [st0])
  omega
theorem blk_len (s : St) : (blk s).length = s.b.length + s.p.length + 8 := by simp [blk, blk0, four_len]; omega
theorem blk_tail (s : St) : (blk s).drop (s.b.length + s.p.length) = four (s.p.length / 4) ++ four (crc (blk0 s)) := by
  unfold blk blk0
  have : s.b ++ s.p ++ four (s.p.length / 4) ++ four (crc (s.b ++ s.p ++ four (s.p.length / 4))) = (s.b ++ s.p) ++ (four (s.p.length / 4) ++ four (crc (s.b ++ s.p ++ four (s.p.length / 4)))) := by simp
  rw [this, ← List.length_append, List.drop_left]

theorem rst_mk (r : Nat) (l : List En) (hr : 1 ≤ r) (hok : ∀ e ∈ l, Ok e ∧ 0 ≤ e.2.1) (hb : (pushes r st0 l).b.length < 4294967296) (hl : l.length ≤ 9223372036854775807) :
    1 ≤ rst (pushes r st0 l).b (pushes r st0 l).p ∧ pushes (rst (pushes r st0 l).b (pushes r st0 l).p) st0 l = pushes r st0 l := by
  by_cases hlr : l.length ≤ r
  · have hp : (pushes r st0 l).p.length / 4 < 2 := by
      by_cases hne : l = []
      · subst hne; rw [p_nil]; simp
      · rw [p_first r l hr hlr hne]; simp [four_len]
    unfold rst
    rw [if_pos hp]
    refine ⟨by omega, pushes_eq _ _ l st0 fun i hi => ?_⟩
    show (0 + i) % _ = 0 ↔ (0 + i) % r = 0
    rw [Nat.zero_add, mod_zero_small (by omega), mod_zero_small (by omega)]
  · obtain ⟨l1, e, l2, rfl, h1⟩ : ∃ l1 e l2, l = l1 ++ e :: l2 ∧ l1.length = r := by
      refine ⟨l.take r, l[r]'(by omega), l.drop (r + 1), ?_, by rw [List.length_take]; omega⟩
      rw [← List.drop_eq_getElem_cons, List.take_append_drop]
    obtain ⟨m, hm⟩ := p_second r l1 e l2 hr h1
    have hp : ¬ (pushes r st0 (l1 ++ e :: l2)).p.length / 4 < 2 := by rw [hm]; simp [four_len]
    have hb1 : (pushes r st0 l1).b.length < 4294967296 := by
      rw [pushes_app, pushes_b] at hb
      simp at hb; omega
    have hv : val (((pushes r st0 (l1 ++ e :: l2)).p.drop 4).take 4) = (pushes r st0 l1).b.length := by
      rw [hm]
      have e1 : (four 0 ++ (four (pushes r st0 l1).b.length ++ m)).drop 4 = four (pushes r st0 l1).b.length ++ m := List.drop_left (l₁ := four 0)
      have e2 : (four (pushes r st0 l1).b.length ++ m).take 4 = four (pushes r st0 l1).b.length := List.take_left (l₁ := four _)
      rw [e1, e2]
      exact four_val hb1
    have hw : wk (pushes r st0 (l1 ++ e :: l2)).b [] = szs r 0 [] (l1 ++ e :: l2) := by
      rw [pushes_b]
      exact wk_tl r _ hok 0 [] [] (.inl rfl)
    have hc : rst (pushes r st0 (l1 ++ e :: l2)).b (pushes r st0 (l1 ++ e :: l2)).p = r := by
      unfold rst
      rw [if_neg hp, hv, hw]
      obtain ⟨last', hs⟩ := szs_app r l1 (e :: l2) 0 []
      rw [hs, cnt_at _ _ (szs_pos _ _ _ _) (by simp [szs]), szs_length, h1]
      rw [szs_sum, pushes_b]
      show ([] ++ tl r 0 [] l1).length = _
      simp
    rw [hc]
    exact ⟨hr, rfl⟩

/-- What was made is opened again. -/
theorem opn_mk (r : Nat) (l : List En) (hr : 1 ≤ r) (hc : chain ⟨#[]⟩ l) (h0 : ∀ e ∈ l, 0 ≤ e.2.1) (hb : (pushes r st0 l).b.length < 4294967296) (hpl : (pushes r st0 l).p.length < 4294967296) (hl : l.length ≤ 9223372036854775807) :
    ∃ r', 1 ≤ r' ∧ opn (blk (pushes r st0 l)) = some (r', l) ∧ pushes r' st0 l = pushes r st0 l := by
  have hok : ∀ e ∈ l, Ok e ∧ 0 ≤ e.2.1 := fun e he => ⟨chain_ok hc e he, h0 e he⟩
  obtain ⟨h1, h2⟩ := rst_mk r l hr hok hb hl
  have h4 := pushes_len4 r l
  have hw : (wk (pushes r st0 l).b []).map Prod.fst = l := by
    rw [pushes_b]
    show (wk ([] ++ tl r 0 [] l) []).map Prod.fst = l
    rw [List.nil_append, wk_tl r _ hok 0 [] [] (.inl rfl), szs_map]
  generalize hS : pushes r st0 l = S at *
  have hL := blk_len S
  have hT := blk_tail S
  refine ⟨max (rst S.b S.p) 1, by omega, ?_, by rw [Nat.max_eq_left h1]; exact h2⟩
  have e0 : (blk S).length - 8 = S.b.length + S.p.length := by omega
  have e1 : val (((blk S).drop ((blk S).length - 8)).take 4) = S.p.length / 4 := by
    rw [e0, hT]
    have : (four (S.p.length / 4) ++ four (crc (blk0 S))).take 4 = four (S.p.length / 4) := List.take_left (l₁ := four _)
    rw [this]
    exact four_val (by omega)
  have e2 : blk S = S.b ++ (S.p ++ (four (S.p.length / 4) ++ four (crc (blk0 S)))) := by simp [blk, blk0]
  unfold opn
  rw [if_neg (by omega), e1, if_neg (by omega), h4, show (blk S).length - 8 - S.p.length = S.b.length by omega]
  unfold opn.opn2
  have e3 : (blk S).take S.b.length = S.b := by rw [e2]; exact List.take_left
  have e4 : ((blk S).drop S.b.length).take ((blk S).length - 8 - S.b.length) = S.p := by
    rw [show (blk S).length - 8 - S.b.length = S.p.length by omega]
    rw [e2, List.drop_left, List.take_left]
  rw [e3, e4]
  unfold opn.opn3
  rw [hw, if_pos ⟨hc, by rw [Nat.max_eq_left h1, h2]⟩]

theorem opn_is {b : List Nat} {r : Nat} {l : List En} (h : opn b = some (r, l)) : 1 ≤ r ∧ chain ⟨#[]⟩ l ∧ blk (pushes r st0 l) = b ∧ ∃ eb, l = (wk eb []).map Prod.fst := by
  unfold opn at h
  split at h
  · cases h
  split at h
  · cases h
  unfold opn.opn2 opn.opn3 at h
  split at h
  · rename_i h1
    cases h
    exact ⟨by omega, h1.1, h1.2, _, rfl⟩
  · cases h
/-- A restart from 1 to the number of the entries. -/
theorem some_restart {r : Nat} {l : List En} (hr : 1 ≤ r) : ∃ r', 1 ≤ r' ∧ (r' ≤ l.length ∨ r' = 1) ∧ pushes r' st0 l = pushes r st0 l := by
  by_cases hl : r ≤ l.length
  · exact ⟨r, hr, .inl hl, rfl⟩
  · by_cases h0 : l = []
    · subst h0; exact ⟨1, by omega, .inr rfl, rfl⟩
    · have : 0 < l.length := List.length_pos_iff.2 h0
      refine ⟨l.length, by omega, .inl (Nat.le_refl _), pushes_eq _ _ l st0 fun i hi => ?_⟩
      show (0 + i) % _ = 0 ↔ (0 + i) % r = 0
      rw [Nat.zero_add, mod_zero_small hi, mod_zero_small (by omega)]

/-- Numbers of entries that were read are not below 0. -/
theorem wk_nonneg (n : Nat) : ∀ b ah, b.length ≤ n → ∀ x ∈ wk b ah, 0 ≤ x.1.2.1 := by
  induction n with
  | zero =>
    intro b ah hb x hx
    have : b = [] := List.eq_nil_of_length_eq_zero (by omega)
    subst this
    rw [wk_nil] at hx
    simp at hx
  | succ n ih =>
    intro b ah hb x hx
    rw [wk] at hx
    split at hx
    · simp at hx
    · rename_i hne
      have hpos : 0 < b.length := List.length_pos_iff.2 hne
      split at hx
      · simp at hx
      · rename_i y hy
        split at hx
        · simp at hx
        · rename_i hz
          rcases List.mem_cons.1 hx with rfl | hx
          · unfold rdE at hy
            split at hy
            · cases hy
            split at hy
            · cases hy
            split at hy
            · cases hy
            unfold rdE.rdK at hy
            split at hy
            · cases hy
            split at hy
            · cases hy; exact Int.natCast_nonneg _
            split at hy
            · cases hy
            · cases hy; exact Int.natCast_nonneg _
          · exact ih _ _ (by simp; omega) x hx

end Qb
end Go.Proofs.YtkebbmdghnplmaaDoor
namespace Go.Proofs.YtkebbmdghnplmaaDoor
namespace Qb
open Go.RowKit CMath Byt Laws Irw Crw Cod
set_option linter.unusedVariables false
set_option linter.unusedSimpArgs false
set_option maxRecDepth 20000

/-! Bytes of one's own, told by tags. -/
def k8 : Knd Nat := ⟨5, 1, 1, .int .u8 0, fun x => [.int .u8 (x : Int)], fun _ => rfl, fun x u hu => by simp at hu; subst hu; rfl, by omega, rfl, by omega⟩
theorem k8_cells (l : List Nat) : k8.cells l = cellsB l := by
  induction l with
  | nil => rfl
  | cons x l ih =>
    show k8.cs x ++ k8.cells l = _
    rw [ih]; rfl
theorem isK_of {w : World} {a : Option Addr} {l : List Nat} (h : IsB w a l) : IsK k8 w a l := fun hne => by
  obtain ⟨b, off, e, h1, h2⟩ := h.1 hne
  refine ⟨b, off, e, h1, fun i x hx j u hu => ?_⟩
  have hj : j < 1 := (List.getElem?_eq_some_iff.1 hu).1
  obtain rfl : j = 0 := by omega
  cases hu
  have := h2 i x hx
  show w.cell? ⟨b, off + i * 1 + 0, none⟩ = _
  rw [Nat.mul_one, Nat.add_zero]
  exact this
theorem isB_of_K {w : World} {a : Option Addr} {l : List Nat} (h : IsK k8 w a l) (hl : ∀ x ∈ l, x < 256) : IsB w a l := ⟨fun hne => by
  obtain ⟨b, off, e, h1, h2⟩ := h hne
  refine ⟨b, off, e, h1, fun i x hx => ?_⟩
  have := h2 i x hx 0 _ rfl
  have e2 : off + i * k8.size + 0 = off + i := by show off + i * 1 + 0 = _; omega
  rw [e2] at this
  exact this, hl⟩
structure OwnB (t : Nat) (T : Nat → Nat) (w : World) (v : Value) (l : List Nat) : Prop where
  own : OwnK k8 t T w v l
  byte : ∀ x ∈ l, x < 256
theorem OwnB.goes {s : Nat} {t : Nat → Prop} {T T' : Nat → Nat} {w w' : World} {v : Value} {l : List Nat} (h : OwnB s T w v l) (hg : Goes t T w T' w') (hs : ¬ t s) : OwnB s T' w' v l := ⟨h.own.goes hg hs, h.byte⟩
theorem OwnB.below {s : Nat} {T : Nat → Nat} {w w' : World} {v : Value} {l : List Nat} (h : OwnB s T w v l) (hb : Below w.heap.size w w') : OwnB s T w' v l := ⟨h.own.below hb, h.byte⟩
theorem OwnB.form {s : Nat} {T : Nat → Nat} {w : World} {v : Value} {l : List Nat} (h : OwnB s T w v l) : ∃ a c, v = .slice a l.length c ∧ IsB w a l ∧ l.length ≤ c ∧ (a = none → c = 0) ∧ c ≤ 9223372036854775807 ∧ (∀ b off, a = some ⟨b, off, none⟩ → off = 0 ∧ T b = s ∧ b < w.heap.size) := by
  rcases h.own.1.2 with ⟨h1, h2⟩ | ⟨g, cap, cur, hv, hb, hh, hc, hm, hr⟩
  · refine ⟨none, 0, by rw [h1, h2], ?_, by omega, by simp, by omega, fun b off e => by cases e⟩
    have : l = [] := List.eq_nil_of_length_eq_zero h2
    rw [this]; exact IsB.nil _ _
  · obtain ⟨a, c, e, hi, h1, h2, h3⟩ := h.own.form
    rw [hv] at e
    simp only [Value.slice.injEq] at e
    obtain ⟨rfl, _, rfl⟩ := e
    exact ⟨some ⟨g, 0, none⟩, cap, hv, isB_of_K hi h.byte, hc, by simp, hm, fun b off e => by cases e; exact ⟨rfl, h3 _ _ rfl⟩⟩
theorem OwnB.empty (t : Nat) (T : Nat → Nat) (w : World) : OwnB t T w (.slice none 0 0) [] := ⟨OwnK.empty _ _ _, by simp⟩
theorem OwnB.row {t : Nat} {T : Nat → Nat} {w : World} {v : Value} {l : List Nat} (h : OwnB t T w v l) : w.ownsRow 0 5 1 v l.length (cellsB l) := by
  have := h.own.1
  rw [k8_cells] at this
  exact this
/-- What was made anew gets a tag. -/
theorem OwnB.of_own {base t : Nat} {T : Nat → Nat} {w : World} {v : Value} {l : List Nat} (h : Own 5 base w v l) : ∃ g, base ≤ g ∧ g < w.heap.size ∧ OwnB t (upd T g t) w v l := by
  obtain ⟨g, c, e, h2, h3⟩ := h
  have hl := h2.lt g (by rw [e]; rfl)
  refine ⟨g, hl.1, hl.2, ⟨⟨?_, fun g' hg => ?_⟩, h3⟩⟩
  · rw [k8_cells]
    refine ⟨h2.1, ?_⟩
    rcases h2.2 with h | ⟨g, cap, cur, hv, hg, hr⟩
    · exact .inl h
    · exact .inr ⟨g, cap, cur, hv, by omega, hr⟩
  · rw [e] at hg
    simp [Value.ownBlock] at hg
    subst hg
    exact upd_same _ _ _

theorem info8' : (Tryd.prog.info? 5).map (fun i => (i.zero, i.size, i.bytes)) = some (some (.int .u8 0), 1, 1) := by kernel_rfl
/-- append of a slice's bytes -/
theorem wpList_app8 (w : World) {ops : Array Oper} {rest : List Oper} {o : Oper} {a : Act} {Q : Exit → Act → World → Prop} (hgd : o.guard = none) (s x : Operand)
    (ho : o.op = .call { callee := .builtin .append, args := #[s, x], argTypes := #[22, 22] })
    (g : Nat) (T : Nat → Nat) (v : Value) (l : List Nat) (hs : a.eval s = v) (hown : OwnB g T w v l) (ao : Option Addr) (m c : Nat) (r : List Nat) (hx : a.eval x = .slice ao m c) (hm : m = r.length) (hn : ao = none → c = 0) (hr : IsB w ao r) (h40 : l.length + r.length ≤ 1000000000000)
    (h : ∀ a' c' T' w', OwnB g T' w' (.slice a' (l.length + r.length) c') (l ++ r) → Goes (· = g) T w T' w' → wpList Tryd.prog ops Q rest (a.put o.dst (.slice a' (l.length + r.length) c')) w') : wpList Tryd.prog ops Q (o :: rest) a w := by
  obtain ⟨i8, hi, hz0, hz1, hz2⟩ := info_parts info8'
  exact wpList_appK k8 w hgd s x 22 ho i8 Tryd.underlying22 hi hz0 hz1 hz2 g T v l hs hown.own ao m c r hx hm hn (isK_of hr) h40 fun a' c' T' w' h2 h3 => h a' c' T' w' ⟨h2, byte_app hown.byte hr.2⟩ h3
/-- append of a text -/
theorem run_appS (w : World) (ty : TypeId) (s : Nat) (T : Nat → Nat) (v : Value) (l : List Nat) (hown : OwnB s T w v l) (x : ByteArray) (h40 : l.length + x.size ≤ 1000000000000) :
    ∃ v' T' w', (Builtin.append_ #[22, 9] ty #[v, .string x]).run Tryd.prog w = .ok v' w' ∧ OwnB s T' w' v' (l ++ strB x) ∧ Goes (· = s) T w T' w' := by
  obtain ⟨i8, hi, hz0, hz1, hz2⟩ := info_parts info8'
  obtain ⟨v', w', hr, h2, h3, h4⟩ := Lib.run_append_own_string (P := Tryd.prog) w 0 22 9 ty 5 i8 Tryd.underlying22 Tryd.underlying9 hi hz0 hz1 hz2 v l.length (cellsB l) hown.row x (by unfold maxLen; omega) (by omega) (Nat.zero_le _)
  rw [strCells_eq, ← cellsB_append] at h2
  have hby : ∀ y ∈ l ++ strB x, y < 256 := byte_app hown.byte (strB_byte x)
  have fin : ∀ g n c, v' = .slice (some ⟨g, 0, none⟩) n c → (v.ownBlock = some g ∨ w.heap.size ≤ g) → ∃ v'' T' w'', (Builtin.append_ #[22, 9] ty #[v, .string x]).run Tryd.prog w = .ok v'' w'' ∧ OwnB s T' w'' v'' (l ++ strB x) ∧ Goes (· = s) T w T' w'' := by
    intro g n c hv hat
    subst hv
    have hlen : l.length + x.size = (l ++ strB x).length := by simp [strB_length]
    have hn : n = l.length + x.size := by
      rcases h2.2 with ⟨e, _⟩ | ⟨g', c', cur, e, _⟩
      · cases e
      · cases e; rfl
    subst hn
    have h2' : w'.ownsRow 0 k8.ty k8.size (.slice (some ⟨g, 0, none⟩) (l.length + x.size) c) (l.length + x.size) (k8.cells l ++ k8.cells (strB x)) := by
      rw [k8_cells, k8_cells, ← cellsB_append]; exact h2
    obtain ⟨k1, k2⟩ := OwnK.grown (H := if v.ownBlock = some g then w.heap.size else g) hown.own h3 h2' (by rw [strB_length]) (by
      by_cases hg : v.ownBlock = some g
      · exact .inl hg
      · rw [if_neg hg]; exact .inr rfl) (by
      split
      · exact Nat.le_refl _
      · rcases hat with h | h
        · contradiction
        · exact h)
    exact ⟨_, _, w', hr, ⟨k1, hby⟩, k2⟩
  rcases hown.own.1.2 with ⟨e1, e2⟩ | ⟨g, cap, cur, hv, hb, hh, hc, hm, hcs, ht⟩
  · have hl : l = [] := List.eq_nil_of_length_eq_zero e2
    subst hl
    by_cases hx : x.size = 0
    · have hv' := h4.2 ⟨e1, hx⟩
      have hx0 : strB x = [] := List.eq_nil_of_length_eq_zero (by rw [strB_length]; exact hx)
      refine ⟨v', T, w', hr, ⟨?_, hby⟩, ⟨h3.os, h3.tape, h3.output, h3.size, fun b hb _ => h3.block b hb (by rw [e1]; simp [Value.ownBlock]), fun _ _ _ => rfl, fun _ _ h => h⟩⟩
      rw [hx0, hv']
      exact OwnK.empty _ _ _
    · obtain ⟨v2, w2, hr2, h22, _, h42⟩ := Lib.run_append_own_string (P := Tryd.prog) w w.heap.size 22 9 ty 5 i8 Tryd.underlying22 Tryd.underlying9 hi hz0 hz1 hz2 v 0 [] (by rw [e1]; exact World.ownsRow_nil _ _ _ _) x (by unfold maxLen; omega) (by omega) (Nat.le_refl _)
      rw [hr] at hr2
      cases hr2
      rcases h22.2 with ⟨e, _⟩ | ⟨g, c, cur, e, hg, _⟩
      · exact absurd (h42.1 e).2 hx
      · exact fin g _ c e (.inr hg)
  · have hcs' : cur.size = cap := by have : cur.size = cap * 1 := hcs; omega
    by_cases hroom : l.length + x.size ≤ cap
    · have hr2 := Lib.run_append_room_string (P := Tryd.prog) w 22 9 ty 5 i8 Tryd.underlying22 Tryd.underlying9 hi hz1 g l.length cap cur hh x hroom (by omega)
      rw [← hv, hr] at hr2
      cases hr2
      exact fin g _ cap rfl (.inl (by rw [hv]; rfl))
    · have hr2 := Lib.run_append_grow_string (P := Tryd.prog) w 22 9 ty 5 i8 (.int .u8 0) Tryd.underlying22 Tryd.underlying9 hi hz0 ⟨g, 0, none⟩ l.length cap (cellsB l) (by rw [cellsB_length, hz1]; omega) (by
        have := hown.row
        rw [hv] at this
        exact this.cells (g := g) rfl) x (by omega) (by omega) (by rw [hz2]; exact growslice_fits (by omega) (by omega))
      rw [← hv, hr] at hr2
      cases hr2
      exact fin w.heap.size _ _ rfl (.inr (Nat.le_refl _))
theorem wpList_appS (w : World) {ops : Array Oper} {rest : List Oper} {o : Oper} {a : Act} {Q : Exit → Act → World → Prop} (hgd : o.guard = none) (s x : Operand)
    (ho : o.op = .call { callee := .builtin .append, args := #[s, x], argTypes := #[22, 9] })
    (g : Nat) (T : Nat → Nat) (v : Value) (l : List Nat) (hs : a.eval s = v) (hown : OwnB g T w v l) (y : ByteArray) (hx : a.eval x = .string y) (h40 : l.length + y.size ≤ 1000000000000)
    (h : ∀ a' c' T' w', OwnB g T' w' (.slice a' (l ++ strB y).length c') (l ++ strB y) → Goes (· = g) T w T' w' → wpList Tryd.prog ops Q rest (a.put o.dst (.slice a' (l ++ strB y).length c')) w') : wpList Tryd.prog ops Q (o :: rest) a w := by
  refine wpList_plain hgd fun K hK => ?_
  obtain ⟨v', T', w', hr, h2, h3⟩ := run_appS w o.type g T v l hown y h40
  obtain ⟨a', c', e, _⟩ := h2.form
  subst e
  unfold Oper.wp execOp
  simp only [ho, resolve, invoke, builtin, Sem.run_bind, Sem.run_pure, Result.andThen_ok, List.map_toArray, List.map_cons, List.map_nil, hs, hx, hr]
  exact hK _ _ (h a' c' T' w' h2 h3)

end Qb
end Go.Proofs.YtkebbmdghnplmaaDoor
