import Derived.Test.YtanpbknjnpmmnaaCMath
namespace Go.Proofs.Ytanpbknjnpmmnaa
namespace CMath
set_option linter.unusedVariables false

theorem rd_words (n : Nat) (more : List Nat) (h : n < 18446744073709551616) : rd (num n ++ more) 0 0 = (n, (num n).length, 0) := by
  rw [rd_num more n 0 0 (by simpa using h) (by omega)]; simp
theorem rd_ok0 {l : List Nat} (hl : ∀ x ∈ l, x < 256) {n k : Nat} (h : rd l 0 0 = (n, k, 0)) : n < 18446744073709551616 ∧ k = (num n).length ∧ l.take k = num n := by
  obtain ⟨m, e1, e2, _, e4, e5⟩ := rd_ok l hl 0 0 n k (by omega) h
  simp at e1 e2 e4
  subst e1 e2
  exact ⟨e4, rfl, e5⟩
theorem rd_part0 {l : List Nat} {n k j : Nat} (h : rd l 0 0 = (n, k, 0)) (hj : j < k) : rd (l.take j) 0 0 = (0, 0, 20) := rd_part l 0 0 n k j h (by omega)
theorem rd_bytes {l : List Nat} (hl : ∀ x ∈ l, x < 256) {n k : Nat} (h : rd l 0 0 = (n, k, 0)) : 1 ≤ k ∧ k ≤ l.length ∧ k ≤ 10 := by
  obtain ⟨h1, h2, h3⟩ := rd_ok0 hl h
  have := num_pos n
  have h4 := congrArg List.length h3
  rw [List.length_take] at h4
  have := num_le10 h1
  omega
/-- More bytes behind a number change nothing. -/
theorem rd_more {l : List Nat} (hl : ∀ x ∈ l, x < 256) {n k j : Nat} (h : rd l 0 0 = (n, k, 0)) (hj : k ≤ j) : rd (l.take j) 0 0 = (n, k, 0) := by
  obtain ⟨h1, h2, h3⟩ := rd_ok0 hl h
  have e : l.take j = num n ++ (l.take j).drop k := by
    rw [← h3]
    conv => lhs; rw [← List.take_append_drop k (l.take j), List.take_take, Nat.min_eq_left hj]
  rw [e, rd_words n _ h1, h2]

theorem take_len (a b : List Nat) : (a ++ b).take a.length = a := by simp
theorem drop_len (a b : List Nat) : (a ++ b).drop a.length = b := by simp

/-- P2.6, texts. -/
theorem text_back (s more : List Nat) (most : Int) (h : (s.length : Int) ≤ most) (hs : s.length < 18446744073709551616) : text (words s ++ more) most = (s, (words s).length, 0) := by
  have e := rd_words s.length (s ++ more) hs
  rw [← List.append_assoc] at e
  unfold text words
  rw [e]
  simp only []
  rw [if_neg (by simp), if_neg (by omega), if_neg (by simp)]
  rw [List.append_assoc, drop_len]
  simp
/-- P2.6, frames. -/
theorem unframe_back (s more : List Nat) (h : s.length ≤ 262144) : unframe (frame s ++ more) = (s, (frame s).length, 0) := by
  have e := rd_words s.length (s ++ four (crc (num s.length ++ s)) ++ more) (by omega)
  have e1 : num s.length ++ (s ++ four (crc (num s.length ++ s)) ++ more) = frame s ++ more := by simp [frame]
  rw [e1] at e
  unfold unframe
  rw [e]
  simp only []
  have e2 : (frame s ++ more).drop ((num s.length).length + s.length) = four (crc (num s.length ++ s)) ++ more := by
    rw [frame, List.append_assoc, ← List.length_append, drop_len]
  have e3 : (frame s ++ more).take ((num s.length).length + s.length) = num s.length ++ s := by
    rw [frame, List.append_assoc, ← List.length_append, take_len]
  rw [if_neg (by simp), if_neg (by omega), if_neg (by simp [frame, four]; omega), e2, e3, if_neg (by simp [four])]
  simp [frame, four]
  omega

/-- P2.7, texts. -/
theorem text_form {b : List Nat} (hb : ∀ x ∈ b, x < 256) {most : Int} {s : List Nat} {k : Nat} (h : text b most = (s, k, 0)) :
    1 ≤ k ∧ k ≤ b.length ∧ (s.length : Int) ≤ most ∧ b.take k = words s ∧ s.length < 18446744073709551616 ∧ ∀ i, i < k → (text (b.take i) most).2.2 ≠ 0 := by
  obtain ⟨n, j, e, hr⟩ : ∃ n j e, rd b 0 0 = (n, j, e) := ⟨_, _, _, rfl⟩
  have h0 := h
  unfold text at h
  rw [hr] at h
  simp only [] at h
  by_cases he : e = 0
  · subst he
    rw [if_neg (by simp)] at h
    split at h
    · simp at h
    · rename_i hm
      split at h
      · simp at h
      · rename_i hl
        simp only [Prod.mk.injEq, and_true] at h
        obtain ⟨rfl, rfl⟩ := h
        obtain ⟨h1, h2, h3⟩ := rd_ok0 hb hr
        have hk := rd_bytes hb hr
        have hlen : ((b.drop j).take n).length = n := by simp; omega
        refine ⟨by omega, by omega, by rw [hlen]; omega, ?_, by rw [hlen]; exact h1, ?_⟩
        · unfold words
          rw [hlen, List.take_add, h3]
        · intro i hi
          by_cases hij : i < j
          · have := rd_part0 hr hij
            unfold text
            rw [this]
            simp
          · have := rd_more hb hr (j := i) (by omega)
            unfold text
            rw [this]
            simp only []
            rw [if_neg (by simp), if_neg hm, if_pos (by simp; omega)]
            simp
  · rw [if_pos (by simpa using he)] at h
    simp only [Prod.mk.injEq] at h
    omega
theorem four_len (x : Nat) : (four x).length = 4 := rfl
/-- P2.7, frames. -/
theorem unframe_form {b : List Nat} (hb : ∀ x ∈ b, x < 256) {s : List Nat} {k : Nat} (h : unframe b = (s, k, 0)) :
    5 ≤ k ∧ k ≤ b.length ∧ s.length ≤ 262144 ∧ b.take k = frame s ∧ ∀ i, i < k → (unframe (b.take i)).2.2 ≠ 0 := by
  obtain ⟨n, j, e, hr⟩ : ∃ n j e, rd b 0 0 = (n, j, e) := ⟨_, _, _, rfl⟩
  unfold unframe at h
  rw [hr] at h
  simp only [] at h
  by_cases he : e = 0
  · subst he
    rw [if_neg (by simp)] at h
    split at h
    · simp at h
    · rename_i hm
      split at h
      · simp at h
      · rename_i hl
        split at h
        · simp at h
        · rename_i hf
          simp only [Prod.mk.injEq, and_true] at h
          obtain ⟨rfl, rfl⟩ := h
          obtain ⟨h1, h2, h3⟩ := rd_ok0 hb hr
          have hk := rd_bytes hb hr
          have hlen : ((b.drop j).take n).length = n := by simp; omega
          have hp : b.take (j + n) = num n ++ (b.drop j).take n := by rw [List.take_add, h3]
          refine ⟨by omega, by omega, by rw [hlen]; omega, ?_, ?_⟩
          · unfold frame
            rw [hlen, ← hp, List.take_add]
            congr 1
            exact Decidable.not_not.1 hf
          · intro i hi
            by_cases hij : i < j
            · have := rd_part0 hr hij
              unfold unframe
              rw [this]
              simp
            · have := rd_more hb hr (j := i) (by omega)
              unfold unframe
              rw [this]
              simp only []
              rw [if_neg (by simp), if_neg hm, if_pos (by simp; omega)]
              simp
  · rw [if_pos (by simpa using he)] at h
    simp only [Prod.mk.injEq] at h
    omega
theorem unframe_err {b : List Nat} (h : (unframe b).2.2 ≠ 0) : (unframe b).1 = [] ∧ (unframe b).2.1 = 0 := by
  unfold unframe at h ⊢
  split
  · exact ⟨rfl, rfl⟩
  · rename_i h0
    rw [if_neg h0] at h
    split
    · exact ⟨rfl, rfl⟩
    · rename_i h1
      rw [if_neg h1] at h
      split
      · exact ⟨rfl, rfl⟩
      · rename_i h2
        rw [if_neg h2] at h
        split
        · exact ⟨rfl, rfl⟩
        · rename_i h3
          rw [if_neg h3] at h
          exact absurd rfl h

/-! P2.8: bits turned within a span of 32. -/
theorem val_take_drop (l : List Nat) (n : Nat) (h : n ≤ l.length) : val l = val (l.take n) + 2 ^ (8 * n) * val (l.drop n) := by
  conv => lhs; rw [← List.take_append_drop n l, val_append]
  rw [List.length_take, Nat.min_eq_left h, Nat.pow_mul]
theorem lt_pow8 (l : List Nat) (h : ∀ x ∈ l, x < 256) : val l < 2 ^ (8 * l.length) := by
  have := val_lt l h
  rw [Nat.pow_mul]
  exact this

theorem mem_take {l : List Nat} {n : Nat} (h : ∀ x ∈ l, x < 256) : ∀ x ∈ l.take n, x < 256 := fun x hx => h x (List.mem_of_mem_take hx)
theorem mem_drop {l : List Nat} {n : Nat} (h : ∀ x ∈ l, x < 256) : ∀ x ∈ l.drop n, x < 256 := fun x hx => h x (List.mem_of_mem_drop hx)

/-- What is left over of a frame of N + 4 bytes: 0 where its sum is right. -/
def rest (N : Nat) (l : List Nat) : Nat := val (l.drop N) ^^^ crc (l.take N)
theorem rest_zero {N : Nat} {l : List Nat} (h : ∀ x ∈ l, x < 256) (hn : l.length = N + 4) : rest N l = 0 ↔ l.drop N = four (crc (l.take N)) := by
  have hc := crc_lt (l.take N) (mem_take h)
  constructor
  · intro e
    refine val_inj _ _ (mem_drop h) (four_byte _) (by simp [four]; omega) ?_
    rw [four_val hc]
    have h2 := congrArg (· ^^^ crc (l.take N)) e
    simpa [rest, Nat.xor_assoc] using h2
  · intro e
    unfold rest
    rw [e, four_val hc, Nat.xor_self]
theorem rest_eq {N : Nat} {l : List Nat} (h : ∀ x ∈ l, x < 256) (hn : l.length = N + 4) : rest N l = steps (8 * N) (val l) ^^^ steps (8 * N) 4294967295 ^^^ 4294967295 := by
  have hN : (l.take N).length = N := by simp; omega
  have e1 := val_take_drop l N (by omega)
  have e2 := lt_pow8 (l.take N) (mem_take h)
  rw [hN] at e2
  rw [split_xor _ _ _ e2] at e1
  rw [e1, steps_xor, steps_shift]
  unfold rest crc
  rw [state_val _ (mem_take h), hN, steps_xor]
  generalize steps (8 * N) (val (l.take N)) = A
  generalize val (l.drop N) = B
  generalize steps (8 * N) 4294967295 = C
  rw [Nat.xor_comm C A, Nat.xor_comm A B]
  simp only [Nat.xor_assoc]
theorem rest_diff {N : Nat} {l r : List Nat} (hl : ∀ x ∈ l, x < 256) (hr : ∀ x ∈ r, x < 256) (h1 : l.length = N + 4) (h2 : r.length = N + 4) (e : Nat) (he : val r = val l ^^^ e) : rest N r = rest N l ^^^ steps (8 * N) e := by
  rw [rest_eq hl h1, rest_eq hr h2, he, steps_xor]
  generalize steps (8 * N) (val l) = A
  generalize steps (8 * N) 4294967295 = C
  generalize steps (8 * N) e = D
  simp only [Nat.xor_assoc]
  rw [Nat.xor_comm D (C ^^^ 4294967295), Nat.xor_assoc]
/-- A burst is told. -/
theorem burst {N a e : Nat} (he : e < 4294967296) (h0 : e ≠ 0) : steps (8 * N) (2 ^ a * e) ≠ 0 := by
  by_cases h : a ≤ 8 * N
  · obtain ⟨m, hm⟩ : ∃ m, 8 * N = a + m := ⟨8 * N - a, by omega⟩
    rw [hm, steps_add, steps_shift]
    exact steps_ne m he h0
  · obtain ⟨m, rfl⟩ : ∃ m, a = 8 * N + m := ⟨a - 8 * N, by omega⟩
    rw [Nat.pow_add, Nat.mul_assoc, steps_shift]
    have : 0 < 2 ^ m * e := Nat.mul_pos (Nat.pow_pos (by omega)) (by omega)
    omega

end CMath
end Go.Proofs.Ytanpbknjnpmmnaa
