import Derived.WalkKit
namespace Go.Proofs.Ytpappjcbeibhiaa
namespace Hp
open Go.RowKit
set_option linter.unusedVariables false
variable {α : Type}

/-! A heap as a list: what is above a place, what sifting keeps. -/

/-- Two places change what they hold. -/
def swp (d : α) (l : List α) (i j : Nat) : List α := (l.set i (l.getD j d)).set j (l.getD i d)
theorem swp_length (d : α) (l : List α) (i j : Nat) : (swp d l i j).length = l.length := by simp [swp]
theorem swp_perm (d : α) (l : List α) (i j : Nat) (hi : i < l.length) (hj : j < l.length) : (swp d l i j).Perm l := by
  have e1 : l.getD j d = l[j] := by simp [hj]
  have e2 : l.getD i d = l[i] := by simp [hi]
  unfold swp
  rw [e1, e2]
  exact List.set_set_perm hi hj
theorem swp_getD (d : α) (l : List α) (i j k : Nat) (hi : i < l.length) (hj : j < l.length) :
    (swp d l i j).getD k d = if k = j then l.getD i d else if k = i then l.getD j d else l.getD k d := by
  unfold swp
  simp only [List.getD_eq_getElem?_getD, List.getElem?_set, List.length_set]
  by_cases h1 : j = k
  · subst h1; simp [hj]
  · have h1' : ¬ k = j := fun h => h1 h.symm
    by_cases h2 : i = k
    · subst h2; simp [hi, h1, h1']
    · have h2' : ¬ k = i := fun h => h2 h.symm
      simp [h1, h2, h1', h2']

/-- An order: what isn't ahead. -/
structure Ord (lt : α → α → Bool) : Prop where
  asym : ∀ a b, lt a b = true → lt b a = false
  ntr : ∀ a b c, lt a b = false → lt b c = false → lt a c = false
theorem Ord.irr {lt : α → α → Bool} (o : Ord lt) (a : α) : lt a a = false := by
  cases h : lt a a with
  | false => rfl
  | true => have := o.asym a a h; rw [h] at this; exact this
theorem Ord.tr {lt : α → α → Bool} (o : Ord lt) {a b c : α} (h1 : lt a b = true) (h2 : lt b c = true) : lt a c = true := by
  cases h : lt a c with
  | true => rfl
  | false =>
    have := o.ntr a c b h (o.asym b c h2)
    rw [h1] at this; exact this.symm

def Heapy (lt : α → α → Bool) (d : α) (l : List α) : Prop := ∀ i, 0 < i → i < l.length → lt (l.getD i d) (l.getD ((i - 1) / 2) d) = false
/-- a heap but for one that may have to rise -/
def Up (lt : α → α → Bool) (d : α) (l : List α) (k : Nat) : Prop :=
  (∀ i, 0 < i → i < l.length → i ≠ k → lt (l.getD i d) (l.getD ((i - 1) / 2) d) = false) ∧
  (∀ i, 0 < i → i < l.length → (i - 1) / 2 = k → 0 < k → lt (l.getD i d) (l.getD ((k - 1) / 2) d) = false)
/-- a heap but for one that may have to sink -/
def Dn (lt : α → α → Bool) (d : α) (l : List α) (k : Nat) : Prop :=
  (∀ i, 0 < i → i < l.length → (i - 1) / 2 ≠ k → lt (l.getD i d) (l.getD ((i - 1) / 2) d) = false) ∧
  (∀ i, 0 < i → i < l.length → (i - 1) / 2 = k → 0 < k → lt (l.getD i d) (l.getD ((k - 1) / 2) d) = false)

theorem Up.done {lt : α → α → Bool} {d : α} {l : List α} {k : Nat} (h : Up lt d l k) (hk : k = 0 ∨ lt (l.getD k d) (l.getD ((k - 1) / 2) d) = false) : Heapy lt d l := by
  intro i h0 hi
  by_cases e : i = k
  · subst e
    rcases hk with h1 | h1
    · omega
    · exact h1
  · exact h.1 i h0 hi e

theorem Up.step {lt : α → α → Bool} {d : α} {l : List α} {k : Nat} (o : Ord lt) (h : Up lt d l k) (h0 : 0 < k) (hk : k < l.length) (hl : lt (l.getD k d) (l.getD ((k - 1) / 2) d) = true) :
    Up lt d (swp d l k ((k - 1) / 2)) ((k - 1) / 2) := by
  have hp : (k - 1) / 2 < k := by omega
  have has := o.asym _ _ hl
  constructor
  · intro i hi0 hil hne
    rw [swp_length] at hil
    rw [swp_getD d l _ _ _ hk (by omega), swp_getD d l _ _ _ hk (by omega), if_neg hne]
    by_cases e1 : i = k
    · subst e1
      rw [if_pos rfl, if_pos rfl]
      exact has
    · rw [if_neg e1]
      by_cases e2 : (i - 1) / 2 = (k - 1) / 2
      · rw [if_pos e2]
        exact o.ntr _ _ _ (by have := h.1 i hi0 hil e1; rwa [e2] at this) has
      · rw [if_neg e2]
        by_cases e3 : (i - 1) / 2 = k
        · rw [if_pos e3]
          exact h.2 i hi0 hil e3 h0
        · rw [if_neg e3]
          exact h.1 i hi0 hil e1
  · intro i hi0 hil he hp0
    rw [swp_length] at hil
    have e0 : ¬ ((k - 1) / 2 - 1) / 2 = (k - 1) / 2 := by omega
    have e00 : ¬ ((k - 1) / 2 - 1) / 2 = k := by omega
    have e4 : ¬ i = (k - 1) / 2 := by omega
    rw [swp_getD d l _ _ _ hk (by omega), swp_getD d l _ _ _ hk (by omega), if_neg e0, if_neg e00, if_neg e4]
    have hpp := h.1 ((k - 1) / 2) hp0 (by omega) (by omega)
    by_cases e1 : i = k
    · rw [if_pos e1]; exact hpp
    · rw [if_neg e1]
      exact o.ntr _ _ _ (by have := h.1 i hi0 hil e1; rwa [he] at this) hpp

/-- Which of a place and the two below it is foremost. -/
def fore1 (lt : α → α → Bool) (d : α) (l : List α) (k : Nat) : Nat :=
  if 2 * k + 1 < l.length ∧ lt (l.getD (2 * k + 1) d) (l.getD k d) = true then 2 * k + 1 else k
def fore (lt : α → α → Bool) (d : α) (l : List α) (k : Nat) : Nat :=
  if 2 * k + 2 < l.length ∧ lt (l.getD (2 * k + 2) d) (l.getD (fore1 lt d l k) d) = true then 2 * k + 2 else fore1 lt d l k
theorem fore_lt (lt : α → α → Bool) (d : α) (l : List α) (k : Nat) (hk : k < l.length) : fore lt d l k < l.length := by
  unfold fore
  split
  · omega
  · unfold fore1; split <;> omega
theorem fore_ge (lt : α → α → Bool) (d : α) (l : List α) (k : Nat) : fore lt d l k = k ∨ fore lt d l k = 2 * k + 1 ∨ fore lt d l k = 2 * k + 2 := by
  unfold fore
  split
  · omega
  · unfold fore1; split <;> omega

theorem kids {i k : Nat} (h0 : 0 < i) : (i - 1) / 2 = k ↔ i = 2 * k + 1 ∨ i = 2 * k + 2 := by omega

/-- what fore tells, of an order -/
theorem fore_least {lt : α → α → Bool} {d : α} {l : List α} {k : Nat} (o : Ord lt) :
    (fore lt d l k ≠ k → lt (l.getD (fore lt d l k) d) (l.getD k d) = true) ∧
    (∀ i, i = 2 * k + 1 ∨ i = 2 * k + 2 → i < l.length → lt (l.getD i d) (l.getD (fore lt d l k) d) = false) := by
  have f1 : (fore1 lt d l k ≠ k → lt (l.getD (fore1 lt d l k) d) (l.getD k d) = true) ∧ (2 * k + 1 < l.length → lt (l.getD (2 * k + 1) d) (l.getD (fore1 lt d l k) d) = false) := by
    unfold fore1
    by_cases h : 2 * k + 1 < l.length ∧ lt (l.getD (2 * k + 1) d) (l.getD k d) = true
    · rw [if_pos h]; exact ⟨fun _ => h.2, fun _ => o.irr _⟩
    · rw [if_neg h]
      refine ⟨fun h' => absurd rfl h', fun hl => ?_⟩
      cases hh : lt (l.getD (2 * k + 1) d) (l.getD k d) with
      | false => rfl
      | true => exact absurd ⟨hl, hh⟩ h
  unfold fore
  by_cases h : 2 * k + 2 < l.length ∧ lt (l.getD (2 * k + 2) d) (l.getD (fore1 lt d l k) d) = true
  · rw [if_pos h]
    refine ⟨fun _ => ?_, ?_⟩
    · by_cases e : fore1 lt d l k = k
      · have := h.2; rwa [e] at this
      · exact o.tr h.2 (f1.1 e)
    · rintro i (rfl | rfl) hi
      · exact o.ntr _ _ _ (f1.2 hi) (o.asym _ _ h.2)
      · exact o.irr _
  · rw [if_neg h]
    refine ⟨f1.1, ?_⟩
    rintro i (rfl | rfl) hi
    · exact f1.2 hi
    · cases hh : lt (l.getD (2 * k + 2) d) (l.getD (fore1 lt d l k) d) with
      | false => rfl
      | true => exact absurd ⟨hi, hh⟩ h

theorem Dn.done {lt : α → α → Bool} {d : α} {l : List α} {k : Nat} (o : Ord lt) (h : Dn lt d l k) (hf : fore lt d l k = k) : Heapy lt d l := by
  intro i h0 hi
  by_cases e : (i - 1) / 2 = k
  · have := (fore_least (l := l) (d := d) (k := k) o).2 i ((kids h0).1 e) hi
    rw [hf] at this
    rw [e]; exact this
  · exact h.1 i h0 hi e

theorem Dn.step {lt : α → α → Bool} {d : α} {l : List α} {k : Nat} (o : Ord lt) (h : Dn lt d l k) (hk : k < l.length) (hf : fore lt d l k ≠ k) :
    Dn lt d (swp d l k (fore lt d l k)) (fore lt d l k) := by
  have hl := fore_lt lt d l k hk
  have hg := fore_ge lt d l k
  obtain ⟨q1, q2⟩ := fore_least (l := l) (d := d) (k := k) o
  generalize fore lt d l k = c at *
  have hc : (c - 1) / 2 = k := by omega
  have hck : k < c := by omega
  constructor
  · intro i hi0 hil hne
    rw [swp_length] at hil
    rw [swp_getD d l _ _ _ hk hl, swp_getD d l _ _ _ hk hl, if_neg hne]
    by_cases e1 : i = c
    · subst e1
      rw [if_pos rfl, if_pos hc]
      exact o.asym _ _ (q1 (by omega))
    · rw [if_neg e1]
      by_cases e2 : (i - 1) / 2 = k
      · rw [if_pos e2, if_neg (by omega)]
        exact q2 i ((kids hi0).1 e2) hil
      · rw [if_neg e2]
        by_cases e3 : i = k
        · rw [if_pos e3]
          subst e3
          exact h.2 c (by omega) hl hc hi0
        · rw [if_neg e3]
          exact h.1 i hi0 hil e2
  · intro i hi0 hil he hp0
    rw [swp_length] at hil
    rw [swp_getD d l _ _ _ hk hl, swp_getD d l _ _ _ hk hl, hc, if_neg (by omega : ¬ k = c), if_pos rfl, if_neg (by omega : ¬ i = c), if_neg (by omega : ¬ i = k)]
    have := h.1 i hi0 hil (by omega)
    rwa [he] at this

/-- nothing is ahead of the first -/
theorem Heapy.first {lt : α → α → Bool} {d : α} {l : List α} (o : Ord lt) (h : Heapy lt d l) : ∀ n i, i ≤ n → i < l.length → lt (l.getD i d) (l.getD 0 d) = false := by
  intro n
  induction n with
  | zero => intro i h1 h2; obtain rfl : i = 0 := by omega
            exact o.irr _
  | succ n ih =>
    intro i h1 h2
    by_cases e : i = 0
    · subst e; exact o.irr _
    · exact o.ntr _ _ _ (h i (by omega) h2) (ih _ (by omega) (by omega))
theorem Heapy.least {lt : α → α → Bool} {d : α} {l : List α} (o : Ord lt) (h : Heapy lt d l) : ∀ x ∈ l, lt x (l.getD 0 d) = false := by
  intro x hx
  obtain ⟨i, hi, rfl⟩ := List.mem_iff_getElem.1 hx
  have := h.first o i i (Nat.le_refl _) hi
  simpa [hi] using this

/-- a push, ahead of the sifting -/
theorem Up.push {lt : α → α → Bool} {d : α} {l : List α} (h : Heapy lt d l) (x : α) : Up lt d (l ++ [x]) l.length := by
  have hg : ∀ i, i < l.length → (l ++ [x]).getD i d = l.getD i d := fun i hi => by simp [List.getElem?_append_left hi]
  constructor
  · intro i h0 hi hne
    have hi' : i < l.length := by simp at hi; omega
    rw [hg i hi', hg _ (by omega)]
    exact h i h0 hi'
  · intro i h0 hi he h1
    simp at hi
    omega
/-- one is taken out: the last one stands in its place -/
def takeB (d : α) (l : List α) (i : Nat) : List α := (l.set i (l.getD (l.length - 1) d)).take (l.length - 1)
theorem takeB_length (d : α) (l : List α) (i : Nat) : (takeB d l i).length = l.length - 1 := by simp [takeB]
theorem takeB_perm (d : α) (l : List α) (i : Nat) (h : i < l.length) : (l.getD i d :: takeB d l i).Perm l := by
  have hp := swp_perm d l i (l.length - 1) h (by omega)
  have e1 : (swp d l i (l.length - 1)).take (l.length - 1) = takeB d l i := by
    unfold swp takeB
    rw [List.take_set_of_le (by omega)]
  have e2 : swp d l i (l.length - 1) = takeB d l i ++ [l.getD i d] := by
    apply List.ext_getElem?
    intro k
    by_cases hk : k < l.length - 1
    · rw [List.getElem?_append_left (by rw [takeB_length]; exact hk), ← e1, List.getElem?_take_of_lt hk]
    · by_cases hk2 : k = l.length - 1
      · subst hk2
        rw [List.getElem?_append_right (by rw [takeB_length]; exact Nat.le_refl _), takeB_length, Nat.sub_self]
        unfold swp
        rw [List.getElem?_set_self (by simp; omega)]
        simp
      · rw [List.getElem?_eq_none (by rw [swp_length]; omega), List.getElem?_eq_none (by simp [takeB_length]; omega)]
  rw [e2] at hp
  exact (List.perm_append_comm (l₁ := [l.getD i d]) (l₂ := takeB d l i)).trans hp
/-- a pop, ahead of the sifting: the last one stands first -/
def cutL (d : α) (l : List α) : List α := (l.set 0 (l.getD (l.length - 1) d)).take (l.length - 1)
theorem cutL_length (d : α) (l : List α) : (cutL d l).length = l.length - 1 := by simp [cutL]
theorem cutL_perm (d : α) (l : List α) (h : 0 < l.length) : (l.getD 0 d :: cutL d l).Perm l := takeB_perm d l 0 h
theorem Dn.pop {lt : α → α → Bool} {d : α} {l : List α} (h : Heapy lt d l) : Dn lt d (cutL d l) 0 := by
  have hg : ∀ i, 0 < i → i < l.length - 1 → (cutL d l).getD i d = l.getD i d := fun i h0 hi => by
    simp only [cutL, List.getD_eq_getElem?_getD]
    rw [List.getElem?_take_of_lt hi, List.getElem?_set_ne (by omega)]
  constructor
  · intro i h0 hi hne
    rw [cutL_length] at hi
    rw [hg i h0 hi, hg _ (by omega) (by omega)]
    exact h i h0 (by omega)
  · intro i h0 hi he h1
    omega

end Hp
end Go.Proofs.Ytpappjcbeibhiaa
