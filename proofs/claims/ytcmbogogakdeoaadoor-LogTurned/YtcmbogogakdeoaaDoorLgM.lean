import Derived.Test.YtcmbogogakdeoaaDoorCMath
namespace Go.Proofs.YtcmbogogakdeoaaDoor
namespace Lg
open CMath
set_option linter.unusedVariables false

def kd (begun ends : Bool) : Nat := if begun then (if ends then 4 else 3) else (if ends then 1 else 2)
def body (k : Nat) (p : List Nat) : List Nat := [p.length % 256, p.length / 256 % 256, k] ++ p
def pie (k : Nat) (p : List Nat) : List Nat := four (crc (body k p)) ++ body k p
def lay (begun : Bool) (left : Nat) (r : List Nat) : List Nat :=
  if r.length ≤ left - 7 then pie (kd begun true) r
  else if left < 8 then []
  else pie (kd begun false) (r.take (left - 7)) ++ lay true 512 (r.drop (left - 7))
termination_by r.length
decreasing_by simp; omega
def zer (n : Nat) : List Nat := List.replicate n 0
def app (at' : Nat) (r : List Nat) : List Nat := if 512 - at' % 512 < 8 then zer (512 - at' % 512) ++ lay false 512 r else lay false (512 - at' % 512) r

theorem kd_lt (a b : Bool) : kd a b < 256 := by cases a <;> cases b <;> decide
theorem body_length (k : Nat) (p : List Nat) : (body k p).length = p.length + 3 := by simp [body]
theorem pie_length (k : Nat) (p : List Nat) : (pie k p).length = p.length + 7 := by simp [pie, body_length, four]; try omega
theorem body_byte {k : Nat} {p : List Nat} (hk : k < 256) (hp : ∀ x ∈ p, x < 256) : ∀ x ∈ body k p, x < 256 := by
  intro x hx
  simp only [body, List.cons_append, List.nil_append, List.mem_cons] at hx
  rcases hx with h | h | h | h
  · omega
  · omega
  · omega
  · exact hp x h
theorem pie_byte {k : Nat} {p : List Nat} (hk : k < 256) (hp : ∀ x ∈ p, x < 256) : ∀ x ∈ pie k p, x < 256 := by
  intro x hx
  rcases List.mem_append.1 hx with h | h
  · exact four_byte _ x h
  · exact body_byte hk hp x h
theorem lay_end {begun : Bool} {left : Nat} {r : List Nat} (h : r.length ≤ left - 7) : lay begun left r = pie (kd begun true) r := by rw [lay, if_pos h]
theorem lay_on {begun : Bool} {left : Nat} {r : List Nat} (h : ¬ r.length ≤ left - 7) (h8 : 8 ≤ left) : lay begun left r = pie (kd begun false) (r.take (left - 7)) ++ lay true 512 (r.drop (left - 7)) := by
  rw [lay, if_neg h, if_neg (by omega)]
theorem lay_byte (n : Nat) : ∀ (begun : Bool) (left : Nat) (r : List Nat), r.length ≤ n → (∀ x ∈ r, x < 256) → ∀ x ∈ lay begun left r, x < 256 := by
  induction n with
  | zero =>
    intro begun left r hn hr
    rw [lay_end (by omega)]
    exact pie_byte (kd_lt _ _) hr
  | succ n ih =>
    intro begun left r hn hr x hx
    by_cases h : r.length ≤ left - 7
    · rw [lay_end h] at hx
      exact pie_byte (kd_lt _ _) hr x hx
    · by_cases h8 : 8 ≤ left
      · rw [lay_on h h8] at hx
        rcases List.mem_append.1 hx with hx | hx
        · exact pie_byte (kd_lt _ _) (fun y hy => hr y (List.mem_of_mem_take hy)) x hx
        · exact ih true 512 _ (by simp; omega) (fun y hy => hr y (List.mem_of_mem_drop hy)) x hx
      · rw [lay, if_neg h, if_pos (by omega)] at hx
        simp at hx
theorem lay_tail (n : Nat) : ∀ (begun : Bool) (r : List Nat), r.length ≤ n → 1 ≤ r.length → (lay begun 512 r).length ≤ 8 * r.length ∧ 505 * (lay begun 512 r).length ≤ 512 * r.length + 3528 := by
  induction n with
  | zero => intro begun r hn h1; omega
  | succ n ih =>
    intro begun r hn h1
    by_cases h : r.length ≤ 512 - 7
    · rw [lay_end h, pie_length]
      omega
    · rw [lay_on h (by omega)]
      have := ih true (r.drop (512 - 7)) (by simp; omega) (by simp; omega)
      simp only [List.length_append, pie_length, List.length_take, List.length_drop] at *
      rw [Nat.min_eq_left (by omega)]
      omega
/-- how many bytes a record takes: its own, and seven a piece. -/
theorem lay_length (begun : Bool) (left : Nat) (r : List Nat) (h8 : 8 ≤ left) (h5 : left ≤ 512) : (lay begun left r).length ≤ 8 * r.length + 7 ∧ 505 * (lay begun left r).length ≤ 512 * r.length + 505 * 14 := by
  by_cases h : r.length ≤ left - 7
  · rw [lay_end h, pie_length]
    omega
  · rw [lay_on h h8]
    have := lay_tail _ true (r.drop (left - 7)) (Nat.le_refl _) (by simp; omega)
    simp only [List.length_append, pie_length, List.length_take, List.length_drop] at *
    rw [Nat.min_eq_left (by omega)]
    omega

theorem app_byte {at' : Nat} {r : List Nat} (hr : ∀ x ∈ r, x < 256) : ∀ x ∈ app at' r, x < 256 := by
  intro x hx
  unfold app at hx
  split at hx
  · rcases List.mem_append.1 hx with hx | hx
    · obtain ⟨_, rfl⟩ := List.mem_replicate.1 hx
      omega
    · exact lay_byte _ _ _ _ (Nat.le_refl _) hr x hx
  · exact lay_byte _ _ _ _ (Nat.le_refl _) hr x hx
theorem app_length (at' : Nat) (r : List Nat) : (app at' r).length ≤ 8 * r.length + 14 ∧ 505 * (app at' r).length ≤ 512 * r.length + 505 * 21 := by
  unfold app
  split
  · have := lay_length false 512 r (by omega) (by omega)
    simp only [List.length_append, zer, List.length_replicate]
    omega
  · have := lay_length false (512 - at' % 512) r (by omega) (by omega)
    omega

end Lg
end Go.Proofs.YtcmbogogakdeoaaDoor
