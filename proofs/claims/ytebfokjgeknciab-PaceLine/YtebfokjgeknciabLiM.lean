import Derived.WalkKit
import Derived.Lib.Slices
namespace Go.Proofs.Ytebfokjgeknciab
namespace Lin
open Go.RowKit
set_option linter.unusedVariables false

/-- Where a number stands. -/
def plc (l : List Int) (n : Int) : Int := Lib.idxOf l n
theorem plc_ge (l : List Int) (n : Int) : 0 ≤ plc l n ↔ n ∈ l := by
  unfold plc
  rw [Lib.idxOf_nonneg_iff]
  simp
theorem plc_hit {l : List Int} {n : Int} {k : Nat} (hk : k < l.length) (h : l.getD k 0 = n) (hn : ∀ j, j < k → l.getD j 0 ≠ n) : plc l n = k := by
  have := Lib.idxOf_hit l l.length k n hk (Nat.le_refl _) h hn
  rwa [List.take_length] at this
theorem plc_miss {l : List Int} {n : Int} (hn : ∀ j, j < l.length → l.getD j 0 ≠ n) : plc l n = -1 := by
  have := Lib.idxOf_miss l l.length n hn
  rwa [List.take_length] at this
theorem plc_neg {l : List Int} {n : Int} (h : n ∉ l) : plc l n = -1 := plc_miss fun j hj e => h (by rw [← e]; simp [hj])
theorem plc_some {l : List Int} {n : Int} (h : n ∈ l) : ∃ k : Nat, k < l.length ∧ plc l n = k ∧ l.getD k 0 = n ∧ ∀ j, j < k → l.getD j 0 ≠ n := by
  have key : ∀ m, m ≤ l.length → (∃ k : Nat, k < m ∧ l.getD k 0 = n ∧ ∀ j, j < k → l.getD j 0 ≠ n) ∨ ∀ j, j < m → l.getD j 0 ≠ n := by
    intro m
    induction m with
    | zero => intro _; exact .inr fun j hj => by omega
    | succ m ih =>
      intro hm
      rcases ih (by omega) with ⟨k, h1, h2, h3⟩ | h1
      · exact .inl ⟨k, by omega, h2, h3⟩
      · by_cases e : l.getD m 0 = n
        · exact .inl ⟨m, by omega, e, h1⟩
        · exact .inr fun j hj => by
            by_cases ej : j = m
            · rw [ej]; exact e
            · exact h1 j (by omega)
  rcases key l.length (Nat.le_refl _) with ⟨k, h1, h2, h3⟩ | h1
  · exact ⟨k, h1, plc_hit h1 h2 h3, h2, h3⟩
  · have := plc_miss h1
    have h2 := (plc_ge l n).2 h
    omega
theorem plc_at {l : List Int} (hd : l.Nodup) {k : Nat} (hk : k < l.length) : plc l (l.getD k 0) = k := by
  refine plc_hit hk rfl fun j hj e => ?_
  have hj' : j < l.length := by omega
  have e' : l[j] = l[k] := by simpa [hj', hk] using e
  exact List.pairwise_iff_getElem.1 hd j k hj' hk hj e'
theorem plc_ahead {l : List Int} (hd : l.Nodup) {k : Nat} (hk : k < l.length) : plc (l.take k) (l.getD k 0) = -1 := by
  refine plc_neg fun hm => ?_
  obtain ⟨j, hj, e⟩ := List.mem_iff_getElem.1 hm
  simp at hj
  have e' : l[j] = l[k] := by simpa [hk] using e
  exact List.pairwise_iff_getElem.1 hd j k (by omega) hk (by omega) e'

/-- somebody joins, somebody leaves -/
theorem nodup_join {l : List Int} (hd : l.Nodup) {n : Int} (h : n ∉ l) : (l ++ [n]).Nodup := by
  rw [List.nodup_append]
  exact ⟨hd, by simp, by intro a ha b hb e; simp at hb; subst hb; subst e; exact h ha⟩
/-- when they joined -/
structure Since (l : List Int) (s : List Int) (i : Int) : Prop where
  len : s.length = l.length
  up : s.Pairwise (· < ·)
  lt : ∀ x ∈ s, x < i
theorem Since.nil (i : Int) : Since [] [] i := ⟨rfl, by simp, by simp⟩
theorem Since.next {l s : List Int} {i : Int} (h : Since l s i) : Since l s (i + 1) := ⟨h.len, h.up, fun x hx => by have := h.lt x hx; omega⟩
theorem Since.join {l s : List Int} {i : Int} (h : Since l s i) (n : Int) : Since (l ++ [n]) (s ++ [i]) (i + 1) :=
  ⟨by simp [h.len], by rw [List.pairwise_append]; exact ⟨h.up, by simp, fun a ha b hb => by simp at hb; subst hb; exact h.lt a ha⟩, fun x hx => by
    rw [List.mem_append] at hx
    rcases hx with hx | hx
    · have := h.lt x hx; omega
    · simp at hx; omega⟩
theorem Since.leave {l s : List Int} {i : Int} (h : Since l s i) (k : Nat) : Since (l.eraseIdx k) (s.eraseIdx k) (i + 1) :=
  ⟨by simp [List.length_eraseIdx, h.len], h.up.sublist (List.eraseIdx_sublist _ _), fun x hx => by
    have := h.lt x ((List.eraseIdx_sublist _ _).subset hx); omega⟩
theorem Since.rise {l s : List Int} {i : Int} (h : Since l s i) {k : Nat} (h0 : 0 < k) (hk : k < l.length) : ¬ s.getD k 0 < s.getD (k - 1) 0 := by
  have h1 : k < s.length := by rw [h.len]; exact hk
  have := List.pairwise_iff_getElem.1 h.up (k - 1) k (by omega) h1 (by omega)
  have e1 : s.getD k 0 = s[k] := by simp [h1]
  have e2 : s.getD (k - 1) 0 = s[k - 1]'(by omega) := by
    have : k - 1 < s.length := by omega
    simp [this]
  omega
theorem erase_eq (l : List Int) (k : Nat) : l.eraseIdx k = l.take k ++ l.drop (k + 1) := List.eraseIdx_eq_take_drop_succ l k

end Lin
end Go.Proofs.Ytebfokjgeknciab
