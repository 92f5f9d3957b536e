import Derived.Test.YtakgakjkemphlabDoorLgG
import Derived.Test.YtakgakjkemphlabDoorLgM
namespace Go.Proofs.YtakgakjkemphlabDoor
namespace Lg
open CMath Byt
set_option linter.unusedVariables false

/-- what a write weighs (P1.4) -/
def weiW (x : W3) : Nat := 2 * x.1.size + (if x.2.1 then 0 else x.2.2.size) + 448
def weiG (gs : List (List W3)) : Nat := (gs.map fun ws => (ws.map weiW).sum).sum
theorem num_len1 {n : Nat} (h : n < 128) : (num n).length = 1 := by rw [num_small h]; rfl
theorem num_len2 {n : Nat} (h : n < 16384) : (num n).length ≤ 2 := num_len n 2 (by omega) (by omega)
theorem wrB_len {x : W3} (h : okW x) : 512 * (wrB x).length ≤ 505 * weiW x := by
  obtain ⟨k, d, v⟩ := x
  obtain ⟨h1, h2, h3⟩ := h
  dsimp only at h1 h2 h3
  have l1 := strB_length k
  have l2 := strB_length v
  have n1 := num_len2 (n := k.size) (by omega)
  cases d with
  | true =>
    simp only [wrB, weiW, words, if_true, List.length_cons, List.length_append, l1]
    omega
  | false =>
    have := h3 rfl
    have n2 := num_len2 (n := v.size) (by omega)
    simp only [wrB, weiW, words, Bool.false_eq_true, if_false, List.length_cons, List.length_append, l1, l2]
    omega
theorem ws_len (ws : List W3) (h : ∀ x ∈ ws, okW x) : 512 * (ws.flatMap wrB).length ≤ 505 * (ws.map weiW).sum := by
  induction ws with
  | nil => simp
  | cons x ws ih =>
    have h1 := wrB_len (h x (List.mem_cons_self ..))
    have h2 := ih (fun y hy => h y (List.mem_cons_of_mem _ hy))
    simp only [List.flatMap_cons, List.length_append, List.map_cons, List.sum_cons]
    omega
theorem gs_len (gs : List (List W3)) (h : ∀ ws ∈ gs, (∀ x ∈ ws, okW x) ∧ ws.length ≤ 16) : 512 * (gs.flatMap batB).length ≤ 505 * weiG gs + 512 * gs.length := by
  induction gs with
  | nil => simp
  | cons x gs ih =>
    have h0 := h x (List.mem_cons_self ..)
    have h1 := ws_len x h0.1
    have h2 := ih (fun y hy => h y (List.mem_cons_of_mem _ hy))
    have h3 := num_len1 (n := x.length) (by omega)
    simp only [List.flatMap_cons, List.length_append, batB, weiG, List.map_cons, List.sum_cons, List.length_cons] at *
    omega
/-- P7.10 -/
theorem fits (at' first : Nat) (gs : List (List W3)) (hf : first < 18446744073709551616) (hg : gs.length ≤ 8) (h : ∀ ws ∈ gs, (∀ x ∈ ws, okW x) ∧ ws.length ≤ 16) : (app at' (putB first gs)).length ≤ weiG gs + 64 := by
  have h1 := (app_length at' (putB first gs)).2
  have h2 := gs_len gs h
  have h3 := num_le10 hf
  have h4 := num_len1 (n := gs.length) (by omega)
  simp only [putB, List.length_append] at h1 ⊢
  omega

end Lg
end Go.Proofs.YtakgakjkemphlabDoor
