import Derived.Test.YtdflepndhemfgaaGreatDoorSk6
namespace Go.Proofs.YtdflepndhemfgaaGreatDoor
namespace Sk
open Go.RowKit Laws Irw Erw KMath Skm Byt
set_option linter.unusedVariables false
set_option maxRecDepth 100000
set_option linter.unusedSimpArgs false

theorem nxt_stop {i : Nat} {x : List Nd} {n : Nd} (hn : i < n.h) (r r' : List Nd) : nxt i (x ++ n :: r) = nxt i (x ++ n :: r') := by
  induction x with
  | nil => simp [nxt, hn]
  | cons m x ih =>
    simp only [List.cons_append, nxt]
    rw [ih]
/-- what a station's next is, once the new node is there -/
theorem link_nxt (s i : Nat) (y post : List Nd) (new : Nd) (hne : ∀ n ∈ y, n.b ≠ s) : nxt i (y ++ new :: post) = if i < new.h ∧ lst s i y = s then some ⟨new.b, 0, none⟩ else nxt i (y ++ post) := by
  obtain ⟨Y, hY, h⟩ := lst_at s i y
  rcases h with ⟨h1, rfl⟩ | ⟨x, n, rfl, h1, h2⟩
  · rw [nxt_append hY, nxt_append hY]
    by_cases hi : i < new.h
    · rw [if_pos ⟨hi, h1⟩, nxt, if_pos hi]
    · rw [if_neg (fun h => hi h.1), nxt, if_neg hi]
  · rw [if_neg (fun h => hne n (by simp) (h1.symm.trans h.2))]
    have e1 : (x ++ n :: Y) ++ new :: post = x ++ n :: (Y ++ new :: post) := by simp
    have e2 : (x ++ n :: Y) ++ post = x ++ n :: (Y ++ post) := by simp
    rw [e1, e2]
    exact nxt_stop h2 _ _
theorem lst_from {L i : Nat} {z y : List Nd} {n : Nd} (hn : i < n.h) : lst L i (z ++ n :: y) = lst n.b i y := by
  rw [lst_append]
  show lst (if i < n.h then n.b else _) i y = _
  rw [if_pos hn]
theorem lst_mem (L i : Nat) (p : List Nd) : lst L i p = L ∨ ∃ n ∈ p, lst L i p = n.b ∧ i < n.h := by
  obtain ⟨Y, hY, h⟩ := lst_at L i p
  rcases h with ⟨h1, _⟩ | ⟨x, n, rfl, h1, h2⟩
  · exact .inl h1
  · exact .inr ⟨n, by simp, h1, h2⟩

/-- k lists linked -/
def lnk (L M : Nat) (pre post : List Nd) (W : World) : Nat → World
  | 0 => W
  | k + 1 => ((lnk L M pre post W k).setCell ⟨M, 5 + k, none⟩ (.pointer (nxt k post))).setCell ⟨lst L k pre, 5 + k, none⟩ (.pointer (some ⟨M, 0, none⟩))

section
variable {L M : Nat} {pre post : List Nd} {W : World}
theorem lnk_size (k : Nat) : (lnk L M pre post W k).heap.size = W.heap.size := by
  induction k with
  | zero => rfl
  | succ k ih => simp only [lnk, World.size_setCell]; exact ih
theorem lnk_same (k : Nat) : (lnk L M pre post W k).os = W.os ∧ (lnk L M pre post W k).tape = W.tape ∧ (lnk L M pre post W k).output = W.output := by
  induction k with
  | zero => exact ⟨rfl, rfl, rfl⟩
  | succ k ih => exact ih
theorem lnk_frozen (k : Nat) (a : Addr) : (lnk L M pre post W k).frozen? a = W.frozen? a := by
  induction k with
  | zero => rfl
  | succ k ih => simp only [lnk, World.frozen?_setCell]; exact ih
theorem lnk_block (k b : Nat) (h1 : b ≠ M) (h2 : ∀ i, i < k → b ≠ lst L i pre) : (lnk L M pre post W k).heap[b]? = W.heap[b]? := by
  induction k with
  | zero => rfl
  | succ k ih =>
    show (((lnk L M pre post W k).setCell _ _).setCell _ _).heap[b]? = _
    rw [Below.heap_setCell _ _ _ _ (h2 k (by omega)), Below.heap_setCell _ _ _ _ h1]
    exact ih fun i hi => h2 i (by omega)
theorem lnk_off (k b j : Nat) (hj : ∀ i, i < k → j ≠ 5 + i) : (lnk L M pre post W k).cell? ⟨b, j, none⟩ = W.cell? ⟨b, j, none⟩ := by
  induction k with
  | zero => rfl
  | succ k ih =>
    show (((lnk L M pre post W k).setCell ⟨M, 5 + k, none⟩ _).setCell ⟨lst L k pre, 5 + k, none⟩ _).cell? ⟨b, j, none⟩ = _
    have hk := hj k (by omega)
    rw [World.cell?_setCell_other _ ⟨lst L k pre, 5 + k, none⟩ ⟨b, j, none⟩ _ (fun e => hk (congrArg Addr.off e).symm), World.cell?_setCell_other _ ⟨M, 5 + k, none⟩ ⟨b, j, none⟩ _ (fun e => hk (congrArg Addr.off e).symm)]
    exact ih fun i hi => hj i (by omega)
theorem lnk_M (hM : ∀ i, i < 12 → lst L i pre ≠ M) (hc : ∀ i, i < 12 → ∃ u, W.cell? ⟨M, 5 + i, none⟩ = some u) (k : Nat) (hk : k ≤ 12) (i : Nat) (hi : i < k) : (lnk L M pre post W k).cell? ⟨M, 5 + i, none⟩ = some (.pointer (nxt i post)) := by
  induction k with
  | zero => omega
  | succ k ih =>
    show (((lnk L M pre post W k).setCell ⟨M, 5 + k, none⟩ _).setCell ⟨lst L k pre, 5 + k, none⟩ _).cell? ⟨M, 5 + i, none⟩ = _
    rw [World.cell?_setCell_other _ ⟨lst L k pre, 5 + k, none⟩ ⟨M, 5 + i, none⟩ _ (fun e => hM k (by omega) (congrArg Addr.block e))]
    by_cases hik : i = k
    · subst hik
      obtain ⟨u, hu⟩ := hc i (by omega)
      exact World.cell?_setCell_same _ _ _ ((lnk_off i M (5 + i) (fun q hq => by omega)).trans hu)
    · rw [World.cell?_setCell_other _ ⟨M, 5 + k, none⟩ ⟨M, 5 + i, none⟩ _ (fun e => hik (by have h9 : 5 + k = 5 + i := congrArg Addr.off e; omega))]
      exact ih (by omega) (by omega)
theorem lnk_S (hc : ∀ i, i < 12 → ∃ u, W.cell? ⟨lst L i pre, 5 + i, none⟩ = some u) (b : Nat) (hb : b ≠ M) (k : Nat) (hk : k ≤ 12) (i : Nat) : (lnk L M pre post W k).cell? ⟨b, 5 + i, none⟩ = if i < k ∧ lst L i pre = b then some (.pointer (some ⟨M, 0, none⟩)) else W.cell? ⟨b, 5 + i, none⟩ := by
  induction k with
  | zero => rw [if_neg (by omega)]; rfl
  | succ k ih =>
    have ih := ih (by omega)
    show (((lnk L M pre post W k).setCell ⟨M, 5 + k, none⟩ _).setCell ⟨lst L k pre, 5 + k, none⟩ _).cell? ⟨b, 5 + i, none⟩ = _
    by_cases hik : i = k ∧ lst L i pre = b
    · obtain ⟨rfl, rfl⟩ := hik
      rw [if_pos ⟨by omega, rfl⟩]
      obtain ⟨u, hu⟩ := hc i (by omega)
      have h1 : ((lnk L M pre post W i).setCell ⟨M, 5 + i, none⟩ (.pointer (nxt i post))).cell? ⟨lst L i pre, 5 + i, none⟩ = some u := by
        rw [World.cell?_setCell_other _ ⟨M, 5 + i, none⟩ ⟨lst L i pre, 5 + i, none⟩ _ (fun e => hb (congrArg Addr.block e).symm)]
        exact (lnk_off i _ (5 + i) (fun q hq => by omega)).trans hu
      exact World.cell?_setCell_same _ _ _ h1
    · rw [World.cell?_setCell_other _ ⟨lst L k pre, 5 + k, none⟩ ⟨b, 5 + i, none⟩ _ (fun e => hik (by have h9 : 5 + k = 5 + i := congrArg Addr.off e; have h8 : lst L k pre = b := congrArg Addr.block e; have h7 : i = k := (by omega); exact ⟨h7, by rw [h7]; exact h8⟩)), World.cell?_setCell_other _ ⟨M, 5 + k, none⟩ ⟨b, 5 + i, none⟩ _ (fun e => hb (congrArg Addr.block e).symm), ih]
      by_cases h1 : i < k ∧ lst L i pre = b
      · rw [if_pos h1, if_pos ⟨by omega, h1.2⟩]
      · rw [if_neg h1, if_neg (fun h => h1 ⟨by
          rcases Nat.lt_succ_iff_lt_or_eq.1 h.1 with h2 | h2
          · exact h2
          · exact absurd ⟨h2, h.2⟩ hik, h.2⟩)]
end
end Sk
end Go.Proofs.YtdflepndhemfgaaGreatDoor
