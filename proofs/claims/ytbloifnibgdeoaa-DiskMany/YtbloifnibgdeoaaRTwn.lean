import Derived.Test.YtbloifnibgdeoaaRWit
namespace Go.Proofs.Ytbloifnibgdeoaa
namespace Dsk
open Go.RowKit Go.Shelf Go.Maps Go.Sort Byt Laws
set_option linter.unusedVariables false
set_option maxRecDepth 100000
set_option linter.unusedSimpArgs false

theorem enRow_one (l : List (Key × Nat)) : ∀ u ∈ enRow l, u.oneCell' = true := by
  intro u hu
  simp only [enRow, List.mem_flatMap] at hu
  obtain ⟨p, _, hp'⟩ := hu
  simp at hp'
  rcases hp' with rfl | rfl <;> rfl
theorem enRow_news {base : Nat} {w : World} {g n c : Nat} {l : List (Key × Nat)} (h : w.ownsRow base 98 2 (.slice (some ⟨g, 0, none⟩) n c) n (enRow l)) : ∀ j u, (enRow l)[j]? = some u → w.cell? ((⟨g, 0, none⟩ : Addr).add j) = some u := by
  intro j u hu
  have hj := (List.getElem?_eq_some_iff.1 hu).1
  rcases h.2 with ⟨e, _⟩ | ⟨g', cap, cur, e, h1, h2, h3, h4, h5, h6⟩
  · cases e
  · cases e
    rw [add_plain2, Go.Joins.cell_of_block h2]
    rw [← h6, List.getElem?_take] at hu
    split at hu
    · simpa using hu
    · cases hu

set_option maxHeartbeats 1000000 in
theorem rtwin_any (base : Nat) (v : Value) (n : Nat) (l : List (Key × Nat)) (w : World) (h : w.ownsRow base 98 2 v n (enRow l)) (hl : n ≤ 10000000) :
    Calls Try.prog 58 #[v] w fun e w' => ∃ v', e = .returned v' ∧ w'.ownsRow w.heap.size 98 2 v' n (enRow l) ∧ Below w.heap.size w w' := by
  obtain ⟨i4, hi4, hz0, hz1, hz2⟩ := info_parts infoE
  have HO : Hid (w.ownsRow base 98 2 v n (enRow l)) := h
  rcases h.2 with ⟨rfl, rfl⟩ | ⟨g, cap, cur, rfl, h1, h2, h3, h4, h5, h6⟩
  · have hl0 : enRow l = [] := List.eq_nil_of_length_eq_zero (by have := h.1; omega)
    rw [hl0]
    clear h HO
    go_enter Try.func58, Try.ntmps58
    go_wp2_with (at_builtin; refine wpList_append_own_none (by rfl) (.const (.slice none 0 0)) (.tmp 3) 92 (by rfl) w.heap.size 98 i4 2 Try.underlying92 hi4 (.slice none 0 0) 0 [] (by rfl) (World.ownsRow_nil _ _ _ _) (by rfl) ?_)
    go_ret
    exact ⟨_, rfl, World.ownsRow_nil _ _ _ _, Below.refl _ _⟩
  · have HL : Hid ((enRow l).length = n * 2) := h.1
    clear h h1 h2 h4 h5 h6
    go_enter Try.func58, Try.ntmps58
    go_wp2_with (at_builtin; refine wpList_append_own_at _ (by rfl) (.const (.slice none 0 0)) (.tmp 3) 92 (by rfl) w.heap.size 98 i4 _ 2 24 Try.underlying92 hi4 hz0 hz1 hz2 rfl (by omega) (.slice none 0 0) 0 [] (by rfl) (World.ownsRow_nil _ _ _ _) ⟨g, 0, none⟩ n cap (enRow l) (by rfl) HL.out (enRow_news HO.out) (enRow_one l) (by unfold maxLen; omega) (by omega) (Nat.le_refl _) ?_; intro v' w' q1 q2 q3 q4; have Q1 : Hid (w'.ownsRow w.heap.size 98 2 v' (0 + n) ([] ++ enRow l) ∧ w.grownBy w' (Value.slice none 0 0).ownBlock) := ⟨q1, q2⟩; clear q1 q2 q3 q4)
    go_ret
    obtain ⟨q1, q2⟩ := Q1.out
    rw [Nat.zero_add, List.nil_append] at q1
    exact ⟨_, rfl, q1, below_of (Below.refl _ _) q2 (Nat.le_refl _) (fun j hj => by cases hj)⟩
end Dsk
end Go.Proofs.Ytbloifnibgdeoaa
