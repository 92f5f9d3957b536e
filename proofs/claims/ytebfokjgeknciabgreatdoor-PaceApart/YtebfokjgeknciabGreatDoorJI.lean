import Derived.Test.YtebfokjgeknciabGreatDoorProg
import Derived.Test.YtebfokjgeknciabGreatDoorJK
namespace Go.Proofs.YtebfokjgeknciabGreatDoor
namespace BookI
open Go.RowKit Laws Irw
set_option linter.unusedVariables false

theorem Core.below {T : Nat → Nat} {w w' : World} {K : Nat} {f : Nat → Value} {L : Nat → List Value} (h : Core T w K f L) (hb : Below w.heap.size w w') : Core T w' K f L :=
  ⟨h.fld.below hb, h.tag, fun j h1 h2 => ⟨own_below (h.spine j h1 h2).1 hb, (h.spine j h1 h2).2⟩⟩
theorem Past.below {t : Nat} {T : Nat → Nat} {w w' : World} (hb : Below w.heap.size w w') : Past t T w T w' := ⟨hb.os, hb.tape, hb.output, hb.size, fun b h _ => ⟨hb.block b h, rfl⟩⟩
theorem Past.mono {t t' : Nat} {T T' : Nat → Nat} {w w' : World} (h : Past t T w T' w') (ht : t ≤ t') : Past t' T w T' w' :=
  ⟨h.os, h.tape, h.output, h.size, fun b hb hx => h.block b hb (by omega)⟩
/-- A new block's tag. -/
theorem Core.tagNew {T : Nat → Nat} {w : World} {K : Nat} {f : Nat → Value} {L : Nat → List Value} (h : Core T w K f L) (g t : Nat) (hg : w.heap.size ≤ g) : Core (upd T g t) w K f L := by
  have hK := h.fld.1
  refine ⟨h.fld, by rw [upd_other _ _ (by omega)]; exact h.tag, fun j h1 h2 => ⟨(h.spine j h1 h2).1, fun b hb => ?_⟩⟩
  have := ((h.spine j h1 h2).1.lt b hb).2
  rw [upd_other _ _ (by omega)]
  exact (h.spine j h1 h2).2 b hb
theorem Past.tagNew {t : Nat} {T : Nat → Nat} {w : World} (g s : Nat) (hg : w.heap.size ≤ g) : Past t T w (upd T g s) w := ⟨rfl, rfl, rfl, Nat.le_refl _, fun b hb _ => ⟨rfl, upd_other _ _ (by omega)⟩⟩

theorem Core.len {T : Nat → Nat} {w : World} {K : Nat} {f : Nat → Value} {L : Nat → List Value} (h : Core T w K f L) (j : Nat) (h1 : 13 ≤ j) (h2 : j < 21) : ∃ a c, f j = .slice a (L j).length c ∧ w.cell? ⟨K, j, none⟩ = some (.slice a (L j).length c) := by
  rcases (h.spine j h1 h2).1.2 with ⟨hv, h0⟩ | ⟨g, c, cur, hv, _⟩
  · refine ⟨none, 0, by rw [hv, h0], ?_⟩
    rw [(h.fld.2 j (by omega)).1, hv, h0]
  · exact ⟨_, c, hv, by rw [(h.fld.2 j (by omega)).1, hv]⟩
theorem Core.at {T : Nat → Nat} {w : World} {K : Nat} {f : Nat → Value} {L : Nat → List Value} (h : Core T w K f L) (j : Nat) (h1 : 13 ≤ j) (h2 : j < 21) (hn : L j ≠ []) :
    ∃ g c, f j = .slice (some ⟨g, 0, none⟩) (L j).length c ∧ w.cell? ⟨K, j, none⟩ = some (.slice (some ⟨g, 0, none⟩) (L j).length c) ∧ g < w.heap.size ∧ T g = j ∧ ∀ i x, (L j)[i]? = some x → w.cell? ⟨g, i, none⟩ = some x := by
  obtain ⟨s1, s2⟩ := h.spine j h1 h2
  rcases s1.2 with ⟨_, h0⟩ | ⟨g, c, cur, hv, _⟩
  · exact absurd (List.eq_nil_of_length_eq_zero h0) hn
  · rw [hv] at s1 s2
    refine ⟨g, c, hv, by rw [(h.fld.2 j (by omega)).1, hv], (s1.lt g rfl).2, s2 g rfl, fun i x hx => ?_⟩
    have hi := (List.getElem?_eq_some_iff.1 hx).1
    rw [s1.cellAt i (by omega)]
    exact hx

/-- Pairs of lists that hold the same, each in a block of its own (tags from b on). -/
def Its (b : Nat) (T : Nat → Nat) (w : World) (l : List (Item × Item)) : Prop :=
  ∀ i p, l[i]? = some p → OwnI w p.1 ∧ OwnI w p.2 ∧ p.1.2.2 = p.2.2.2 ∧ p.1.2.2.length ≤ 2000000000000 ∧ T p.1.1 = b + 2 * i ∧ T p.2.1 = b + 2 * i + 1
theorem Its.past {t b : Nat} {T T' : Nat → Nat} {w w' : World} {l : List (Item × Item)} (h : Its b T w l) (hp : Past t T w T' w') (ht : t ≤ b) : Its b T' w' l := fun i p hi => by
  obtain ⟨h1, h2, h3, h4, h5, h6⟩ := h i p hi
  obtain ⟨a1, a2⟩ := hp.item h1 (.inr (by omega))
  obtain ⟨b1, b2⟩ := hp.item h2 (.inr (by omega))
  exact ⟨a1, b1, h3, h4, a2.trans h5, b2.trans h6⟩
theorem Its.snoc {b : Nat} {T : Nat → Nat} {w : World} {l : List (Item × Item)} {p : Item × Item} (h : Its b T w l) (h1 : OwnI w p.1) (h2 : OwnI w p.2) (h3 : p.1.2.2 = p.2.2.2) (h4 : p.1.2.2.length ≤ 2000000000000) (h5 : T p.1.1 = b + 2 * l.length) (h6 : T p.2.1 = b + 2 * l.length + 1) : Its b T w (l ++ [p]) := fun i q hq => by
  by_cases hi : i < l.length
  · rw [List.getElem?_append_left hi] at hq
    exact h i q hq
  · have e : i = l.length := by
      have := (List.getElem?_eq_some_iff.1 hq).1
      simp at this; omega
    subst e
    simp at hq
    subst hq
    exact ⟨h1, h2, h3, h4, h5, h6⟩
theorem Its.pairs {b : Nat} {T : Nat → Nat} {w : World} {l : List (Item × Item)} (h : Its b T w l) : Pairs w l := fun p hp => by
  obtain ⟨i, hi⟩ := List.getElem?_of_mem hp
  obtain ⟨h1, h2, h3, h4, _⟩ := h i p hi
  exact ⟨h1.row, h2.row, h3, by omega, h1.fine, h2.fine⟩

/-- The lists that were written full and laid on. Several of them may lie in one block (spare room); those of fr from k on are not laid on yet, and each lies in a block of its own (tag 200 + its place). -/
def Outs (fr : List Item) (k : Nat) (T : Nat → Nat) (w : World) (o : List (Item × Item)) : Prop :=
  ∀ p ∈ o, IRow w p.1.1 0 p.1.2.2 ∧ IRow w p.2.1 0 p.2.2.2 ∧ (p.1.2.2 = p.2.2.2 ∧ Fine p.1 ∧ Fine p.2) ∧ p.1.2.2.length ≤ 2000000000000 ∧ T p.2.1 = 100 ∧ (T p.1.1 = 100 ∨ ∃ i, k ≤ i ∧ fr[i]? = some p.1 ∧ T p.1.1 = 200 + i)
def Fr (k : Nat) (T : Nat → Nat) (w : World) (fr : List Item) : Prop := ∀ i a, k ≤ i → fr[i]? = some a → OwnI w a ∧ T a.1 = 200 + i ∧ a.2.2.length ≤ 1000000000000
theorem Outs.past {fr : List Item} {k t : Nat} {T T' : Nat → Nat} {w w' : World} {o : List (Item × Item)} (h : Outs fr k T w o) (hp : Past t T w T' w') (ht : t ≤ 100) : Outs fr k T' w' o := fun p hm => by
  obtain ⟨h1, h2, h3, h4, h5, h6⟩ := h p hm
  have g6 : 100 ≤ T p.1.1 := by rcases h6 with h6 | ⟨i, _, _, h6⟩ <;> omega
  obtain ⟨b1, t1⟩ := hp.block p.1.1 h1.1 (.inr (by omega))
  obtain ⟨b2, t2⟩ := hp.block p.2.1 h2.1 (.inr (by omega))
  exact ⟨h1.keep b1 hp.size, h2.keep b2 hp.size, h3, h4, t2.trans h5, by rw [t1]; exact h6⟩
theorem Fr.past {fr : List Item} {k t : Nat} {T T' : Nat → Nat} {w w' : World} (h : Fr k T w fr) (hp : Past t T w T' w') (ht : t ≤ 100) : Fr k T' w' fr := fun i a hi ha => by
  obtain ⟨h1, h2, h3⟩ := h i a hi ha
  obtain ⟨g1, g2⟩ := hp.item h1 (.inr (by omega))
  exact ⟨g1, g2.trans h2, h3⟩
theorem Outs.keep {fr : List Item} {k : Nat} {T : Nat → Nat} {w w' : World} {o : List (Item × Item)} {bs : List Nat} (h : Outs fr k T w o) (hl : fr.length ≤ 100000) (hk : Keep bs w w') (hb : ∀ c ∈ bs, T c < 100 ∨ 1000000 ≤ T c) : Outs fr k T w' o := fun p hm => by
  obtain ⟨h1, h2, h3, h4, h5, h6⟩ := h p hm
  have g6 : 100 ≤ T p.1.1 ∧ T p.1.1 < 1000000 := by
    rcases h6 with h6 | ⟨i, _, hi, h6⟩
    · omega
    · have := (List.getElem?_eq_some_iff.1 hi).1
      omega
  exact ⟨h1.keep (hk.block _ h1.1 (fun hc => by have := hb _ hc; clear h6; omega)) hk.size, h2.keep (hk.block _ h2.1 (fun hc => by have := hb _ hc; clear h6; omega)) hk.size, h3, h4, h5, h6⟩
theorem Fr.keep {fr : List Item} {k : Nat} {T : Nat → Nat} {w w' : World} {bs : List Nat} (h : Fr k T w fr) (hl : fr.length ≤ 100000) (hk : Keep bs w w') (hb : ∀ c ∈ bs, T c < 100 ∨ 1000000 ≤ T c) : Fr k T w' fr := fun i a hi ha => by
  obtain ⟨h1, h2, h3⟩ := h i a hi ha
  have := (List.getElem?_eq_some_iff.1 ha).1
  exact ⟨h1.block (hk.block _ h1.lt (fun hc => by have := hb _ hc; omega)), h2, h3⟩
theorem Outs.retag {fr : List Item} {k : Nat} {T : Nat → Nat} {w : World} {o : List (Item × Item)} (h : Outs fr k T w o) (hl : fr.length ≤ 100000) (g s : Nat) (hg : T g < 100 ∨ 1000000 ≤ T g) : Outs fr k (upd T g s) w o := fun p hm => by
  obtain ⟨h1, h2, h3, h4, h5, h6⟩ := h p hm
  have g6 : 100 ≤ T p.1.1 ∧ T p.1.1 < 1000000 := by
    rcases h6 with h6 | ⟨i, _, hi, h6⟩
    · omega
    · have := (List.getElem?_eq_some_iff.1 hi).1
      omega
  have n1 : p.1.1 ≠ g := fun e => by rw [e] at g6; clear h6; omega
  have n2 : p.2.1 ≠ g := fun e => by rw [e] at h5; clear h6; omega
  exact ⟨h1, h2, h3, h4, by rw [upd_other _ _ n2]; exact h5, by rw [upd_other _ _ n1]; exact h6⟩
theorem Fr.retag {fr : List Item} {k : Nat} {T : Nat → Nat} {w : World} (h : Fr k T w fr) (hl : fr.length ≤ 100000) (g s : Nat) (hg : T g < 100 ∨ 1000000 ≤ T g) : Fr k (upd T g s) w fr := fun i a hi ha => by
  obtain ⟨h1, h2, h3⟩ := h i a hi ha
  have := (List.getElem?_eq_some_iff.1 ha).1
  exact ⟨h1, by rw [upd_other _ _ (fun e => by rw [e] at h2; omega)]; exact h2, h3⟩
theorem Outs.snoc {fr : List Item} {k : Nat} {T : Nat → Nat} {w : World} {o : List (Item × Item)} {p : Item × Item} (h : Outs fr k T w o) (h1 : IRow w p.1.1 0 p.1.2.2) (h2 : IRow w p.2.1 0 p.2.2.2) (h3 : p.1.2.2 = p.2.2.2 ∧ Fine p.1 ∧ Fine p.2) (h4 : p.1.2.2.length ≤ 2000000000000) (h5 : T p.2.1 = 100) (h6 : T p.1.1 = 100 ∨ ∃ i, k ≤ i ∧ fr[i]? = some p.1 ∧ T p.1.1 = 200 + i) : Outs fr k T w (o ++ [p]) := fun q hq => by
  simp at hq
  rcases hq with hq | rfl
  · exact h q hq
  · exact ⟨h1, h2, h3, h4, h5, h6⟩
theorem Outs.more {fr : List Item} {k : Nat} {T : Nat → Nat} {w : World} {o : List (Item × Item)} (h : Outs fr k T w o) (r : List Item) : Outs (fr ++ r) k T w o := fun p hm => by
  obtain ⟨h1, h2, h3, h4, h5, h6⟩ := h p hm
  refine ⟨h1, h2, h3, h4, h5, h6.imp id ?_⟩
  rintro ⟨i, i1, i2, i3⟩
  exact ⟨i, i1, by rw [List.getElem?_append_left (List.getElem?_eq_some_iff.1 i2).1]; exact i2, i3⟩
theorem Outs.done {fr : List Item} {k : Nat} {T : Nat → Nat} {w : World} {o : List (Item × Item)} (h : Outs fr k T w o) (hk : fr.length ≤ k) : Outs [] 0 T w o := fun p hm => by
  obtain ⟨h1, h2, h3, h4, h5, h6⟩ := h p hm
  refine ⟨h1, h2, h3, h4, h5, h6.imp id ?_⟩
  rintro ⟨i, i1, i2, i3⟩
  have := (List.getElem?_eq_some_iff.1 i2).1
  omega
theorem Outs.pairs {fr : List Item} {k : Nat} {T : Nat → Nat} {w : World} {o : List (Item × Item)} (h : Outs fr k T w o) : Pairs w o := fun p hm => by
  obtain ⟨h1, h2, h3, h4, _⟩ := h p hm
  exact ⟨h1, h2, h3.1, by omega, h3.2⟩

/-- What stands between two calls of the book. -/
structure Inv (T : Nat → Nat) (w : World) (K : Nat) (f : Nat → Value) (L : Nat → List Value) (o x : List (Item × Item)) (M D : List Int) (N : Nat) : Prop where
  core : Core T w K f L
  rest : ∀ j, 4 ≤ j → j < 175 → ¬ (13 ≤ j ∧ j < 22) → f j = f0 j
  now : f 0 = .bool false
  bad : f 1 = .bool false
  turn : ∃ t, f 2 = .int .i64 t
  deep : f 3 = .int .i64 0
  seen : ∃ s : Nat, f 21 = .int .i64 s ∧ s ≤ N
  l40 : L 13 = o.map fun p => vI p.1
  l41 : L 14 = o.map fun p => vI p.2
  l42 : L 15 = x.map fun p => vI p.1
  l43 : L 16 = x.map fun p => vI p.2
  l44 : L 17 = []
  l45 : L 18 = M.map (Value.int .i64)
  l46 : L 19 = D.map (Value.int .i64)
  l47 : L 20 = []
  f44 : f 17 = .slice none 0 0
  f47 : f 20 = .slice none 0 0
  lM : M.length = x.length
  lD : D.length = x.length
  outs : Outs [] 0 T w o
  waits : Its 1000000 T w x
  full : ∀ p ∈ x, p.1.2.2.length ≤ p.1.2.1 ∧ p.1.2.2.length ≤ 1000000000000
  many : o.length + 2 * x.length ≤ 2 * N
  few : N ≤ 2000

theorem Inv.held {T : Nat → Nat} {w : World} {K : Nat} {f : Nat → Value} {L : Nat → List Value} {o x : List (Item × Item)} {M D : List Int} {N : Nat} (h : Inv T w K f L o x M D N) : Held w K f o x := by
  have s40 := (h.core.spine 13 (by omega) (by omega)).1
  have s41 := (h.core.spine 14 (by omega) (by omega)).1
  have s42 := (h.core.spine 15 (by omega) (by omega)).1
  have s43 := (h.core.spine 16 (by omega) (by omega)).1
  rw [h.l40] at s40
  rw [h.l41] at s41
  rw [h.l42] at s42
  rw [h.l43] at s43
  exact ⟨h.core.fld, h.rest, h.now, h.bad, s40, s41, s42, s43, h.outs.pairs, h.waits.pairs, by have := h.many; have := h.few; omega, by have := h.many; have := h.few; omega⟩

theorem Inv.below {T : Nat → Nat} {w w' : World} {K : Nat} {f : Nat → Value} {L : Nat → List Value} {o x : List (Item × Item)} {M D : List Int} {N : Nat} (h : Inv T w K f L o x M D N) (hb : Below w.heap.size w w') : Inv T w' K f L o x M D N :=
  { h with core := h.core.below hb, outs := h.outs.past (Past.below (t := 0) hb) (by omega), waits := h.waits.past (Past.below (t := 0) hb) (by omega) }

end BookI
end Go.Proofs.YtebfokjgeknciabGreatDoor
