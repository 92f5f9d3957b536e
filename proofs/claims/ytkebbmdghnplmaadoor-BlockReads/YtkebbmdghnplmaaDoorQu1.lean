import Derived.Test.YtkebbmdghnplmaaDoorQc6
import Derived.Test.YtkebbmdghnplmaaDoorQe2
namespace Go.Proofs.YtkebbmdghnplmaaDoor
namespace Qb
open Go.RowKit Go.Shelf CMath Byt Laws Irw Crw Cod Qe
set_option linter.unusedVariables false
set_option linter.unusedSimpArgs false
set_option maxRecDepth 100000
def u2 (s t : Nat) (x : Nat) : Prop := x = s ∨ x = t
/-- a list that is gathered in a box: tags s (the list), t (the box) -/
structure Col (s t : Nat) (w : World) (X : Nat) (es : List En) (T : Nat → Nat) (W : World) : Prop where
  l : ∃ v, W.cell? ⟨X, 0, none⟩ = some v ∧ OwnE s T W v es
  fl : W.frozen? ⟨X, 0, none⟩ = false
  tl : T X = t
  xx : w.heap.size ≤ X
  bl : Below w.heap.size w W
  hi : ∀ b, W.heap.size ≤ b → T b = 0
  fr : ∀ b, b < w.heap.size → T b ≠ s ∧ T b ≠ t
  nc : NC T W
theorem Col.lasts {s t : Nat} {w : World} {B X : Nat} (hB : w.heap.size ≤ B) : Lasts B (Col s t w X) := by
  rintro es T A C row h hg hr
  have hr2 : ∀ x, row = some x → ∃ o : Obj, A.heap[x]? = some o ∧ o.isCells = false := fun x e => (hr x e).2
  obtain ⟨v, h1, h2⟩ := h.l
  have k1 := cell_grown' hg hr2 h1
  exact ⟨⟨v, (World.cell?_of_block (a := ⟨X, 0, none⟩) k1).trans h1, ownE_grown h2 hg hr2⟩, (World.frozen?_of_block (a := ⟨X, 0, none⟩) k1).trans h.fl, h.tl, h.xx, below_grown (B := 0) h.bl hg (Nat.le_refl _) (fun x e => Nat.le_trans hB (hr x e).1), fun b hb => h.hi b (Nat.le_trans hg.size hb), h.fr, h.nc.grown h.hi hg hr2⟩
/-- a box with a slice that is nil, just laid -/
theorem Col.first {s t : Nat} {w W : World} {X : Nat} {u : TypeId} {T : Nat → Nat} (hx : w.heap.size ≤ X) (hg : W.heap[X]? = some (.cells #[.slice none 0 0] u)) (hb : Below w.heap.size w W) (hi : ∀ b, W.heap.size ≤ b → T b = 0) (hfr : ∀ b, b < w.heap.size → T b ≠ s ∧ T b ≠ t) (nc : NC T W) : Col s t w X [] (upd T X t) W := by
  have hlt := (Array.getElem?_eq_some_iff.1 hg).1
  refine ⟨⟨.slice none 0 0, by rw [cell_of_obj hg]; rfl, Erw.OwnE.empty _ _ _⟩, froz_of_obj hg, upd_same _ _ _, hx, hb, fun b hb => ?_, fun b hb => ?_, fun b o h ho => ?_⟩
  · rw [upd_other _ _ (by omega)]; exact hi b hb
  · rw [upd_other _ _ (by omega)]; exact hfr b hb
  · by_cases hbX : b = X
    · subst hbX; rw [hg] at h; cases h; cases ho
    · rw [upd_other _ _ hbX]; exact nc b o h ho
/-- one thing more -/
theorem Col.app {s t : Nat} {w Wb w' : World} {X B : Nat} {es : List En} {e : En} {T T' : Nat → Nat} {o : Obj} {a7 a' : Option Addr} {c7 c' : Nat} (h : Col s t w X es T Wb) (hst : s ≠ t) (hs0 : s ≠ 0) (ht0 : t ≠ 0) (lc : Wb.cell? ⟨X, 0, none⟩ = some (.slice a7 es.length c7))
    (hown : OwnE s T' w' (.slice a' (es.length + 1) c') (es ++ [e])) (hgo : Goes (· = s) T (Wb.alloc o) T' w') :
    w'.cell? ⟨X, 0, none⟩ = some (.slice a7 es.length c7) ∧ w'.frozen? ⟨X, 0, none⟩ = false ∧ (∀ b, b < Wb.heap.size → T b ≠ s → w'.heap[b]? = Wb.heap[b]?) ∧ ∃ T9, Col s t w X (es ++ [e]) T9 (w'.setCell ⟨X, 0, none⟩ (.slice a' (es.length + 1) c')) ∧ Goes (u2 s t) T Wb T9 (w'.setCell ⟨X, 0, none⟩ (.slice a' (es.length + 1) c')) ∧ KeepsFrom B Wb (w'.setCell ⟨X, 0, none⟩ (.slice a' (es.length + 1) c')) ∧ ∀ b o, b < Wb.heap.size → T b ≠ s → Wb.heap[b]? = some o → o.isCells = true → b ≠ X → T9 b = T b ∧ (w'.setCell ⟨X, 0, none⟩ (.slice a' (es.length + 1) c')).heap[b]? = some o := by
  have hu0 : ¬ u2 s t 0 := by unfold u2; omega
  have l1 := World.block_lt_of_cell? Wb _ lc
  have hga : Goes (· = s) T Wb T' w' := (Goes.below ((Below.refl _ _).alloc (Nat.le_refl _) o)).trans hgo
  have hXs : ¬ T X = s := by rw [h.tl]; exact fun e => hst e.symm
  have k1 : w'.cell? ⟨X, 0, none⟩ = some (.slice a7 es.length c7) := (hga.cell l1 hXs).trans lc
  have kf : w'.frozen? ⟨X, 0, none⟩ = false := (World.frozen?_of_block (a := ⟨X, 0, none⟩) (hga.block _ l1 hXs)).trans h.fl
  have kt : T' X = t := (hga.tag _ l1 hXs).trans h.tl
  have hgs : Goes (u2 s t) T' w' T' (w'.setCell ⟨X, 0, none⟩ (.slice a' (es.length + 1) c')) := Goes.setCell (.inr kt)
  have hgt : Goes (u2 s t) T Wb T' (w'.setCell ⟨X, 0, none⟩ (.slice a' (es.length + 1) c')) := (hga.mono fun x hx => .inl hx).trans hgs
  have p3 := goes_rt hgt h.nc
  have d1 : (w'.setCell ⟨X, 0, none⟩ (.slice a' (es.length + 1) c')).cell? ⟨X, 0, none⟩ = some (.slice a' (es.length + 1) c') := World.cell?_setCell_same _ _ _ k1
  refine ⟨k1, kf, fun b hb hT => hga.block b hb hT, rt T' (w'.setCell ⟨X, 0, none⟩ (.slice a' (es.length + 1) c')), ⟨⟨_, d1, ?_⟩, ?_, (rt_cell d1).trans kt, h.xx, ?_, fun b hb => p3.high b hb (h.hi b (Nat.le_trans p3.size hb)), fun b hb => ?_, nc_rt _ _⟩, p3, keeps_of p3 h.nc hu0 _, fun b ob hb hT hob hoc hne => ?_⟩
  · have : OwnE s T' (w'.setCell ⟨X, 0, none⟩ (.slice a' (es.length + 1) c')) (.slice a' (es.length + 1) c') (es ++ [e]) := by
      refine Erw.OwnE.goes (t := (· = t)) (T := T') (w := w') hown (Goes.setCell kt) hst
    exact ownE_rt this
  · rw [World.frozen?_setCell]; exact kf
  · exact h.bl.trans ⟨p3.os, p3.tape, p3.output, p3.size, fun b hb => p3.block b (Nat.lt_of_lt_of_le hb h.bl.size) (by have := h.fr b hb; unfold u2; omega)⟩
  · have h1 := h.fr b hb
    rw [p3.tag b (Nat.lt_of_lt_of_le hb h.bl.size) (by unfold u2; omega)]
    exact h1
  · have e1 : (w'.setCell ⟨X, 0, none⟩ (.slice a' (es.length + 1) c')).heap[b]? = some ob := by
      rw [Below.heap_setCell w' _ _ b hne]
      exact (hga.block b hb hT).trans hob
    exact ⟨(rt_cells e1 hoc).trans (hga.tag b hb hT), e1⟩
/-- behind the loop: what was gathered, and nothing from before has turned -/
theorem Col.done {s t : Nat} {w W : World} {X : Nat} {es : List En} {T : Nat → Nat} (h : Col s t w X es T W) : ∃ a c, W.cell? ⟨X, 0, none⟩ = some (.slice a es.length c) ∧ IsE W a es ∧ es.length ≤ c ∧ (a = none → c = 0) := by
  obtain ⟨v, h1, h2⟩ := h.l
  obtain ⟨a, c, rfl, hi, hc, hn⟩ := h2.form
  exact ⟨a, c, h1, hi, hc, hn⟩
end Qb
end Go.Proofs.YtkebbmdghnplmaaDoor
