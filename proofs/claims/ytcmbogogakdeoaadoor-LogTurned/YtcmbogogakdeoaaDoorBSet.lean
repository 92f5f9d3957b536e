import Derived.Test.YtcmbogogakdeoaaDoorSam
import Derived.Lib.FrozenHead
namespace Go.Proofs.YtcmbogogakdeoaaDoor
namespace Byt
open Go.RowKit CMath Cod
set_option linter.unusedVariables false
theorem BRow.set {w : World} {g i : Nat} {l : List Nat} (h : BRow w g 0 l) (hi : i < l.length) (v : Nat) (z : Int) (hz : z = (v : Int)) : BRow (w.setCell ⟨g, i, none⟩ (.int .u8 z)) g 0 (l.set i v) := by
  subst hz
  refine ⟨by simpa using h.1, fun j x hx => ?_⟩
  by_cases hj : j = i
  · subst hj
    rw [List.getElem?_set_self hi] at hx
    simp at hx
    subst hx
    have := h.2 j _ (List.getElem?_eq_getElem hi)
    rw [Nat.zero_add] at this ⊢
    exact World.cell?_setCell_same _ _ _ this
  · rw [List.getElem?_set_ne (Ne.symm hj)] at hx
    rw [World.cell?_setCell_other _ _ _ _ (fun e => by simp only [Addr.mk.injEq] at e; omega)]
    exact h.2 j x hx
theorem New.at {T base : Nat} {w : World} {a : Option Addr} {c : Nat} {l : List Nat} (h : Cod.New T base w a c l) (hl : 0 < l.length) : ∃ g, a = some ⟨g, 0, none⟩ ∧ base ≤ g ∧ BRow w g 0 l ∧ ∀ j, w.frozen? ⟨g, j, none⟩ = false := by
  rcases h.row.2 with ⟨_, h0⟩ | ⟨g, cap, cur, hv, hg, hh, _⟩
  · omega
  · cases hv
    exact ⟨g, rfl, hg, row_of_own h.row rfl, fun j => Lib.frozen_of_heap hh _⟩
end Byt
end Go.Proofs.YtcmbogogakdeoaaDoor
