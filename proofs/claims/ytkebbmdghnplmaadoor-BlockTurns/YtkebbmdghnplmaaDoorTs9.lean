import Derived.Test.YtkebbmdghnplmaaDoorProg
import Derived.Test.YtkebbmdghnplmaaDoorQb1
namespace Go.Proofs.YtkebbmdghnplmaaDoor
namespace Tsr
open Go.RowKit CMath Byt Laws
set_option linter.unusedVariables false
/-- Texts that lie in a block. -/
def TRow (w : World) (b off : Nat) (l : List ByteArray) : Prop := b < w.heap.size ∧ ∀ (i : Nat) (x : ByteArray), l[i]? = some x → w.cell? ⟨b, off + i, none⟩ = some (.string x)
/-- What a slice of texts holds. -/
def IsT (w : World) (a : Option Addr) (l : List ByteArray) : Prop := l ≠ [] → ∃ b off, a = some ⟨b, off, none⟩ ∧ TRow w b off l
theorem TRow.keep {w w' : World} {b off : Nat} {l : List ByteArray} (h : TRow w b off l) (hb : w'.heap[b]? = w.heap[b]?) (hs : w.heap.size ≤ w'.heap.size) : TRow w' b off l :=
  ⟨Nat.lt_of_lt_of_le h.1 hs, fun i x hx => (World.cell?_of_block (w := w) (a := ⟨b, off + i, none⟩) hb).trans (h.2 i x hx)⟩
theorem IsT.below {w w' : World} {a : Option Addr} {l : List ByteArray} (h : IsT w a l) (hb : Below w.heap.size w w') : IsT w' a l := fun hne => by
  obtain ⟨b, off, e, hr⟩ := h hne
  exact ⟨b, off, e, hr.keep (hb.block b hr.1) hb.size⟩
theorem IsT.nil (w : World) (a : Option Addr) : IsT w a [] := fun h => absurd rfl h
theorem IsT.at_ {w : World} {a : Option Addr} {l : List ByteArray} (h : IsT w a l) {k : Nat} (hk : k < l.length) : ∃ b off x, a = some ⟨b, off, none⟩ ∧ l[k]? = some x ∧ b < w.heap.size ∧ w.cell? ⟨b, off + k, none⟩ = some (.string x) := by
  obtain ⟨b, off, e, hr⟩ := h (by rintro rfl; simp at hk)
  have hx : l[k]? = some l[k] := List.getElem?_eq_getElem hk
  exact ⟨b, off, _, e, hx, hr.1, hr.2 k _ hx⟩
end Tsr
end Go.Proofs.YtkebbmdghnplmaaDoor
