import Derived.Test.YtpnomeggdhcbaaaGreatDoorIRw
import Derived.Below
namespace Go.Proofs.YtpnomeggdhcbaaaGreatDoor
namespace Lin
open Go Go.RowKit Laws Irw
set_option linter.unusedVariables false
set_option maxRecDepth 100000

/-- One call of a script: its kind, its number, of which side. -/
structure OpD where
  kind : Int
  n : Int
  second : Bool
def OpRow (w : World) (b off : Nat) (l : List OpD) : Prop := b < w.heap.size ∧ ∀ (i : Nat) (x : OpD), l[i]? = some x → w.cell? ⟨b, off + i * 3, none⟩ = some (.int .i64 x.kind) ∧ w.cell? ⟨b, off + i * 3 + 1, none⟩ = some (.int .i64 x.n) ∧ w.cell? ⟨b, off + i * 3 + 2, none⟩ = some (.bool x.second)
def IsOps (w : World) (a : Option Addr) (l : List OpD) : Prop := l ≠ [] → ∃ b off, a = some ⟨b, off, none⟩ ∧ OpRow w b off l
theorem IsOps.at_ {w : World} {a : Option Addr} {l : List OpD} (h : IsOps w a l) {k : Nat} (hk : k < l.length) : ∃ b off x, a = some ⟨b, off, none⟩ ∧ l[k]? = some x ∧ b < w.heap.size ∧ w.cell? ⟨b, off + k * 3, none⟩ = some (.int .i64 x.kind) ∧ w.cell? ⟨b, off + k * 3 + 1, none⟩ = some (.int .i64 x.n) ∧ w.cell? ⟨b, off + k * 3 + 2, none⟩ = some (.bool x.second) := by
  obtain ⟨b, off, e, hr⟩ := h (by rintro rfl; simp at hk)
  have hx : l[k]? = some l[k] := List.getElem?_eq_getElem hk
  exact ⟨b, off, _, e, hx, hr.1, hr.2 k _ hx⟩
theorem IsOps.below {w w' : World} {a : Option Addr} {l : List OpD} (h : IsOps w a l) (hb : Below w.heap.size w w') : IsOps w' a l := fun hne => by
  obtain ⟨b, off, e, hr⟩ := h hne
  refine ⟨b, off, e, Nat.lt_of_lt_of_le hr.1 hb.size, fun i x hx => ?_⟩
  obtain ⟨q0, q1, q2⟩ := hr.2 i x hx
  exact ⟨(hb.cell (p := ⟨b, _, none⟩) hr.1).trans q0, (hb.cell (p := ⟨b, _, none⟩) hr.1).trans q1, (hb.cell (p := ⟨b, _, none⟩) hr.1).trans q2⟩
end Lin
end Go.Proofs.YtpnomeggdhcbaaaGreatDoor
