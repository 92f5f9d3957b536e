import Derived.Test.YtjfhhjkggjflfaaDoorRomH
namespace Go.Proofs.YtjfhhjkggjflfaaDoor
namespace Rl
open Go.RowKit CMath Byt Cod Laws Rom
set_option linter.unusedVariables false

/-- The state of a law: the room R lent the list l, which lies at g. -/
structure Sl (w W : World) (R g c : Nat) (v0 v1 : Value) (l : List Nat) : Prop where
  bel : Below w.heap.size w W
  rm : Rm W R w.heap.size v0 v1 [(g, l.length, c)]
  row : BRow W g 0 l
  byte : ∀ x ∈ l, x < 256
theorem Sl.below {w W W' : World} {R g c : Nat} {v0 v1 : Value} {l : List Nat} (h : Sl w W R g c v0 v1 l) (hb : Below W.heap.size W W') : Sl w W' R g c v0 v1 l :=
  ⟨h.bel.trans (hb.mono h.bel.size), h.rm.below hb, h.row.below hb h.row.1, h.byte⟩
theorem Sl.isB {w W : World} {R g c : Nat} {v0 v1 : Value} {l : List Nat} (h : Sl w W R g c v0 v1 l) : IsB W (some ⟨g, 0, none⟩) l := IsB.some h.row h.byte
theorem Sl.first {w w2 : World} {g c : Nat} {v0 v1 : Value} {l : List Nat} (hrm : Rm w2 w.heap.size w.heap.size v0 v1 ([] ++ [(g, l.length, c)])) (hrow : BRow w2 g 0 l) (hl : ∀ x ∈ l, x < 256)
    (hk : Keep (w.heap.size :: ((Value.slice none 0 0).ownBlock.toList ++ (Value.slice none 0 0).ownBlock.toList)) (w.alloc roomZ) w2) : Sl w w2 w.heap.size g c v0 v1 l := by
  refine ⟨?_, hrm, hrow, hl⟩
  have hb : Below w.heap.size w (w.alloc roomZ) := (Below.refl _ _).alloc (Nat.le_refl _) _
  refine hb.trans ⟨hk.os, hk.tape, hk.output, hk.size, fun i hi => hk.block i (by simp; omega) ?_⟩
  simp [Value.ownBlock]
  omega

end Rl
end Go.Proofs.YtjfhhjkggjflfaaDoor
