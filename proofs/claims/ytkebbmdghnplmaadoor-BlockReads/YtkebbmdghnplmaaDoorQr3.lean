import Derived.Test.YtkebbmdghnplmaaDoorQr2
import Derived.Test.YtkebbmdghnplmaaDoorQc3
import Derived.Test.YtkebbmdghnplmaaDoorQb3
namespace Go.Proofs.YtkebbmdghnplmaaDoor
namespace Qb
open Go.RowKit CMath Byt Laws Irw Crw Cod
set_option linter.unusedVariables false
set_option linter.unusedSimpArgs false
set_option maxRecDepth 20000

theorem infoI : (Tryd.prog.info? 3).map (fun i => (i.zero, i.size, i.bytes)) = some (some (.int .i64 0), 1, 8) := by kernel_rfl
theorem isI_new {w : World} {x : Int} {u : TypeId} : IsI (w.alloc (.cells #[.int .i64 x] u)) (some ⟨w.heap.size, 0, none⟩) [x] := by
  refine IsI.of ⟨by simp, fun i z hz => ?_⟩
  rw [World.cell?_alloc_at _ _ _ _ rfl]
  cases i with
  | zero => simp at hz; subst hz; rfl
  | succ i => simp at hz
/-- What the document's body lays: tag 1 the bytes, tag 2 the places; a box beside. -/
def uB : Nat → Prop := fun x => x = 1 ∨ x = 2
def ints (ps : List Nat) : List Int := ps.map fun (x : Nat) => (x : Int)
theorem ints_len (ps : List Nat) : (ints ps).length = ps.length := by simp [ints]
structure RS (w0 : World) (T : Nat → Nat) (w : World) (v6 v7 : Value) (o ps : List Nat) : Prop where
  own : OwnB 1 T w v6 o
  pl : OwnL 2 T w v7 (ints ps)
  go : Goes uB (fun _ => 0) w0 T w
  hi : Hi T w
structure RX (w0 : World) (T : Nat → Nat) (w : World) (v6 v7 : Value) (o ps : List Nat) (E : Nat) (arr : Array Value) : Prop where
  rs : RS w0 T w v6 v7 o ps
  lt : E < w.heap.size
  tag : T E = 0
  cell : ∀ j, w.cell? ⟨E, j, none⟩ = arr[j]?
theorem RS.below {w0 : World} {T : Nat → Nat} {w w' : World} {v6 v7 : Value} {o ps : List Nat} (h : RS w0 T w v6 v7 o ps) (hb : Below w.heap.size w w') : RS w0 T w' v6 v7 o ps :=
  ⟨h.own.below hb, h.pl.below hb, h.go.trans (Goes.below hb), h.hi.below hb.size⟩
theorem RX.below {w0 : World} {T : Nat → Nat} {w w' : World} {v6 v7 : Value} {o ps : List Nat} {E : Nat} {arr : Array Value} (h : RX w0 T w v6 v7 o ps E arr) (hb : Below w.heap.size w w') : RX w0 T w' v6 v7 o ps E arr :=
  ⟨h.rs.below hb, Nat.lt_of_lt_of_le h.lt hb.size, h.tag, fun j => (hb.cell (p := ⟨E, j, none⟩) h.lt).trans (h.cell j)⟩
theorem RX.app {w0 : World} {T T' : Nat → Nat} {w w' : World} {v6 v7 v' : Value} {o o' ps : List Nat} {E : Nat} {arr : Array Value} (h : RX w0 T w v6 v7 o ps E arr) (ho : OwnB 1 T' w' v' o') (hg : Goes (· = 1) T w T' w') : RX w0 T' w' v' v7 o' ps E arr :=
  ⟨⟨ho, h.rs.pl.goes hg (by omega), h.rs.go.trans (hg.mono fun x hx => .inl hx), h.rs.hi.goes hg⟩, Nat.lt_of_lt_of_le h.lt hg.size, (hg.tag E h.lt (by rw [h.tag]; omega)).trans h.tag, fun j => (hg.cell h.lt (by rw [h.tag]; omega)).trans (h.cell j)⟩
theorem RX.app2 {w0 : World} {T T' : Nat → Nat} {w w' : World} {v6 v7 v' : Value} {o ps ps' : List Nat} {E : Nat} {arr : Array Value} (h : RX w0 T w v6 v7 o ps E arr) (ho : OwnL 2 T' w' v' (ints ps')) (hg : Goes (· = 2) T w T' w') : RX w0 T' w' v6 v' o ps' E arr :=
  ⟨⟨h.rs.own.goes hg (by omega), ho, h.rs.go.trans (hg.mono fun x hx => .inr hx), h.rs.hi.goes hg⟩, Nat.lt_of_lt_of_le h.lt hg.size, (hg.tag E h.lt (by rw [h.tag]; omega)).trans h.tag, fun j => (hg.cell h.lt (by rw [h.tag]; omega)).trans (h.cell j)⟩
theorem RS.below0 {w0 : World} {T : Nat → Nat} {w : World} {v6 v7 : Value} {o ps : List Nat} (h : RS w0 T w v6 v7 o ps) : Below w0.heap.size w0 w :=
  ⟨h.go.os, h.go.tape, h.go.output, h.go.size, fun b hb => h.go.block b hb (by unfold uB; omega)⟩
theorem RS.box {w0 : World} {T : Nat → Nat} {w : World} {v6 v7 : Value} {o ps : List Nat} (h : RS w0 T w v6 v7 o ps) (arr : Array Value) (ty : TypeId) : RX w0 T (w.alloc (.cells arr ty)) v6 v7 o ps w.heap.size arr :=
  ⟨h.below ((Below.refl _ _).alloc (Nat.le_refl _) _), by simp, h.hi _ (Nat.le_refl _), fun j => by rw [World.cell?_alloc_at _ _ _ _ rfl]⟩
/-- The places of restart points, as numbers and as bytes. -/
def placeB (ps : List Nat) : List Nat := (ps.map four).flatten
theorem placeB_snoc (ps : List Nat) (x : Nat) : placeB (ps ++ [x]) = placeB ps ++ four x := by simp [placeB]
def BodyIs (w : World) (R : Nat) (l : List En) (e : Ending) (w' : World) : Prop :=
  ∃ a1 B c1 a2 P c2 T ps, e = .returned (.tuple #[.slice a1 B c1, .slice a2 P c2]) ∧ RS w T w' (.slice a1 B c1) (.slice a2 P c2) (pushes R st0 l).b ps ∧ placeB ps = (pushes R st0 l).p ∧ (∀ x ∈ ps, x ≤ (pushes R st0 l).b.length)
theorem pushes_lastK (R : Nat) (l : List En) : (pushes R st0 l).last = lastK l := by
  rcases List.eq_nil_or_concat l with rfl | ⟨l', e, rfl⟩
  · rfl
  · rw [List.concat_eq_append, pushes_snoc, lastK_snoc]; rfl
end Qb
end Go.Proofs.YtkebbmdghnplmaaDoor
