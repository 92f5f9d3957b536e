import Derived.Test.YtcioaoanhmpdkaaMk6
import Derived.Test.YtcioaoanhmpdkaaSk7
import Derived.BigQuiet
namespace Go.Proofs.Ytcioaoanhmpdkaa
namespace Sk
open Go.RowKit Laws Irw Erw KMath Skm Byt
/-- screelaw6's ahead -/
def ahB (a b : En) : Bool := decide (cmpE a.1 b.1 a.2.1 b.2.1 < 0)
def atE (k : ByteArray) (s : Int) : En := (k, s, false, ⟨#[]⟩)
end Sk
end Go.Proofs.Ytcioaoanhmpdkaa
namespace Go.Proofs.Ytcioaoanhmpdkaa
namespace Sk
open Go.RowKit Laws Irw Erw KMath Skm Byt
set_option linter.unusedVariables false

/-- a world in which nothing from before has turned -/
structure Und (w : World) where
  W : World
  ok : Below w.heap.size w W
theorem Und.non (w : World) : Nonempty (Und w) := ⟨⟨w, Below.refl _ _⟩⟩
/-- a region that draws its order, whose operations read what was there before and whose calls turn nothing of it: one walk in the order of the text -/
theorem wp_region_und {P : Program} {id : Nat} {Q : Exit → Act → World → Prop} {a : Act} {w : World} {l : List Oper} (hm : P.follows .mixedOrders = true) (hB : Region.lexB .any l.toArray = true)
    (h : wpQuiet P l.toArray (fun w' => ∃ V : Und w, w' = V.W) (fun a' => ∀ w', Below w.heap.size w w' → Q .normal a' w') l a) : (Code.region id l.toArray true).wp P Q a w := by
  have e : (fun a' => ∀ w', Below w.heap.size w w' → Q .normal a' w') = (fun a' => ∀ w', (∃ V : Und w, w' = V.W) → Q .normal a' w') := by
    funext a'
    exact propext ⟨fun k w' ⟨V, e⟩ => k w' (e ▸ V.ok), fun k w' hb => k w' ⟨⟨w', hb⟩, rfl⟩⟩
  rw [e] at h
  exact wp_region_quiet (C := fun w' => ∃ V : Und w, w' = V.W) hm hB ⟨⟨w.drew, (Below.refl _ _).drew⟩, rfl⟩ (by simpa using h)
theorem Und.cell {w : World} {p : Addr} {v : Value} (h : w.cell? p = some v) (V : Und w) : V.W.cell? p = some v := (V.ok.cell (World.block_lt_of_cell? w _ h)).trans h
theorem Und.call {P : Program} {f : Nat} {args : Array Value} {w : World} {V : Und w} {v : Value} (h : Calls P f args V.W fun e w' => e = .returned v ∧ Below V.W.heap.size V.W w') : Calls P f args V.W fun e w'' => e = .returned v ∧ ∃ V' : Und w, w'' = V'.W :=
  h.mono fun _ w' ⟨he, hb⟩ => ⟨he, ⟨w', keepB hb V.ok⟩, rfl⟩
end Sk
end Go.Proofs.Ytcioaoanhmpdkaa
