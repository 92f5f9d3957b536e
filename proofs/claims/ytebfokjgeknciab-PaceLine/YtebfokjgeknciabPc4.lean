import Derived.Test.YtebfokjgeknciabPc3
import Derived.Deep.Cut
import Derived.Deep.DeepCutAuto
import Derived.Deep.RegionLaw
import Derived.Deep.RegionWith
namespace Go.Proofs.Ytebfokjgeknciab
namespace Pcm
open Go.RowKit Laws Irw
set_option linter.unusedVariables false
set_option linter.unusedSimpArgs false
set_option maxRecDepth 20000

/-- the figures lie there -/
def Fg (W : World) (B : Nat) (c : Cf) : Prop := W.cell? ⟨B, 0, none⟩ = some (.int .i64 (c 0)) ∧ W.cell? ⟨B, 1, none⟩ = some (.int .i64 (c 2)) ∧ W.cell? ⟨B, 2, none⟩ = some (.int .i64 (c 3)) ∧ W.cell? ⟨B, 3, none⟩ = some (.int .i64 (c 4)) ∧ W.cell? ⟨B, 4, none⟩ = some (.int .i64 (c 8)) ∧ W.cell? ⟨B, 5, none⟩ = some (.int .i64 (c 9)) ∧ W.cell? ⟨B, 6, none⟩ = some (.int .i64 (c 10)) ∧ W.cell? ⟨B, 7, none⟩ = some (.int .i64 (c 11)) ∧ W.cell? ⟨B, 8, none⟩ = some (.int .i64 (c 12)) ∧ W.cell? ⟨B, 9, none⟩ = some (.int .i64 (c 16)) ∧ W.cell? ⟨B, 10, none⟩ = some (.int .i64 (c 17)) ∧ W.cell? ⟨B, 11, none⟩ = some (.int .i64 (c 19)) ∧ W.cell? ⟨B, 12, none⟩ = some (.int .i64 (c 21)) ∧ W.cell? ⟨B, 13, none⟩ = some (.int .i64 (c 22)) ∧ W.cell? ⟨B, 14, none⟩ = some (.int .i64 (c 23)) ∧ W.cell? ⟨B, 15, none⟩ = some (.int .i64 (c 26))
theorem Fg.keep {W W' : World} {B : Nat} {c : Cf} (h : Fg W B c) (hz : B < W.heap.size) (hb : Below W.heap.size W W') : Fg W' B c := by
  have e : ∀ k, W'.cell? ⟨B, k, none⟩ = W.cell? ⟨B, k, none⟩ := fun k => hb.cell (p := ⟨B, k, none⟩) hz
  unfold Fg at *
  simp only [e]
  exact h
theorem fg_new (w : World) (c : Cf) (T : TypeId) : Fg (w.alloc (.cells #[.int .i64 (c 0), .int .i64 (c 2), .int .i64 (c 3), .int .i64 (c 4), .int .i64 (c 8), .int .i64 (c 9), .int .i64 (c 10), .int .i64 (c 11), .int .i64 (c 12), .int .i64 (c 16), .int .i64 (c 17), .int .i64 (c 19), .int .i64 (c 21), .int .i64 (c 22), .int .i64 (c 23), .int .i64 (c 26)] T)) w.heap.size c := by
  unfold Fg
  refine ⟨?_, ?_, ?_, ?_, ?_, ?_, ?_, ?_, ?_, ?_, ?_, ?_, ?_, ?_, ?_, ?_⟩ <;> (rw [World.cell?_alloc_at _ _ _ _ rfl]; rfl)
/-- they lie there in every world of a region that turns nothing from before -/
def Sg (W : World) (B : Nat) (c : Cf) (V : World) : Prop := V.cell? ⟨B, 0, none⟩ = some (.int .i64 (c 0)) ∧ V.cell? ⟨B, 1, none⟩ = some (.int .i64 (c 2)) ∧ V.cell? ⟨B, 2, none⟩ = some (.int .i64 (c 3)) ∧ V.cell? ⟨B, 3, none⟩ = some (.int .i64 (c 4)) ∧ V.cell? ⟨B, 4, none⟩ = some (.int .i64 (c 8)) ∧ V.cell? ⟨B, 5, none⟩ = some (.int .i64 (c 9)) ∧ V.cell? ⟨B, 6, none⟩ = some (.int .i64 (c 10)) ∧ V.cell? ⟨B, 7, none⟩ = some (.int .i64 (c 11)) ∧ V.cell? ⟨B, 8, none⟩ = some (.int .i64 (c 12)) ∧ V.cell? ⟨B, 9, none⟩ = some (.int .i64 (c 16)) ∧ V.cell? ⟨B, 10, none⟩ = some (.int .i64 (c 17)) ∧ V.cell? ⟨B, 11, none⟩ = some (.int .i64 (c 19)) ∧ V.cell? ⟨B, 12, none⟩ = some (.int .i64 (c 21)) ∧ V.cell? ⟨B, 13, none⟩ = some (.int .i64 (c 22)) ∧ V.cell? ⟨B, 14, none⟩ = some (.int .i64 (c 23)) ∧ V.cell? ⟨B, 15, none⟩ = some (.int .i64 (c 26)) ∧ Below W.heap.size W V
theorem Sg.mk {W V : World} {B : Nat} {c : Cf} (h : Fg W B c) (hz : B < W.heap.size) (hb : Below W.heap.size W V) : Sg W B c V := by
  obtain ⟨h0, h1, h2, h3, h4, h5, h6, h7, h8, h9, h10, h11, h12, h13, h14, h15⟩ := h.keep hz hb
  exact ⟨h0, h1, h2, h3, h4, h5, h6, h7, h8, h9, h10, h11, h12, h13, h14, h15, hb⟩
theorem Sg.below {W V : World} {B : Nat} {c : Cf} (h : Sg W B c V) : Below W.heap.size W V := by
  obtain ⟨h0, h1, h2, h3, h4, h5, h6, h7, h8, h9, h10, h11, h12, h13, h14, h15, hb⟩ := h
  exact hb
theorem Sg.start {W : World} {B : Nat} {c : Cf} (h : Fg W B c) (hz : B < W.heap.size) : Sg W B c W.drew := Sg.mk h hz (Below.refl _ _).drew
theorem Sg.call {W V V' : World} {B : Nat} {c : Cf} (h0 : Fg W B c) (hz : B < W.heap.size) (hb : Below V.heap.size V V') (h : Sg W B c V) : Sg W B c V' := Sg.mk h0 hz (h.below.trans (hb.mono h.below.size))
theorem Sg.alloc {W V : World} {B : Nat} {c : Cf} {x : Obj} (h0 : Fg W B c) (hz : B < W.heap.size) (h : Sg W B c V) : Sg W B c (V.alloc x) := Sg.mk h0 hz (h.below.alloc h.below.size _)
/-- numbers that were laid into a new list -/
theorem row_new (w : World) (l : List Int) (T : TypeId) (vs : Array Value) (h : vs.toList = cellsI l) : IRow (w.alloc (.cells vs T)) w.heap.size 0 l := by
  refine ⟨by simp, fun i x hx => ?_⟩
  rw [World.cell?_alloc_at _ _ _ _ rfl, Nat.zero_add, ← Array.getElem?_toList, h]
  exact cellsI_get hx

end Pcm
end Go.Proofs.Ytebfokjgeknciab
