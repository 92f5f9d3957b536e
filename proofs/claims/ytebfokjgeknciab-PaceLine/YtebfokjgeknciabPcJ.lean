import Derived.Test.YtebfokjgeknciabPcI
namespace Go.Proofs.Ytebfokjgeknciab
namespace Pcm
open Go.RowKit Laws Irw
set_option linter.unusedVariables false
set_option linter.unusedSimpArgs false
set_option maxRecDepth 20000

theorem max_r {x : Int} (h : R64 x) : R64 (max x 0) := by unfold R64 at *; omega
theorem max_nn (x : Int) : 0 ≤ max x 0 := by omega
theorem countedB (a : Int) (w : World) : Calls Try.prog 21 #[.int .i64 a] w fun e w' => e = .returned (.int .i64 (max a 0)) ∧ Below w.heap.size w w' := (counted_any a w).mono fun e w' ⟨he, hw⟩ => ⟨he, by rw [hw]; exact Below.refl _ _⟩
def Sx (W : World) (B b : Nat) (c : Cf) (x : Int) (V : World) : Prop := Lf V B c ∧ V.cell? ⟨b, 0, none⟩ = some (.int .i64 x) ∧ Below W.heap.size W V
theorem Sx.mk {W V : World} {B b : Nat} {c : Cf} {x : Int} (h : Lf W B c) (hz : B < W.heap.size) (hx : W.cell? ⟨b, 0, none⟩ = some (.int .i64 x)) (hb : Below W.heap.size W V) : Sx W B b c x V :=
  ⟨h.keep hz hb, (hb.cell (p := ⟨b, 0, none⟩) (World.block_lt_of_cell? W _ hx)).trans hx, hb⟩
theorem Sx.below {W V : World} {B b : Nat} {c : Cf} {x : Int} (h : Sx W B b c x V) : Below W.heap.size W V := h.2.2

end Pcm
end Go.Proofs.Ytebfokjgeknciab
