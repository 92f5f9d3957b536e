import Derived.Test.YtdflepndhemfgaaGreatDoorSk2
namespace Go.Proofs.YtdflepndhemfgaaGreatDoor
namespace Sk
open Go.RowKit Go.Shelf Laws Irw Erw KMath Skm
set_option linter.unusedVariables false
set_option maxRecDepth 100000
attribute [local go_sem] Oper.semAt_some

def lp (L i : Nat) (p : List Nd) : Value := .pointer (some ⟨lst L i p, 0, none⟩)
def lastV (L : Nat) (p : List Nd) : Value := .agg #[lp L 0 p, lp L 1 p, lp L 2 p, lp L 3 p, lp L 4 p, lp L 5 p, lp L 6 p, lp L 7 p, lp L 8 p, lp L 9 p, lp L 10 p, lp L 11 p]
def mark (D : Nat) : Deferred := { target := .collected D, args := #[] }
def lastB (s : Nat) (l : List Nd) : Nat := l.foldl (fun _ n => n.b) s

/-- What stands while 'ahead' goes down. -/
structure Fr (w0 : World) (L : Nat) (pre : List Nd) (e : En) (j : Nat) (Ds : List Nat) (at_ : Nat) (W : World) : Prop where
  below : Below w0.heap.size w0 W
  box : entAt W w0.heap.size e
  res : ∀ i, i < 12 → W.cell? ⟨w0.heap.size + 1, i, none⟩ = some (.pointer none) ∧ W.frozen? ⟨w0.heap.size + 1, i, none⟩ = false
  arr : ∀ i, i < 12 → W.cell? ⟨w0.heap.size + 2, i, none⟩ = some (if j ≤ i then lp L i pre else .pointer none) ∧ W.frozen? ⟨w0.heap.size + 2, i, none⟩ = false
  pos : W.cell? ⟨w0.heap.size + 3, 0, none⟩ = some (.pointer (some ⟨at_, 0, none⟩)) ∧ W.frozen? ⟨w0.heap.size + 3, 0, none⟩ = false
  marks : ∀ D ∈ Ds, w0.heap.size + 4 ≤ D ∧ W.heap[D]? = some (.deferred (some []))
theorem Fr.keep {w0 : World} {L : Nat} {pre : List Nd} {e : En} {j : Nat} {Ds : List Nat} {at_ : Nat} {W W' : World} (h : Fr w0 L pre e j Ds at_ W) (hb : Below w0.heap.size W W') (hc : ∀ b, w0.heap.size ≤ b → b < w0.heap.size + 4 → W'.heap[b]? = W.heap[b]?) (hm : ∀ D ∈ Ds, W'.heap[D]? = W.heap[D]?) : Fr w0 L pre e j Ds at_ W' := by
  refine ⟨h.below.trans hb, h.box.keep (hc _ (Nat.le_refl _) (by omega)), fun i hi => ?_, fun i hi => ?_, ?_, fun D hD => ⟨(h.marks D hD).1, (hm D hD).trans (h.marks D hD).2⟩⟩
  · have := hc (w0.heap.size + 1) (by omega) (by omega)
    exact ⟨(World.cell?_of_block (a := ⟨_, i, none⟩) this).trans (h.res i hi).1, (World.frozen?_of_block (a := ⟨_, i, none⟩) this).trans (h.res i hi).2⟩
  · have := hc (w0.heap.size + 2) (by omega) (by omega)
    exact ⟨(World.cell?_of_block (a := ⟨_, i, none⟩) this).trans (h.arr i hi).1, (World.frozen?_of_block (a := ⟨_, i, none⟩) this).trans (h.arr i hi).2⟩
  · have := hc (w0.heap.size + 3) (by omega) (by omega)
    exact ⟨(World.cell?_of_block (a := ⟨_, 0, none⟩) this).trans h.pos.1, (World.frozen?_of_block (a := ⟨_, 0, none⟩) this).trans h.pos.2⟩
theorem Fr.lt {w0 : World} {L : Nat} {pre : List Nd} {e : En} {j : Nat} {Ds : List Nat} {at_ : Nat} {W : World} (h : Fr w0 L pre e j Ds at_ W) : w0.heap.size + 3 < W.heap.size := World.block_lt_of_cell? W _ h.pos.1
theorem Fr.mlt {w0 : World} {L : Nat} {pre : List Nd} {e : En} {j : Nat} {Ds : List Nat} {at_ : Nat} {W : World} (h : Fr w0 L pre e j Ds at_ W) {D : Nat} (hD : D ∈ Ds) : D < W.heap.size := (Array.getElem?_eq_some_iff.1 (h.marks D hD).2).1
theorem Fr.under {w0 : World} {L : Nat} {pre : List Nd} {e : En} {j : Nat} {Ds : List Nat} {at_ : Nat} {W W' : World} (h : Fr w0 L pre e j Ds at_ W) (hb : Below W.heap.size W W') : Fr w0 L pre e j Ds at_ W' :=
  h.keep (hb.mono h.below.size) (fun b _ hb' => hb.block b (by have := h.lt; omega)) (fun D hD => hb.block D (h.mlt hD))
theorem Fr.own {w0 : World} {L : Nat} {pre : List Nd} {e : En} {j : Nat} {Ds : List Nat} {at_ : Nat} {A B : World} {Bd : Nat} {row : Option Nat} (h : Fr w0 L pre e j Ds at_ A) (hg : A.grownBy B row) (hr : ∀ r, row = some r → Bd ≤ r) (hB : w0.heap.size + 4 ≤ Bd) (hD : ∀ D ∈ Ds, D < Bd) : Fr w0 L pre e j Ds at_ B := by
  have hk : ∀ b, b < Bd → b < A.heap.size → B.heap[b]? = A.heap[b]? := fun b h1 h2 => hg.block b h2 (fun e => by have := hr b e.symm; omega)
  have hlt := h.lt
  exact h.keep ⟨hg.os, hg.tape, hg.output, hg.size, fun b hb => hk b (by omega) (by omega)⟩ (fun b _ hb => hk b (by omega) (by omega)) (fun D hm => hk D (hD D hm) (h.mlt hm))
/-- 'at' has turned -/
theorem Fr.setAt {w0 : World} {L : Nat} {pre : List Nd} {e : En} {j : Nat} {Ds : List Nat} {at_ : Nat} {W : World} (h : Fr w0 L pre e j Ds at_ W) (b : Nat) : Fr w0 L pre e j Ds b (W.setCell ⟨w0.heap.size + 3, 0, none⟩ (.pointer (some ⟨b, 0, none⟩))) := by
  have hk : ∀ q, q ≠ w0.heap.size + 3 → (W.setCell ⟨w0.heap.size + 3, 0, none⟩ (.pointer (some ⟨b, 0, none⟩))).heap[q]? = W.heap[q]? := fun q hq => Below.heap_setCell W _ _ q hq
  refine ⟨h.below.setCell (p := ⟨w0.heap.size + 3, 0, none⟩) (by simp) _, h.box.keep (hk _ (by omega)), fun i hi => ?_, fun i hi => ?_, ⟨World.cell?_setCell_same _ _ _ h.pos.1, by rw [World.frozen?_setCell]; exact h.pos.2⟩, fun D hD => ⟨(h.marks D hD).1, (hk D (by have := (h.marks D hD).1; omega)).trans (h.marks D hD).2⟩⟩
  · have := hk (w0.heap.size + 1) (by omega)
    exact ⟨(World.cell?_of_block (a := ⟨_, i, none⟩) this).trans (h.res i hi).1, (World.frozen?_of_block (a := ⟨_, i, none⟩) this).trans (h.res i hi).2⟩
  · have := hk (w0.heap.size + 2) (by omega)
    exact ⟨(World.cell?_of_block (a := ⟨_, i, none⟩) this).trans (h.arr i hi).1, (World.frozen?_of_block (a := ⟨_, i, none⟩) this).trans (h.arr i hi).2⟩
/-- 'last[i] = at' -/
theorem Fr.setArr {w0 : World} {L : Nat} {pre : List Nd} {e : En} {j : Nat} {Ds : List Nat} {W : World} (h : Fr w0 L pre e (j + 1) Ds (lst L j pre) W) (hj : j < 12) : Fr w0 L pre e j Ds (lst L j pre) (W.setCell ⟨w0.heap.size + 2, j, none⟩ (.pointer (some ⟨lst L j pre, 0, none⟩))) := by
  have hk : ∀ q, q ≠ w0.heap.size + 2 → (W.setCell ⟨w0.heap.size + 2, j, none⟩ (.pointer (some ⟨lst L j pre, 0, none⟩))).heap[q]? = W.heap[q]? := fun q hq => Below.heap_setCell W _ _ q hq
  refine ⟨h.below.setCell (p := ⟨w0.heap.size + 2, j, none⟩) (by simp) _, h.box.keep (hk _ (by omega)), fun i hi => ?_, fun i hi => ?_, ?_, fun D hD => ⟨(h.marks D hD).1, (hk D (by have := (h.marks D hD).1; omega)).trans (h.marks D hD).2⟩⟩
  · have := hk (w0.heap.size + 1) (by omega)
    exact ⟨(World.cell?_of_block (a := ⟨_, i, none⟩) this).trans (h.res i hi).1, (World.frozen?_of_block (a := ⟨_, i, none⟩) this).trans (h.res i hi).2⟩
  · refine ⟨?_, by rw [World.frozen?_setCell]; exact (h.arr i hi).2⟩
    by_cases hij : i = j
    · subst hij
      rw [if_pos (Nat.le_refl _)]
      exact World.cell?_setCell_same _ _ _ (h.arr i hi).1
    · rw [World.cell?_setCell_other W ⟨w0.heap.size + 2, j, none⟩ ⟨w0.heap.size + 2, i, none⟩ _ (fun e => hij (by simpa using e.symm)), (h.arr i hi).1]
      by_cases h1 : j + 1 ≤ i
      · rw [if_pos h1, if_pos (by omega)]
      · rw [if_neg h1, if_neg (by omega)]
  · have := hk (w0.heap.size + 3) (by omega)
    exact ⟨(World.cell?_of_block (a := ⟨_, 0, none⟩) this).trans h.pos.1, (World.frozen?_of_block (a := ⟨_, 0, none⟩) this).trans h.pos.2⟩
theorem Fr.more {w0 : World} {L : Nat} {pre : List Nd} {e : En} {j : Nat} {Ds : List Nat} {at_ : Nat} {W : World} (h : Fr w0 L pre e j Ds at_ W) {D : Nat} (h1 : w0.heap.size + 4 ≤ D) (h2 : W.heap[D]? = some (.deferred (some []))) : Fr w0 L pre e j (D :: Ds) at_ W :=
  ⟨h.below, h.box, h.res, h.arr, h.pos, fun E hE => by
    rcases List.mem_cons.1 hE with rfl | hE
    · exact ⟨h1, h2⟩
    · exact h.marks E hE⟩
end Sk
end Go.Proofs.YtdflepndhemfgaaGreatDoor
