import Derived.Test.YtebfokjgeknciabGreatDoorOpC
import Derived.Test.YtebfokjgeknciabGreatDoorPq4
import Derived.Deep.Slices
namespace Go.Proofs.YtebfokjgeknciabGreatDoor
namespace Pcm
/-- a call of a script -/
structure OpP where
  kd : Int
  who : Int
  n : Int
instance : Inhabited OpP := ⟨⟨0, 0, 0⟩⟩
def OpPAt (w : World) (a : Addr) (p : OpP) : Prop := (w.cell? a = some (.int .i64 p.kd) ∧ w.cell? (a.add 1) = some (.int .i64 p.who) ∧ w.cell? (a.add 2) = some (.int .i64 p.n)) ∧ R64 p.who ∧ R64 p.n
def IsOpP (w : World) (a : Option Addr) (l : List OpP) : Prop := l ≠ [] → ∃ b off, a = some ⟨b, off, none⟩ ∧ b < w.heap.size ∧ ∀ (i : Nat) (x : OpP), l[i]? = some x → (w.cell? ⟨b, off + i * 3, none⟩ = some (.int .i64 x.kd) ∧ w.cell? ⟨b, off + i * 3 + 1, none⟩ = some (.int .i64 x.who) ∧ w.cell? ⟨b, off + i * 3 + 2, none⟩ = some (.int .i64 x.n)) ∧ R64 x.who ∧ R64 x.n
end Pcm
namespace Opn
open Go.ChangeShapes Go.WideShapes Go.ChangeAt Go.RowKit Go.Joins Go.Deep Pcm Irw
set_option linter.unusedVariables false
set_option maxRecDepth 100000
theorem cellsP : Tryz.prog.cellsOf 56 = 3 := by kernel_rfl
theorem list3 {α : Type} {l : List α} (h : l.length = 3) : ∃ c0 c1 c2, l = [c0, c1, c2] := by
  match l, h with
  | [c0, c1, c2], _ => exact ⟨c0, c1, c2, rfl⟩
section
variable {H : Type} {enc : TypeId × Value → H} {w : World} {base : Nat} {spare : Nat → Bool} {held : Bool} {r : Reach} {b0 : Nat}
theorem one_op {n : Nat} {a : Addr} {x : DataW H × List MemPlace} (h : ∃ cs', w.cells? base a 3 = some cs' ∧ DataW.trod enc Tryz.prog w base spare held n 56 cs' = some x) : ∃ p : OpP, OpPAt w a p := by
  obtain ⟨cs, h1, h2⟩ := h
  obtain ⟨_, hlen, hcell⟩ := World.cells?_some h1
  obtain ⟨c0, c1, c2, rfl⟩ := list3 hlen
  obtain ⟨xs, m, _, rfl, hl, hlen2, hf⟩ := DataW.trod_struct Tryz.underlying56 h2
  obtain ⟨y0, y1, y2, rfl⟩ := list3 (by simpa using hlen2)
  have e0 := hf 0 _ rfl
  have e1 := hf 1 _ rfl
  have e2 := hf 2 _ rfl
  have k3 : Tryz.prog.cellsOf 3 = 1 := by kernel_rfl
  simp [k3] at e0 e1 e2
  obtain ⟨kind, g0, _, _⟩ := DataW.trod_int Tryz.underlying3 e0
  obtain ⟨nn, g1, _, f1⟩ := DataW.trod_int Tryz.underlying3 e1
  obtain ⟨mm, g2, _, f2⟩ := DataW.trod_int Tryz.underlying3 e2
  simp at g0 g1 g2
  subst g0 g1 g2
  clear e0 e1 e2 h2
  refine ⟨⟨kind, nn, mm⟩, ⟨?_, ?_, ?_⟩, i64_wf f1, i64_wf f2⟩
  · simpa [Addr.add] using hcell 0 (by omega)
  · simpa using hcell 1 (by omega)
  · simpa using hcell 2 (by omega)

/-- A script opened. -/
theorem script {v : Value} {d : DataW H} {p : List MemPlace} (hv : Value.okWide Tryz.prog w r b0 22 v) (h : DataW.Trod enc Tryz.prog w base spare held 22 v d p) :
    ∃ (a : Option Addr) (cap : Nat) (ps : List OpP), v = .slice a ps.length cap ∧ IsOpP w a ps := by
  obtain ⟨a0, len, cap, rfl⟩ := okWide_slice Tryz.underlying22 hv
  obtain ⟨fuel, hf⟩ := h
  rcases open_slice Tryz.underlying22 hf with ⟨hcs, _⟩ | ⟨a, l, c, m, n, D, Pl, hcs, _, hl, hm, hmm, _, hx⟩
  · simp [Value.cells] at hcs
    obtain ⟨rfl, rfl, rfl⟩ := hcs
    exact ⟨none, 0, [], rfl, fun hne => absurd rfl hne⟩
  · simp [Value.cells] at hcs
    obtain ⟨rfl, rfl, rfl⟩ := hcs
    rw [cellsP] at hx
    have hlm : len ≤ m := by rw [hmm]; split <;> omega
    have hex : ∀ i, i < len → ∃ q : OpP, OpPAt w (a.add (i * 3)) q := fun i hi => one_op (hx i (by omega))
    obtain ⟨f, hfq⟩ : ∃ f : Nat → OpP, ∀ i, i < len → OpPAt w (a.add (i * 3)) (f i) := choose_lt hex
    refine ⟨some a, cap, (List.range len).map f, by simp, fun hne => ?_⟩
    have h0 : 0 < len := by
      rcases Nat.eq_zero_or_pos len with rfl | h0
      · simp at hne
      · exact h0
    obtain ⟨b, off, sp⟩ := a
    have hsp : sp = none := by
      have := World.cell?_spot (hfq 0 h0).1.1
      simpa [Addr.add] using this
    subst hsp
    refine ⟨b, off, rfl, ?_, fun i x hx' => ?_⟩
    · have := World.block_lt_of_cell? w _ (hfq 0 h0).1.1
      simpa [Addr.add] using this
    · have hi : i < len := by
        have := (List.getElem?_eq_some_iff.1 hx').1
        simpa using this
      have e : x = f i := by simpa [hi] using hx'.symm
      subst e
      obtain ⟨⟨q0, q1, q2⟩, q3, q4⟩ := hfq i hi
      have ad : ∀ t, (⟨b, off, none⟩ : Addr).add t = ⟨b, off + t, none⟩ := fun t => by unfold Addr.add; by_cases ht : t = 0 <;> simp [ht]
      rw [add_add] at q1 q2
      rw [ad] at q0 q1 q2
      exact ⟨⟨q0, q1, q2⟩, q3, q4⟩
end
end Opn
end Go.Proofs.YtebfokjgeknciabGreatDoor
