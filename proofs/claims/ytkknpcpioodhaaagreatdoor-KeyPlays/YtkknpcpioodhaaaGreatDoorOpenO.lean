import Derived.Test.YtkknpcpioodhaaaGreatDoorProg
import Derived.Test.YtkknpcpioodhaaaGreatDoorOpen
import Derived.Test.YtkknpcpioodhaaaGreatDoorOpenW
import Derived.Test.YtkknpcpioodhaaaGreatDoorBookS
import Derived.Deep.Slices
import Derived.Deep.Strs
import Derived.Lib.SmallJoins
namespace Go.Proofs.YtkknpcpioodhaaaGreatDoor
namespace Opn
open Go.ChangeShapes Go.WideShapes Go.ChangeAt Go.RowKit Go.Joins Go.Deep Ent Chk Book
set_option linter.unusedVariables false
set_option maxRecDepth 100000

theorem list12 {α : Type} {l : List α} (h : l.length = 12) : ∃ c0 c1 c2 c3 c4 c5 c6 c7 c8 c9 c10 c11, l = [c0, c1, c2, c3, c4, c5, c6, c7, c8, c9, c10, c11] := by
  match l, h with
  | [c0, c1, c2, c3, c4, c5, c6, c7, c8, c9, c10, c11], _ => exact ⟨c0, c1, c2, c3, c4, c5, c6, c7, c8, c9, c10, c11, rfl⟩
theorem list4 {α : Type} {l : List α} (h : l.length = 4) : ∃ c0 c1 c2 c3, l = [c0, c1, c2, c3] := by
  match l, h with
  | [c0, c1, c2, c3], _ => exact ⟨c0, c1, c2, c3, rfl⟩
theorem list6 {α : Type} {l : List α} (h : l.length = 6) : ∃ c0 c1 c2 c3 c4 c5, l = [c0, c1, c2, c3, c4, c5] := by
  match l, h with
  | [c0, c1, c2, c3, c4, c5], _ => exact ⟨c0, c1, c2, c3, c4, c5, rfl⟩
theorem cellsO : Tryz.prog.cellsOf 51 = 12 := by kernel_rfl

instance : Inhabited OpD := ⟨⟨0, ⟨#[]⟩, ⟨#[]⟩, 0, false, ⟨#[]⟩, ⟨#[]⟩, 0, false, ⟨#[]⟩, 0, none, 0, []⟩⟩

section
variable {P : Program} {H : Type} {enc : TypeId × Value → H} {w : World} {base : Nat} {spare : Nat → Bool} {held : Bool}
theorem trod_struct6 {t : TypeId} {f0 f1 f2 f3 f4 f5 : Field} {fuel : Nat} {cs : List Value} {x : DataW H × List MemPlace} (ht : P.underlying t = some (.struct #[f0, f1, f2, f3, f4, f5])) (h : DataW.trod enc P w base spare held fuel t cs = some x) :
    ∃ y0 y1 y2 y3 y4 y5 n, cs.length = P.cellsOf t ∧ DataW.trod enc P w base spare held n f0.type ((cs.drop f0.offset).take (P.cellsOf f0.type)) = some y0 ∧
      DataW.trod enc P w base spare held n f1.type ((cs.drop f1.offset).take (P.cellsOf f1.type)) = some y1 ∧ DataW.trod enc P w base spare held n f2.type ((cs.drop f2.offset).take (P.cellsOf f2.type)) = some y2 ∧
      DataW.trod enc P w base spare held n f3.type ((cs.drop f3.offset).take (P.cellsOf f3.type)) = some y3 ∧ DataW.trod enc P w base spare held n f4.type ((cs.drop f4.offset).take (P.cellsOf f4.type)) = some y4 ∧ DataW.trod enc P w base spare held n f5.type ((cs.drop f5.offset).take (P.cellsOf f5.type)) = some y5 := by
  obtain ⟨xs, n, _, rfl, hl, hlen, hf⟩ := DataW.trod_struct ht h
  obtain ⟨y0, y1, y2, y3, y4, y5, rfl⟩ := list6 (by simpa using hlen)
  exact ⟨y0, y1, y2, y3, y4, y5, n, hl, by simpa using hf 0 f0 rfl, by simpa using hf 1 f1 rfl, by simpa using hf 2 f2 rfl, by simpa using hf 3 f3 rfl, by simpa using hf 4 f4 rfl, by simpa using hf 5 f5 rfl⟩
end

section
variable {H : Type} {enc : TypeId × Value → H} {w : World} {base : Nat} {spare : Nat → Bool} {held : Bool} {r : Reach} {b0 : Nat}

theorem writes_cells {n : Nat} {cs : List Value} {y : DataW H × List MemPlace} (hf : DataW.trod enc Tryz.prog w base spare held n 46 cs = some y) :
    ∃ (a : Option Addr) (cap : Nat) (ws : List Wr), cs = [.slice a ws.length cap] ∧ IsWr w a ws ∧ (a = none → cap = 0) := by
  rcases open_slice Tryz.underlying46 hf with ⟨hcs, _⟩ | ⟨a, len, cap, m, n, D, Pl, hcs, _, hl, hm, hmm, _, hx⟩
  · exact ⟨none, 0, [], hcs, ⟨fun hne => absurd rfl hne, by simp, by simp⟩, fun _ => rfl⟩
  · rw [Opn.cellsW] at hx
    have hlm : len ≤ m := by rw [hmm]; split <;> omega
    obtain ⟨f, hfq⟩ := choose_lt (α := Wr) (n := len) (p := fun i q => (w.cell? (a.add (i * 3)) = some (.string q.1) ∧ w.cell? ((a.add (i * 3)).add 1) = some (.bool q.2.1) ∧ w.cell? ((a.add (i * 3)).add 2) = some (.string q.2.2)) ∧ q.1.size ≤ maxLen ∧ q.2.2.size ≤ maxLen)
      (fun i hi => one_write (hx i (by omega)))
    refine ⟨some a, cap, (List.range len).map f, by simpa using hcs, ⟨fun hne => ?_, by simp; omega, fun x hx' => ?_⟩, fun e => (by cases e)⟩
    · have h0 : 0 < len := by
        rcases Nat.eq_zero_or_pos len with rfl | h0
        · simp at hne
        · exact h0
      obtain ⟨b, off, sp⟩ := a
      have hsp : sp = none := by
        have := World.cell?_spot (hfq 0 h0).1.1
        simpa [Addr.add] using this
      subst hsp
      refine ⟨b, off, rfl, ?_, fun i x hx' => ?_⟩
      · have := World.block_lt_of_cell? w _ (hfq 0 h0).1.1
        simpa [Addr.add] using this
      · have hi : i < len := by
          have := (List.getElem?_eq_some_iff.1 hx').1
          simpa using this
        have e : x = f i := by simpa [hi] using hx'.symm
        subst e
        obtain ⟨⟨q0, q1, q2⟩, _⟩ := hfq i hi
        have ad : ∀ t, (⟨b, off, none⟩ : Addr).add t = ⟨b, off + t, none⟩ := fun t => by unfold Addr.add; by_cases ht : t = 0 <;> simp [ht]
        rw [add_add] at q1 q2
        rw [ad] at q0 q1 q2
        exact ⟨q0, q1, q2⟩
    · obtain ⟨i, hi, rfl⟩ := List.mem_map.1 hx'
      exact (hfq i (by simpa using hi)).2

theorem entry_cells {n : Nat} {cs : List Value} {y : DataW H × List MemPlace} (h : DataW.trod enc Tryz.prog w base spare held n 49 cs = some y) :
    ∃ (k : ByteArray) (s : Int) (de : Bool) (va : ByteArray), cs = [.string k, .int .u64 s, .bool de, .string va] ∧ k.size ≤ maxLen := by
  obtain ⟨y0, y1, y2, y3, m, _, hl, e0, e1, e2, e3⟩ := trod_struct4 Tryz.underlying49 h
  rw [Opn.cellsE] at hl
  obtain ⟨c0, c1, c2, c3, rfl⟩ := list4 hl
  have k9 : Tryz.prog.cellsOf 9 = 1 := by kernel_rfl
  have k4 : Tryz.prog.cellsOf 4 = 1 := by kernel_rfl
  have k47 : Tryz.prog.cellsOf 47 = 1 := by kernel_rfl
  simp only [k9, k4, k47] at e0 e1 e2 e3
  obtain ⟨k, h0, _, hk⟩ := DataW.trod_string Tryz.underlying9 e0
  obtain ⟨s, h1, _, hs⟩ := DataW.trod_int Tryz.underlying47 e1
  obtain ⟨de, h2, _⟩ := DataW.trod_bool Tryz.underlying4 e2
  obtain ⟨va, h3, _, hva⟩ := DataW.trod_string Tryz.underlying9 e3
  simp at h0 h1 h2 h3
  subst h0 h1 h2 h3
  exact ⟨k, s, de, va, rfl, hk⟩

/-- The cells of one call, from an address on. -/
def OpAt (w : World) (a : Addr) (p : OpD) : Prop :=
  w.cell? a = some (.int .i64 p.kind) ∧ w.cell? (a.add 1) = some (.string p.key) ∧ w.cell? (a.add 2) = some (.string p.k1) ∧ w.cell? (a.add 3) = some (.int .u64 p.s1) ∧ w.cell? (a.add 4) = some (.bool p.d1) ∧ w.cell? (a.add 5) = some (.string p.v1) ∧ w.cell? (a.add 6) = some (.string p.k2) ∧ w.cell? (a.add 7) = some (.int .u64 p.s2) ∧ w.cell? (a.add 8) = some (.bool p.d2) ∧ w.cell? (a.add 9) = some (.string p.v2) ∧ w.cell? (a.add 10) = some (.int .u64 p.first) ∧ w.cell? (a.add 11) = some (.slice p.aL p.ws.length p.cL)

theorem one_op {n : Nat} {a : Addr} {x : DataW H × List MemPlace} (h : ∃ cs', w.cells? base a 12 = some cs' ∧ DataW.trod enc Tryz.prog w base spare held n 51 cs' = some x) :
    ∃ p : OpD, OpAt w a p ∧ IsOp w p := by
  obtain ⟨cs, h1, h2⟩ := h
  obtain ⟨_, hlen, hcell⟩ := World.cells?_some h1
  obtain ⟨c0, c1, c2, c3, c4, c5, c6, c7, c8, c9, c10, c11, rfl⟩ := list12 hlen
  obtain ⟨y0, y1, y2, y3, y4, y5, m, _, e0, e1, e2, e3, e4, e5⟩ := trod_struct6 Tryz.underlying51 h2
  have k3 : Tryz.prog.cellsOf 3 = 1 := by kernel_rfl
  have k9 : Tryz.prog.cellsOf 9 = 1 := by kernel_rfl
  have k47 : Tryz.prog.cellsOf 47 = 1 := by kernel_rfl
  have k46 : Tryz.prog.cellsOf 46 = 1 := by kernel_rfl
  simp only [k3, k9, k47, k46, Opn.cellsE] at e0 e1 e2 e3 e4 e5
  obtain ⟨kind, g0, _⟩ := DataW.trod_int Tryz.underlying3 e0
  obtain ⟨key, g1, _, hk⟩ := DataW.trod_string Tryz.underlying9 e1
  obtain ⟨k1, s1, d1, v1, g2, hk1⟩ := entry_cells e2
  obtain ⟨k2, s2, d2, v2, g3, hk2⟩ := entry_cells e3
  obtain ⟨first, g4, _⟩ := DataW.trod_int Tryz.underlying47 e4
  obtain ⟨aL, cL, ws, g5, hw, hn⟩ := writes_cells e5
  simp at g0 g1 g2 g3 g4 g5
  obtain ⟨rfl, rfl, rfl, rfl⟩ := g2
  obtain ⟨rfl, rfl, rfl, rfl⟩ := g3
  subst g0 g1 g4 g5
  clear e0 e1 e2 e3 e4 e5 h2
  refine ⟨⟨kind, key, k1, s1, d1, v1, k2, s2, d2, v2, first, aL, cL, ws⟩, ⟨?_, ?_, ?_, ?_, ?_, ?_, ?_, ?_, ?_, ?_, ?_, ?_⟩, hw, hn, hk, hk1, hk2⟩
  · simpa [Addr.add] using hcell 0 (by omega)
  · simpa using hcell 1 (by omega)
  · simpa using hcell 2 (by omega)
  · simpa using hcell 3 (by omega)
  · simpa using hcell 4 (by omega)
  · simpa using hcell 5 (by omega)
  · simpa using hcell 6 (by omega)
  · simpa using hcell 7 (by omega)
  · simpa using hcell 8 (by omega)
  · simpa using hcell 9 (by omega)
  · simpa using hcell 10 (by omega)
  · simpa using hcell 11 (by omega)

/-- A script opened. -/
theorem script {v : Value} {d : DataW H} {p : List MemPlace} (hv : Value.okWide Tryz.prog w r b0 22 v) (h : DataW.Trod enc Tryz.prog w base spare held 22 v d p) :
    ∃ (a : Option Addr) (cap : Nat) (ps : List OpD), v = .slice a ps.length cap ∧ IsOps w a ps := by
  obtain ⟨a0, len, cap, rfl⟩ := okWide_slice Tryz.underlying22 hv
  obtain ⟨fuel, hf⟩ := h
  rcases open_slice Tryz.underlying22 hf with ⟨hcs, _⟩ | ⟨a, l, c, m, n, D, Pl, hcs, _, hl, hm, hmm, _, hx⟩
  · simp [Value.cells] at hcs
    obtain ⟨rfl, rfl, rfl⟩ := hcs
    exact ⟨none, 0, [], rfl, ⟨fun hne => absurd rfl hne, by simp⟩⟩
  · simp [Value.cells] at hcs
    obtain ⟨rfl, rfl, rfl⟩ := hcs
    rw [cellsO] at hx
    have hlm : len ≤ m := by rw [hmm]; split <;> omega
    have hex : ∀ i, i < len → ∃ q : OpD, OpAt w (a.add (i * 12)) q ∧ IsOp w q := fun i hi => one_op (hx i (by omega))
    obtain ⟨f, hfq⟩ : ∃ f : Nat → OpD, ∀ i, i < len → OpAt w (a.add (i * 12)) (f i) ∧ IsOp w (f i) := choose_lt hex
    refine ⟨some a, cap, (List.range len).map f, by simp, ⟨fun hne => ?_, by simp; omega⟩⟩
    have h0 : 0 < len := by
      rcases Nat.eq_zero_or_pos len with rfl | h0
      · simp at hne
      · exact h0
    obtain ⟨b, off, sp⟩ := a
    have hsp : sp = none := by
      have := World.cell?_spot (hfq 0 h0).1.1
      simpa [Addr.add] using this
    subst hsp
    refine ⟨b, off, rfl, ?_, fun i x hx' => ?_⟩
    · have := World.block_lt_of_cell? w _ (hfq 0 h0).1.1
      simpa [Addr.add] using this
    · have hi : i < len := by
        have := (List.getElem?_eq_some_iff.1 hx').1
        simpa using this
      have e : x = f i := by simpa [hi] using hx'.symm
      subst e
      obtain ⟨⟨q0, q1, q2, q3, q4, q5, q6, q7, q8, q9, q10, q11⟩, hop⟩ := hfq i hi
      have ad : ∀ t, (⟨b, off, none⟩ : Addr).add t = ⟨b, off + t, none⟩ := fun t => by unfold Addr.add; by_cases ht : t = 0 <;> simp [ht]
      rw [add_add] at q1 q2 q3 q4 q5 q6 q7 q8 q9 q10 q11
      rw [ad] at q0 q1 q2 q3 q4 q5 q6 q7 q8 q9 q10 q11
      exact ⟨⟨q0, q1, q2, q3, q4, q5, q6, q7, q8, q9, q10, q11⟩, hop⟩
end
end Opn
end Go.Proofs.YtkknpcpioodhaaaGreatDoor
