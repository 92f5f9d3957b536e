import Derived.Test.YtjnmklbhhlfhcaaGreatDoorProg
import Derived.Test.YtjnmklbhhlfhcaaGreatDoorEAp
import Derived.Test.YtjnmklbhhlfhcaaGreatDoorOpenB
import Derived.ProofKit
import Derived.OpenShut
import Derived.SizedLaws
import Derived.Deep.Slices
import Derived.Deep.Strs
import Derived.Lib.SmallJoins
namespace Go.Proofs.YtjnmklbhhlfhcaaGreatDoor
namespace Opn
open Go.ChangeShapes Go.WideShapes Go.ChangeAt Go.RowKit Go.Joins Go.Deep Irw Erw
set_option linter.unusedVariables false
set_option maxRecDepth 100000

theorem cellsEn : Tryz.prog.cellsOf 54 = 4 := by kernel_rfl
theorem undEn : Tryz.prog.underlying 49 = some (.slice 54) := by kernel_rfl
theorem list4 {α : Type} {l : List α} (h : l.length = 4) : ∃ c0 c1 c2 c3, l = [c0, c1, c2, c3] := by
  match l, h with
  | [c0, c1, c2, c3], _ => exact ⟨c0, c1, c2, c3, rfl⟩

section
variable {H : Type} {enc : TypeId × Value → H} {w : World} {base : Nat} {spare : Nat → Bool} {held : Bool} {r : Reach} {b0 : Nat}

theorem u64_in {x : Int} (h : (Lit.int .u64 x).wf = true) : 0 ≤ x ∧ x ≤ 18446744073709551615 := by
  have h1 : IntKind.u64.min = 0 := rfl
  have h2 : IntKind.u64.max = 18446744073709551615 := rfl
  simp only [Lit.wf, Bool.and_eq_true, decide_eq_true_eq] at h
  omega
/-- The cells of one entry, from an address on. -/
def EnAt (w : World) (a : Addr) (p : En) : Prop := (w.cell? a = some (.string p.1) ∧ w.cell? (a.add 1) = some (.int .u64 p.2.1) ∧ w.cell? (a.add 2) = some (.bool p.2.2.1) ∧ w.cell? (a.add 3) = some (.string p.2.2.2)) ∧ p.1.size ≤ maxLen ∧ p.2.2.2.size ≤ maxLen ∧ 0 ≤ p.2.1 ∧ p.2.1 ≤ 18446744073709551615
theorem one_en {n : Nat} {a : Addr} {x : DataW H × List MemPlace} (h : ∃ cs', w.cells? base a 4 = some cs' ∧ DataW.trod enc Tryz.prog w base spare held n 54 cs' = some x) : ∃ p : En, EnAt w a p := by
  obtain ⟨cs, h1, h2⟩ := h
  obtain ⟨_, hlen, hcell⟩ := World.cells?_some h1
  obtain ⟨c0, c1, c2, c3, rfl⟩ := list4 hlen
  obtain ⟨xs, m, _, rfl, hl, hlen2, hf⟩ := DataW.trod_struct Tryz.underlying54 h2
  obtain ⟨y0, y1, y2, y3, rfl⟩ := list4 (by simpa using hlen2)
  have e0 := hf 0 _ rfl
  have e1 := hf 1 _ rfl
  have e2 := hf 2 _ rfl
  have e3 := hf 3 _ rfl
  have k9 : Tryz.prog.cellsOf 9 = 1 := by kernel_rfl
  have k3 : Tryz.prog.cellsOf 52 = 1 := by kernel_rfl
  have k4 : Tryz.prog.cellsOf 4 = 1 := by kernel_rfl
  simp [k3, k4, k9] at e0 e1 e2 e3
  obtain ⟨k, g0, _, hk⟩ := DataW.trod_string Tryz.underlying9 e0
  obtain ⟨nn, g1, _, hw⟩ := DataW.trod_int Tryz.underlying52 e1
  obtain ⟨sd, g2, _⟩ := DataW.trod_bool Tryz.underlying4 e2
  obtain ⟨v, g3, _, hv⟩ := DataW.trod_string Tryz.underlying9 e3
  simp at g0 g1 g2 g3
  subst g0 g1 g2 g3
  clear e0 e1 e2 e3 h2
  have hu := u64_in hw
  refine ⟨(k, nn, sd, v), ⟨?_, ?_, ?_, ?_⟩, hk, hv, hu.1, hu.2⟩
  · simpa [Addr.add] using hcell 0 (by omega)
  · simpa using hcell 1 (by omega)
  · simpa using hcell 2 (by omega)
  · simpa using hcell 3 (by omega)

instance : Inhabited En := ⟨Erw.ez⟩
/-- Entries opened. -/
theorem entries {v : Value} {d : DataW H} {p : List MemPlace} (hv : Value.okWide Tryz.prog w r b0 49 v) (h : DataW.Trod enc Tryz.prog w base spare held 49 v d p) :
    ∃ (a : Option Addr) (cap : Nat) (l : List En), v = .slice a l.length cap ∧ IsE w a l ∧ (a = none → cap = 0) ∧ l.length ≤ cap ∧ cap ≤ maxLen ∧ ∀ e ∈ l, e.1.size ≤ maxLen ∧ e.2.2.2.size ≤ maxLen ∧ 0 ≤ e.2.1 ∧ e.2.1 ≤ 18446744073709551615 := by
  obtain ⟨a0, len, cap, rfl⟩ := okWide_slice undEn hv
  obtain ⟨fuel, hf⟩ := h
  rcases open_slice undEn hf with ⟨hcs, _⟩ | ⟨a, l, c, m, n, D, Pl, hcs, _, hl, hm, hmm, _, hx⟩
  · simp [Value.cells] at hcs
    obtain ⟨rfl, rfl, rfl⟩ := hcs
    exact ⟨none, 0, [], rfl, IsE.nil _ _, fun _ => rfl, Nat.le_refl _, Nat.zero_le _, by simp⟩
  · simp [Value.cells] at hcs
    obtain ⟨rfl, rfl, rfl⟩ := hcs
    rw [cellsEn] at hx
    have hlm : len ≤ m := by rw [hmm]; split <;> omega
    have hex : ∀ i, i < len → ∃ q : En, EnAt w (a.add (i * 4)) q := fun i hi => one_en (hx i (by omega))
    obtain ⟨f, hfq⟩ : ∃ f : Nat → En, ∀ i, i < len → EnAt w (a.add (i * 4)) (f i) := choose_lt hex
    refine ⟨some a, cap, (List.range len).map f, by simp, fun hne => ?_, fun e => (by cases e), by simpa using hl, hm, fun e he => ?_⟩
    · have h0 : 0 < len := by
        rcases Nat.eq_zero_or_pos len with rfl | h0
        · simp at hne
        · exact h0
      obtain ⟨b, off, sp⟩ := a
      have hsp : sp = none := by
        have := World.cell?_spot (hfq 0 h0).1.1
        simpa [Addr.add] using this
      subst hsp
      refine ⟨b, off, rfl, ?_, fun i x hx' => ?_⟩
      · have := World.block_lt_of_cell? w _ (hfq 0 h0).1.1
        simpa [Addr.add] using this
      · have hi : i < len := by
          have := (List.getElem?_eq_some_iff.1 hx').1
          simpa using this
        have hxe : f i = x := by simpa [hi] using hx'
        subst hxe
        obtain ⟨⟨q0, q1, q2, q3⟩, _⟩ := hfq i hi
        simp only [add_plain'] at q0 q1 q2 q3
        exact ⟨q0, q1, q2, q3⟩
    · simp only [List.mem_map, List.mem_range] at he
      obtain ⟨i, hi, rfl⟩ := he
      exact (hfq i hi).2
end
end Opn
end Go.Proofs.YtjnmklbhhlfhcaaGreatDoor
namespace Go.Proofs.YtjnmklbhhlfhcaaGreatDoor
namespace Opn
open Go.ChangeShapes Go.WideShapes Go.ChangeAt Go.RowKit Go.Joins Go.Deep CMath Byt Irw Erw
set_option linter.unusedVariables false
set_option maxRecDepth 100000
/-- one call of a script of two makers: its kind, which maker, an entry -/
abbrev OpT := Int × Int × En
def otz : OpT := (0, 0, ⟨#[]⟩, 0, false, ⟨#[]⟩)
/-- A script as it lies. -/
def OTRow (w : World) (b off : Nat) (l : List OpT) : Prop := b < w.heap.size ∧ ∀ (i : Nat) (x : OpT), l[i]? = some x → w.cell? ⟨b, off + i * 6, none⟩ = some (.int .i64 x.1) ∧ w.cell? ⟨b, off + i * 6 + 1, none⟩ = some (.int .i64 x.2.1) ∧ w.cell? ⟨b, off + i * 6 + 2, none⟩ = some (.string x.2.2.1) ∧ w.cell? ⟨b, off + i * 6 + 3, none⟩ = some (.int .u64 x.2.2.2.1) ∧ w.cell? ⟨b, off + i * 6 + 4, none⟩ = some (.bool x.2.2.2.2.1) ∧ w.cell? ⟨b, off + i * 6 + 5, none⟩ = some (.string x.2.2.2.2.2)
def IsOT (w : World) (a : Option Addr) (l : List OpT) : Prop := l ≠ [] → ∃ b off, a = some ⟨b, off, none⟩ ∧ OTRow w b off l
theorem OTRow.keep {w w' : World} {b off : Nat} {l : List OpT} (h : OTRow w b off l) (hb : w'.heap[b]? = w.heap[b]?) (hs : w.heap.size ≤ w'.heap.size) : OTRow w' b off l :=
  ⟨Nat.lt_of_lt_of_le h.1 hs, fun i x hx => by
    obtain ⟨q0, q1, q2, q3, q4, q5⟩ := h.2 i x hx
    exact ⟨(World.cell?_of_block (a := ⟨b, _, none⟩) hb).trans q0, (World.cell?_of_block (a := ⟨b, _, none⟩) hb).trans q1, (World.cell?_of_block (a := ⟨b, _, none⟩) hb).trans q2, (World.cell?_of_block (a := ⟨b, _, none⟩) hb).trans q3, (World.cell?_of_block (a := ⟨b, _, none⟩) hb).trans q4, (World.cell?_of_block (a := ⟨b, _, none⟩) hb).trans q5⟩⟩
theorem IsOT.below {w w' : World} {a : Option Addr} {l : List OpT} (h : IsOT w a l) (hb : Below w.heap.size w w') : IsOT w' a l := fun hne => by
  obtain ⟨b, off, e, hr⟩ := h hne
  exact ⟨b, off, e, hr.keep (hb.block b hr.1) hb.size⟩
theorem cellsOT : Tryz.prog.cellsOf 56 = 6 := by kernel_rfl
theorem undOT : Tryz.prog.underlying 22 = some (.slice 56) := by kernel_rfl
theorem list6 {α : Type} {l : List α} (h : l.length = 6) : ∃ c0 c1 c2 c3 c4 c5, l = [c0, c1, c2, c3, c4, c5] := by
  match l, h with
  | [c0, c1, c2, c3, c4, c5], _ => exact ⟨c0, c1, c2, c3, c4, c5, rfl⟩
theorem list3 {α : Type} {l : List α} (h : l.length = 3) : ∃ c0 c1 c2, l = [c0, c1, c2] := by
  match l, h with
  | [c0, c1, c2], _ => exact ⟨c0, c1, c2, rfl⟩
section
variable {H : Type} {enc : TypeId × Value → H} {w : World} {base : Nat} {spare : Nat → Bool} {held : Bool} {r : Reach} {b0 : Nat}
theorem enT_cells {n : Nat} {c0 c1 c2 c3 : Value} {x : DataW H × List MemPlace} (h2 : DataW.trod enc Tryz.prog w base spare held n 54 [c0, c1, c2, c3] = some x) : ∃ p : En, (c0 = .string p.1 ∧ c1 = .int .u64 p.2.1 ∧ c2 = .bool p.2.2.1 ∧ c3 = .string p.2.2.2) ∧ p.1.size ≤ maxLen ∧ p.2.2.2.size ≤ maxLen ∧ 0 ≤ p.2.1 ∧ p.2.1 ≤ 18446744073709551615 := by
  obtain ⟨xs, m, _, rfl, hl, hlen2, hf⟩ := DataW.trod_struct Tryz.underlying54 h2
  obtain ⟨y0, y1, y2, y3, rfl⟩ := list4 (by simpa using hlen2)
  have e0 := hf 0 _ rfl
  have e1 := hf 1 _ rfl
  have e2 := hf 2 _ rfl
  have e3 := hf 3 _ rfl
  have k9 : Tryz.prog.cellsOf 9 = 1 := by kernel_rfl
  have k3 : Tryz.prog.cellsOf 52 = 1 := by kernel_rfl
  have k4 : Tryz.prog.cellsOf 4 = 1 := by kernel_rfl
  simp [k3, k4, k9] at e0 e1 e2 e3
  obtain ⟨k, g0, _, hk⟩ := DataW.trod_string Tryz.underlying9 e0
  obtain ⟨nn, g1, _, hw⟩ := DataW.trod_int Tryz.underlying52 e1
  obtain ⟨sd, g2, _⟩ := DataW.trod_bool Tryz.underlying4 e2
  obtain ⟨v, g3, _, hv⟩ := DataW.trod_string Tryz.underlying9 e3
  simp at g0 g1 g2 g3
  have hu := bounds_u64 hw
  exact ⟨(k, nn, sd, v), ⟨g0, g1, g2, g3⟩, hk, hv, hu.1, by have := hu.2; omega⟩
def OTAt (w : World) (a : Addr) (o : OpT) : Prop := (w.cell? a = some (.int .i64 o.1) ∧ w.cell? (a.add 1) = some (.int .i64 o.2.1) ∧ w.cell? (a.add 2) = some (.string o.2.2.1) ∧ w.cell? (a.add 3) = some (.int .u64 o.2.2.2.1) ∧ w.cell? (a.add 4) = some (.bool o.2.2.2.2.1) ∧ w.cell? (a.add 5) = some (.string o.2.2.2.2.2)) ∧ o.2.2.1.size ≤ maxLen ∧ o.2.2.2.2.2.size ≤ maxLen ∧ 0 ≤ o.2.2.2.1 ∧ o.2.2.2.1 ≤ 18446744073709551615
theorem one_opT {n : Nat} {a : Addr} {x : DataW H × List MemPlace} (h : ∃ cs', w.cells? base a 6 = some cs' ∧ DataW.trod enc Tryz.prog w base spare held n 56 cs' = some x) : ∃ o : OpT, OTAt w a o := by
  obtain ⟨cs, h1, h2⟩ := h
  obtain ⟨_, hlen, hcell⟩ := World.cells?_some h1
  obtain ⟨c0, c1, c2, c3, c4, c5, rfl⟩ := list6 hlen
  obtain ⟨xs, m, _, rfl, hl, hlen2, hf⟩ := DataW.trod_struct Tryz.underlying56 h2
  obtain ⟨y0, y1, y2, rfl⟩ := list3 (by simpa using hlen2)
  have e0 := hf 0 _ rfl
  have e1 := hf 1 _ rfl
  have e2 := hf 2 _ rfl
  have k9 : Tryz.prog.cellsOf 3 = 1 := by kernel_rfl
  have kE := cellsEn
  simp [k9, kE] at e0 e1 e2
  obtain ⟨kd, g0, _, hk⟩ := DataW.trod_int Tryz.underlying3 e0
  obtain ⟨wh, g1, _, hw⟩ := DataW.trod_int Tryz.underlying3 e1
  obtain ⟨p, ⟨q0, q1, q2, q3⟩, hp⟩ := enT_cells e2
  simp at g0 g1
  subst g0 g1 q0 q1 q2 q3
  clear e0 e1 e2 h2
  refine ⟨(kd, wh, p), ⟨?_, ?_, ?_, ?_, ?_, ?_⟩, hp⟩
  · simpa [Addr.add] using hcell 0 (by omega)
  · simpa using hcell 1 (by omega)
  · simpa using hcell 2 (by omega)
  · simpa using hcell 3 (by omega)
  · simpa using hcell 4 (by omega)
  · simpa using hcell 5 (by omega)
instance : Inhabited OpT := ⟨otz⟩
/-- A script opened. -/
theorem scriptT {v : Value} {d : DataW H} {p : List MemPlace} (hv : Value.okWide Tryz.prog w r b0 22 v) (h : DataW.Trod enc Tryz.prog w base spare held 22 v d p) :
    ∃ (a : Option Addr) (cap : Nat) (l : List OpT), v = .slice a l.length cap ∧ IsOT w a l ∧ l.length ≤ cap ∧ cap ≤ maxLen ∧ ∀ o ∈ l, o.2.2.1.size ≤ maxLen ∧ o.2.2.2.2.2.size ≤ maxLen ∧ 0 ≤ o.2.2.2.1 ∧ o.2.2.2.1 ≤ 18446744073709551615 := by
  obtain ⟨a0, len, cap, rfl⟩ := okWide_slice undOT hv
  obtain ⟨fuel, hf⟩ := h
  rcases open_slice undOT hf with ⟨hcs, _⟩ | ⟨a, l, c, m, n, D, Pl, hcs, _, hl, hm, hmm, hd, hx⟩
  · simp [Value.cells] at hcs
    obtain ⟨rfl, rfl, rfl⟩ := hcs
    exact ⟨none, 0, [], rfl, fun h => absurd rfl h, Nat.le_refl _, Nat.zero_le _, by simp⟩
  · simp [Value.cells] at hcs
    obtain ⟨rfl, rfl, rfl⟩ := hcs
    rw [cellsOT] at hx
    have hlm : len ≤ m := by rw [hmm]; split <;> omega
    have hex : ∀ i, i < len → ∃ q : OpT, OTAt w (a.add (i * 6)) q := fun i hi => one_opT (hx i (by omega))
    obtain ⟨f, hfq⟩ : ∃ f : Nat → OpT, ∀ i, i < len → OTAt w (a.add (i * 6)) (f i) := choose_lt hex
    refine ⟨some a, cap, (List.range len).map f, by simp, fun hne => ?_, by simp; exact hl, hm, fun e he => ?_⟩
    · have h0 : 0 < len := by
        rcases Nat.eq_zero_or_pos len with rfl | h0
        · simp at hne
        · exact h0
      obtain ⟨b, off, sp⟩ := a
      have hsp : sp = none := by
        have := World.cell?_spot (hfq 0 h0).1.1
        simpa [Addr.add] using this
      subst hsp
      refine ⟨b, off, rfl, ?_, fun i x hx' => ?_⟩
      · have := World.block_lt_of_cell? w _ (hfq 0 h0).1.1
        simpa [Addr.add] using this
      · have hi : i < len := by
          have := (List.getElem?_eq_some_iff.1 hx').1
          simpa using this
        have hxe : f i = x := by simpa [hi] using hx'
        subst hxe
        obtain ⟨⟨q0, q1, q2, q3, q4, q5⟩, _⟩ := hfq i hi
        simp only [Irw.add_plain'] at q0 q1 q2 q3 q4 q5
        exact ⟨q0, q1, q2, q3, q4, q5⟩
    · simp only [List.mem_map, List.mem_range] at he
      obtain ⟨i, hi, rfl⟩ := he
      exact (hfq i hi).2
end
end Opn
end Go.Proofs.YtjnmklbhhlfhcaaGreatDoor
