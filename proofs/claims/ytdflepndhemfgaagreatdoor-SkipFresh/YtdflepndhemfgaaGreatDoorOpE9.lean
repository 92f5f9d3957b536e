import Derived.Test.YtdflepndhemfgaaGreatDoorProg
import Derived.Test.YtdflepndhemfgaaGreatDoorERw
import Derived.Test.YtdflepndhemfgaaGreatDoorOpenB
import Derived.ProofKit
import Derived.OpenShut
import Derived.SizedLaws
import Derived.Deep.Slices
import Derived.Deep.Strs
import Derived.Lib.SmallJoins
namespace Go.Proofs.YtdflepndhemfgaaGreatDoor
namespace Opn
open Go.ChangeShapes Go.WideShapes Go.ChangeAt Go.RowKit Go.Joins Go.Deep Irw Erw
set_option linter.unusedVariables false
set_option maxRecDepth 100000

theorem cellsEn : Tryz.prog.cellsOf 61 = 4 := by kernel_rfl
theorem undEn : Tryz.prog.underlying 23 = some (.slice 61) := by kernel_rfl
theorem list4 {α : Type} {l : List α} (h : l.length = 4) : ∃ c0 c1 c2 c3, l = [c0, c1, c2, c3] := by
  match l, h with
  | [c0, c1, c2, c3], _ => exact ⟨c0, c1, c2, c3, rfl⟩

section
variable {H : Type} {enc : TypeId × Value → H} {w : World} {base : Nat} {spare : Nat → Bool} {held : Bool} {r : Reach} {b0 : Nat}

theorem u64_in {x : Int} (h : (Lit.int .u64 x).wf = true) : 0 ≤ x ∧ x ≤ 18446744073709551615 := by
  have h1 : IntKind.u64.min = 0 := rfl
  have h2 : IntKind.u64.max = 18446744073709551615 := rfl
  simp only [Lit.wf, Bool.and_eq_true, decide_eq_true_eq] at h
  omega
/-- The cells of one entry, from an address on. -/
def EnAt (w : World) (a : Addr) (p : En) : Prop := (w.cell? a = some (.string p.1) ∧ w.cell? (a.add 1) = some (.int .u64 p.2.1) ∧ w.cell? (a.add 2) = some (.bool p.2.2.1) ∧ w.cell? (a.add 3) = some (.string p.2.2.2)) ∧ p.1.size ≤ maxLen ∧ p.2.2.2.size ≤ maxLen ∧ 0 ≤ p.2.1 ∧ p.2.1 ≤ 18446744073709551615
theorem one_en {n : Nat} {a : Addr} {x : DataW H × List MemPlace} (h : ∃ cs', w.cells? base a 4 = some cs' ∧ DataW.trod enc Tryz.prog w base spare held n 61 cs' = some x) : ∃ p : En, EnAt w a p := by
  obtain ⟨cs, h1, h2⟩ := h
  obtain ⟨_, hlen, hcell⟩ := World.cells?_some h1
  obtain ⟨c0, c1, c2, c3, rfl⟩ := list4 hlen
  obtain ⟨xs, m, _, rfl, hl, hlen2, hf⟩ := DataW.trod_struct Tryz.underlying61 h2
  obtain ⟨y0, y1, y2, y3, rfl⟩ := list4 (by simpa using hlen2)
  have e0 := hf 0 _ rfl
  have e1 := hf 1 _ rfl
  have e2 := hf 2 _ rfl
  have e3 := hf 3 _ rfl
  have k9 : Tryz.prog.cellsOf 9 = 1 := by kernel_rfl
  have k3 : Tryz.prog.cellsOf 57 = 1 := by kernel_rfl
  have k4 : Tryz.prog.cellsOf 4 = 1 := by kernel_rfl
  simp [k3, k4, k9] at e0 e1 e2 e3
  obtain ⟨k, g0, _, hk⟩ := DataW.trod_string Tryz.underlying9 e0
  obtain ⟨nn, g1, _, hw⟩ := DataW.trod_int Tryz.underlying57 e1
  obtain ⟨sd, g2, _⟩ := DataW.trod_bool Tryz.underlying4 e2
  obtain ⟨v, g3, _, hv⟩ := DataW.trod_string Tryz.underlying9 e3
  simp at g0 g1 g2 g3
  subst g0 g1 g2 g3
  clear e0 e1 e2 e3 h2
  have hu := u64_in hw
  refine ⟨(k, nn, sd, v), ⟨?_, ?_, ?_, ?_⟩, hk, hv, hu.1, hu.2⟩
  · simpa [Addr.add] using hcell 0 (by omega)
  · simpa using hcell 1 (by omega)
  · simpa using hcell 2 (by omega)
  · simpa using hcell 3 (by omega)

instance : Inhabited En := ⟨Erw.ez⟩
/-- Entries opened. -/
theorem entries {v : Value} {d : DataW H} {p : List MemPlace} (hv : Value.okWide Tryz.prog w r b0 23 v) (h : DataW.Trod enc Tryz.prog w base spare held 23 v d p) :
    ∃ (a : Option Addr) (cap : Nat) (l : List En), v = .slice a l.length cap ∧ IsE w a l ∧ (a = none → cap = 0) ∧ l.length ≤ cap ∧ cap ≤ maxLen ∧ ∀ e ∈ l, e.1.size ≤ maxLen ∧ e.2.2.2.size ≤ maxLen ∧ 0 ≤ e.2.1 ∧ e.2.1 ≤ 18446744073709551615 := by
  obtain ⟨a0, len, cap, rfl⟩ := okWide_slice undEn hv
  obtain ⟨fuel, hf⟩ := h
  rcases open_slice undEn hf with ⟨hcs, _⟩ | ⟨a, l, c, m, n, D, Pl, hcs, _, hl, hm, hmm, _, hx⟩
  · simp [Value.cells] at hcs
    obtain ⟨rfl, rfl, rfl⟩ := hcs
    exact ⟨none, 0, [], rfl, IsE.nil _ _, fun _ => rfl, Nat.le_refl _, Nat.zero_le _, by simp⟩
  · simp [Value.cells] at hcs
    obtain ⟨rfl, rfl, rfl⟩ := hcs
    rw [cellsEn] at hx
    have hlm : len ≤ m := by rw [hmm]; split <;> omega
    have hex : ∀ i, i < len → ∃ q : En, EnAt w (a.add (i * 4)) q := fun i hi => one_en (hx i (by omega))
    obtain ⟨f, hfq⟩ : ∃ f : Nat → En, ∀ i, i < len → EnAt w (a.add (i * 4)) (f i) := choose_lt hex
    refine ⟨some a, cap, (List.range len).map f, by simp, fun hne => ?_, fun e => (by cases e), by simpa using hl, hm, fun e he => ?_⟩
    · have h0 : 0 < len := by
        rcases Nat.eq_zero_or_pos len with rfl | h0
        · simp at hne
        · exact h0
      obtain ⟨b, off, sp⟩ := a
      have hsp : sp = none := by
        have := World.cell?_spot (hfq 0 h0).1.1
        simpa [Addr.add] using this
      subst hsp
      refine ⟨b, off, rfl, ?_, fun i x hx' => ?_⟩
      · have := World.block_lt_of_cell? w _ (hfq 0 h0).1.1
        simpa [Addr.add] using this
      · have hi : i < len := by
          have := (List.getElem?_eq_some_iff.1 hx').1
          simpa using this
        have hxe : f i = x := by simpa [hi] using hx'
        subst hxe
        obtain ⟨⟨q0, q1, q2, q3⟩, _⟩ := hfq i hi
        simp only [add_plain'] at q0 q1 q2 q3
        exact ⟨q0, q1, q2, q3⟩
    · simp only [List.mem_map, List.mem_range] at he
      obtain ⟨i, hi, rfl⟩ := he
      exact (hfq i hi).2
end
end Opn
end Go.Proofs.YtdflepndhemfgaaGreatDoor
