import Derived.Test.YtanpbknjnpmmnaaOpenB
import Derived.WalkKit
import Derived.ProofKit
import Derived.OpenShut
import Derived.ShutString
import Derived.SizedLaws
import Derived.Deep.Slices
import Derived.Deep.Strs
import Derived.Lib.SmallJoins
import Derived.Test.YtanpbknjnpmmnaaMs3
namespace Go.Proofs.Ytanpbknjnpmmnaa
namespace Opn
open Go.ChangeShapes Go.WideShapes Go.ChangeAt Go.RowKit Go.Joins Go.Deep Crw Irw Mnf CMath Byt
set_option linter.unusedVariables false
set_option maxRecDepth 100000
theorem undCC : Try.prog.underlying 22 = some (.slice 24) := by kernel_rfl
theorem cellsCC : Try.prog.cellsOf 24 = 1 := by kernel_rfl
section
variable {H : Type} {enc : TypeId × Value → H} {w : World} {base : Nat} {spare : Nat → Bool} {held : Bool} {r : Reach} {b0 : Nat}
theorem bytes_at {n : Nat} {cs : List Value} {x : DataW H × List MemPlace} (h : DataW.trod enc Try.prog w base spare held n 24 cs = some x) :
    ∃ (a : Option Addr) (cap : Nat) (l : List Nat), cs = [.slice a l.length cap] ∧ IsB w a l ∧ (a = none → cap = 0) ∧ l.length ≤ cap ∧ cap ≤ 9223372036854775807 := by
  rcases open_ints Try.underlying24 Try.underlying5 cells8 h with ⟨hcs, hx⟩ | ⟨a, len, cap, zs, hcs, _, hl, hm, hz, hx, hcell, hwz⟩
  · exact ⟨none, 0, [], hcs, IsB.nil _ _, fun _ => rfl, Nat.le_refl _, Nat.zero_le _⟩
  · have hlm : len ≤ zs.length := by rw [hz]; split <;> omega
    have hlen : ((zs.take len).map Int.toNat).length = len := by simp; omega
    refine ⟨some a, cap, (zs.take len).map Int.toNat, by rw [hlen]; exact hcs, ⟨fun hne => ?_, ?_⟩, fun e => (by cases e), (by rw [hlen]; exact hl), hm⟩
    · have h0 : 0 < len := by
        rcases Nat.eq_zero_or_pos len with rfl | h0
        · simp at hne
        · exact h0
      obtain ⟨b, off, sp⟩ := a
      have hsp : sp = none := by
        have := World.cell?_spot (hcell 0 (by omega))
        simpa [Addr.add] using this
      subst hsp
      refine ⟨b, off, rfl, ?_, fun i x hx' => ?_⟩
      · have := World.block_lt_of_cell? w _ (hcell 0 (by omega))
        simpa [Addr.add] using this
      · have hi : i < len := by
          have := (List.getElem?_eq_some_iff.1 hx').1
          rw [hlen] at this
          exact this
        have q := hcell i (by omega)
        rw [Irw.add_plain'] at q
        rw [q]
        have hzi : i < zs.length := by omega
        have e : x = (zs[i]).toNat := by
          simp [hi, hzi] at hx'
          exact hx'.symm
        have hb := byte_wf (hwz _ (List.getElem_mem hzi))
        have e2 : zs.getD i 0 = ((x : Nat) : Int) := by
          rw [e]
          simp [List.getD, hzi]
          omega
        rw [e2]
    · intro x hx'
      obtain ⟨y, hy, rfl⟩ := List.mem_map.1 hx'
      have hb := byte_wf (hwz y (List.mem_of_mem_take hy))
      omega
instance : Inhabited (Sv × List Nat) := ⟨((none, 0, 0), [])⟩
/-- slices of writes opened -/
theorem chunks {v : Value} {d : DataW H} {p : List MemPlace} (hv : Value.okWide Try.prog w r b0 22 v) (h : DataW.Trod enc Try.prog w base spare held 22 v d p) :
    ∃ (a : Option Addr) (cap : Nat) (gs : List (List Nat)), v = .slice a gs.length cap ∧ IsD w a gs ∧ (a = none → cap = 0) ∧ gs.length ≤ cap ∧ cap ≤ 9223372036854775807 := by
  obtain ⟨a0, len, cap, rfl⟩ := okWide_slice undCC hv
  obtain ⟨fuel, hf⟩ := h
  rcases open_slice undCC hf with ⟨hcs, _⟩ | ⟨a, l, c, m, n, D, Pl, hcs, _, hl, hm, hmm, _, hx⟩
  · simp [Value.cells] at hcs
    obtain ⟨rfl, rfl, rfl⟩ := hcs
    exact ⟨none, 0, [], rfl, ⟨[], rfl, IsK.nil _ _, fun i v ws hv => by simp at hv⟩, fun _ => rfl, Nat.le_refl _, Nat.zero_le _⟩
  · simp [Value.cells] at hcs
    obtain ⟨rfl, rfl, rfl⟩ := hcs
    rw [cellsCC] at hx
    have hlm : len ≤ m := by rw [hmm]; split <;> omega
    obtain ⟨f, hfq⟩ := choose_lt (α := Sv × List Nat) (n := len) (p := fun i q => w.cell? (a.add (i * 1)) = some (.slice q.1.1 q.1.2.1 q.1.2.2) ∧ q.1.2.1 = q.2.length ∧ IsB w q.1.1 q.2 ∧ (q.1.1 = none → q.1.2.2 = 0) ∧ q.2.length ≤ q.1.2.2 ∧ q.1.2.2 ≤ 9223372036854775807)
      (fun i hi => by
        obtain ⟨cs, h1, h2⟩ := hx i (by omega)
        obtain ⟨_, hlen, hcell⟩ := World.cells?_some h1
        obtain ⟨a', c', ws, e, q1, q2, q3, q4⟩ := bytes_at h2
        subst e
        refine ⟨((a', ws.length, c'), ws), ?_, rfl, q1, q2, q3, q4⟩
        simpa [Addr.add] using hcell 0 (by omega))
    refine ⟨some a, cap, (List.range len).map fun i => (f i).2, by simp, ⟨(List.range len).map fun i => (f i).1, by simp, fun hne => ?_, fun i v ws hv hw => ?_⟩, fun e => (by cases e), by simp; exact hl, by unfold maxLen at hm; exact hm⟩
    · have h0 : 0 < len := by
        rcases Nat.eq_zero_or_pos len with rfl | h0
        · simp at hne
        · exact h0
      obtain ⟨b, off, sp⟩ := a
      have hsp : sp = none := by
        have := World.cell?_spot (hfq 0 h0).1
        simpa [Addr.add] using this
      subst hsp
      refine ⟨b, off, rfl, ?_, fun i x hx' j u hu => ?_⟩
      · have := World.block_lt_of_cell? w _ (hfq 0 h0).1
        simpa [Addr.add] using this
      · have hi : i < len := by
          have := (List.getElem?_eq_some_iff.1 hx').1
          simpa using this
        have e : x = (f i).1 := by simpa [hi] using hx'.symm
        subst e
        have q0 := (hfq i hi).1
        simp only [Irw.add_plain'] at q0
        cases j with
        | zero =>
          have : u = .slice (f i).1.1 (f i).1.2.1 (f i).1.2.2 := by
            have := Option.some.inj hu
            exact this.symm
          subst this
          exact q0
        | succ j => exact absurd hu (by rw [show (kD.cs (f i).1)[j + 1]? = none from rfl]; simp)
    · have hi : i < len := by
        have := (List.getElem?_eq_some_iff.1 hv).1
        simpa using this
      have e1 : v = (f i).1 := by simpa [hi] using hv.symm
      have e2 : ws = (f i).2 := by simpa [hi] using hw.symm
      subst e1 e2
      exact ⟨(hfq i hi).2.1, (hfq i hi).2.2⟩
end
end Opn
end Go.Proofs.Ytanpbknjnpmmnaa
