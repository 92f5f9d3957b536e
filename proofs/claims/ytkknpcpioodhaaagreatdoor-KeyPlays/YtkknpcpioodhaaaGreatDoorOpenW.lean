import Derived.Test.YtkknpcpioodhaaaGreatDoorProg
import Derived.Test.YtkknpcpioodhaaaGreatDoorOpen
import Derived.Test.YtkknpcpioodhaaaGreatDoorChk
import Derived.Deep.Slices
import Derived.Deep.Strs
namespace Go.Proofs.YtkknpcpioodhaaaGreatDoor
namespace Opn
open Go.ChangeShapes Go.WideShapes Go.ChangeAt Go.RowKit Go.Joins Go.Deep Ent Chk
set_option linter.unusedVariables false
set_option maxRecDepth 100000

section
variable {H : Type} {enc : TypeId × Value → H} {w : World} {base : Nat} {spare : Nat → Bool} {held : Bool} {r : Reach} {b0 : Nat}

theorem one_write {n : Nat} {a : Addr} {x : DataW H × List MemPlace} (h : ∃ cs', w.cells? base a 3 = some cs' ∧ DataW.trod enc Tryz.prog w base spare held n 56 cs' = some x) :
    ∃ q : Wr, (w.cell? a = some (.string q.1) ∧ w.cell? (a.add 1) = some (.bool q.2.1) ∧ w.cell? (a.add 2) = some (.string q.2.2)) ∧ q.1.size ≤ maxLen ∧ q.2.2.size ≤ maxLen := by
  obtain ⟨cs, h1, h2⟩ := h
  obtain ⟨_, hlen, hcell⟩ := World.cells?_some h1
  match cs, hlen with
  | [c0, c1, c2], _ =>
    obtain ⟨y0, y1, y2, m, _, _, e0, e1, e2⟩ := trod_struct3 Tryz.underlying56 h2
    have k9 : Tryz.prog.cellsOf 9 = 1 := by kernel_rfl
    have k4 : Tryz.prog.cellsOf 4 = 1 := by kernel_rfl
    simp only [k9, k4] at e0 e1 e2
    obtain ⟨k, g0, _, hk⟩ := DataW.trod_string Tryz.underlying9 e0
    obtain ⟨d, g1, _⟩ := DataW.trod_bool Tryz.underlying4 e1
    obtain ⟨v, g2, _, hv⟩ := DataW.trod_string Tryz.underlying9 e2
    simp at g0 g1 g2
    subst g0 g1 g2
    have q0 := hcell 0 (by omega)
    have q1 := hcell 1 (by omega)
    have q2 := hcell 2 (by omega)
    exact ⟨(k, d, v), ⟨by simpa [Addr.add] using q0, by simpa using q1, by simpa using q2⟩, hk, hv⟩

theorem writes_cap2 {v : Value} {d : DataW H} {p : List MemPlace} (hv : Value.okWide Tryz.prog w r b0 46 v) (h : DataW.Trod enc Tryz.prog w base spare held 46 v d p) :
    ∃ (a : Option Addr) (cap : Nat) (ws : List Wr), v = .slice a ws.length cap ∧ IsWr w a ws ∧ (a = none → cap = 0) ∧ ws.length ≤ cap ∧ cap ≤ maxLen := by
  obtain ⟨a0, len, cap, rfl⟩ := okWide_slice Tryz.underlying46 hv
  obtain ⟨fuel, hf⟩ := h
  rcases open_slice Tryz.underlying46 hf with ⟨hcs, _⟩ | ⟨a, l, c, m, n, D, Pl, hcs, _, hl, hm, hmm, _, hx⟩
  · simp [Value.cells] at hcs
    obtain ⟨rfl, rfl, rfl⟩ := hcs
    exact ⟨none, 0, [], rfl, ⟨fun hne => absurd rfl hne, by simp, by simp⟩, fun _ => rfl, Nat.le_refl _, Nat.zero_le _⟩
  · simp [Value.cells] at hcs
    obtain ⟨rfl, rfl, rfl⟩ := hcs
    rw [cellsW] at hx
    have hlm : len ≤ m := by rw [hmm]; split <;> omega
    obtain ⟨f, hfq⟩ := choose_lt (α := Wr) (n := len) (p := fun i q => (w.cell? (a.add (i * 3)) = some (.string q.1) ∧ w.cell? ((a.add (i * 3)).add 1) = some (.bool q.2.1) ∧ w.cell? ((a.add (i * 3)).add 2) = some (.string q.2.2)) ∧ q.1.size ≤ maxLen ∧ q.2.2.size ≤ maxLen)
      (fun i hi => one_write (hx i (by omega)))
    refine ⟨some a, cap, (List.range len).map f, by simp, ⟨fun hne => ?_, by simp; omega, fun x hx' => ?_⟩, fun e => (by cases e), by simpa using hl, hm⟩
    · have h0 : 0 < len := by
        rcases Nat.eq_zero_or_pos len with rfl | h0
        · simp at hne
        · exact h0
      obtain ⟨b, off, sp⟩ := a
      have hsp : sp = none := by
        have := World.cell?_spot (hfq 0 h0).1.1
        simpa [Addr.add] using this
      subst hsp
      refine ⟨b, off, rfl, ?_, fun i x hx' => ?_⟩
      · have := World.block_lt_of_cell? w _ (hfq 0 h0).1.1
        simpa [Addr.add] using this
      · have hi : i < len := by
          have := (List.getElem?_eq_some_iff.1 hx').1
          simpa using this
        have e : x = f i := by simpa [hi] using hx'.symm
        subst e
        obtain ⟨⟨q0, q1, q2⟩, _⟩ := hfq i hi
        have ad : ∀ t, (⟨b, off, none⟩ : Addr).add t = ⟨b, off + t, none⟩ := fun t => by unfold Addr.add; by_cases ht : t = 0 <;> simp [ht]
        rw [add_add] at q1 q2
        rw [ad] at q0 q1 q2
        exact ⟨q0, q1, q2⟩
    · obtain ⟨i, hi, rfl⟩ := List.mem_map.1 hx'
      exact (hfq i (by simpa using hi)).2

theorem writes {v : Value} {d : DataW H} {p : List MemPlace} (hv : Value.okWide Tryz.prog w r b0 46 v) (h : DataW.Trod enc Tryz.prog w base spare held 46 v d p) :
    ∃ (a : Option Addr) (cap : Nat) (ws : List Wr), v = .slice a ws.length cap ∧ IsWr w a ws ∧ (a = none → cap = 0) := by
  obtain ⟨a, cap, ws, h1, h2, h3, _⟩ := writes_cap2 hv h
  exact ⟨a, cap, ws, h1, h2, h3⟩
end
end Opn
end Go.Proofs.YtkknpcpioodhaaaGreatDoor
