import Derived.Test.YtcioaoanhmpdkaaOp5
import Derived.Test.YtcioaoanhmpdkaaMg1
namespace Go.Proofs.Ytcioaoanhmpdkaa
namespace Opn
open Go.ChangeShapes Go.WideShapes Go.ChangeAt Go.RowKit Go.Joins Go.Deep Chk Crw Grp
set_option linter.unusedVariables false
set_option maxRecDepth 100000
theorem cellsWr : Try.prog.cellsOf 73 = 3 := by kernel_rfl
theorem cellsGr : Try.prog.cellsOf 52 = 1 := by kernel_rfl
section
variable {H : Type} {enc : TypeId × Value → H} {w : World} {base : Nat} {spare : Nat → Bool} {held : Bool} {r : Reach} {b0 : Nat}

theorem list3 {α : Type} {l : List α} (h : l.length = 3) : ∃ c0 c1 c2, l = [c0, c1, c2] := by
  match l, h with
  | [c0, c1, c2], _ => exact ⟨c0, c1, c2, rfl⟩
theorem one_write {n : Nat} {a : Addr} {x : DataW H × List MemPlace} (h : ∃ cs', w.cells? base a 3 = some cs' ∧ DataW.trod enc Try.prog w base spare held n 73 cs' = some x) :
    ∃ q : Wr, (w.cell? a = some (.string q.1) ∧ w.cell? (a.add 1) = some (.bool q.2.1) ∧ w.cell? (a.add 2) = some (.string q.2.2)) ∧ q.1.size ≤ maxLen ∧ q.2.2.size ≤ maxLen := by
  obtain ⟨cs, h1, h2⟩ := h
  obtain ⟨_, hlen, hcell⟩ := World.cells?_some h1
  obtain ⟨c0, c1, c2, rfl⟩ := list3 hlen
  obtain ⟨xs, m, _, rfl, hl, hlen2, hf⟩ := DataW.trod_struct Try.underlying73 h2
  obtain ⟨y0, y1, y2, rfl⟩ := list3 (by simpa using hlen2)
  have e0 := hf 0 _ rfl
  have e1 := hf 1 _ rfl
  have e2 := hf 2 _ rfl
  have k9 : Try.prog.cellsOf 9 = 1 := by kernel_rfl
  have k4 : Try.prog.cellsOf 4 = 1 := by kernel_rfl
  simp [k4, k9] at e0 e1 e2
  obtain ⟨k, g0, _, hk⟩ := DataW.trod_string Try.underlying9 e0
  obtain ⟨d, g1, _⟩ := DataW.trod_bool Try.underlying4 e1
  obtain ⟨v, g2, _, hv⟩ := DataW.trod_string Try.underlying9 e2
  simp at g0 g1 g2
  subst g0 g1 g2
  exact ⟨(k, d, v), ⟨by simpa [Addr.add] using hcell 0 (by omega), by simpa using hcell 1 (by omega), by simpa using hcell 2 (by omega)⟩, hk, hv⟩
/-- a slice of writes -/
theorem writes_at {n : Nat} {cs : List Value} {x : DataW H × List MemPlace} (h : DataW.trod enc Try.prog w base spare held n 52 cs = some x) :
    ∃ (a : Option Addr) (cap : Nat) (ws : List Wr), cs = [.slice a ws.length cap] ∧ IsWr w a ws ∧ (a = none → cap = 0) := by
  rcases open_slice undW h with ⟨hcs, _⟩ | ⟨a, len, cap, m, n, D, Pl, hcs, _, hl, hm, hmm, _, hx⟩
  · exact ⟨none, 0, [], hcs, ⟨fun hne => absurd rfl hne, by simp, by simp⟩, fun _ => rfl⟩
  · rw [cellsWr] at hx
    have hlm : len ≤ m := by rw [hmm]; split <;> omega
    obtain ⟨f, hfq⟩ := choose_lt (α := Wr) (n := len) (p := fun i q => (w.cell? (a.add (i * 3)) = some (.string q.1) ∧ w.cell? ((a.add (i * 3)).add 1) = some (.bool q.2.1) ∧ w.cell? ((a.add (i * 3)).add 2) = some (.string q.2.2)) ∧ q.1.size ≤ maxLen ∧ q.2.2.size ≤ maxLen)
      (fun i hi => one_write (hx i (by omega)))
    refine ⟨some a, cap, (List.range len).map f, by simpa using hcs, ⟨fun hne => ?_, by simp; omega, fun x hx' => ?_⟩, fun e => (by cases e)⟩
    · have h0 : 0 < len := by
        rcases Nat.eq_zero_or_pos len with rfl | h0
        · simp at hne
        · exact h0
      obtain ⟨b, off, sp⟩ := a
      have hsp : sp = none := by
        have := World.cell?_spot (hfq 0 h0).1.1
        simpa [Addr.add] using this
      subst hsp
      refine ⟨b, off, rfl, ?_, fun i x hx' => ?_⟩
      · have := World.block_lt_of_cell? w _ (hfq 0 h0).1.1
        simpa [Addr.add] using this
      · have hi : i < len := by
          have := (List.getElem?_eq_some_iff.1 hx').1
          simpa using this
        have e : x = f i := by simpa [hi] using hx'.symm
        subst e
        obtain ⟨⟨q0, q1, q2⟩, _⟩ := hfq i hi
        simp only [Irw.add_plain'] at q0 q1 q2
        exact ⟨q0, q1, q2⟩
    · obtain ⟨i, hi, rfl⟩ := List.mem_map.1 hx'
      exact (hfq i (by simpa using hi)).2
theorem writes {v : Value} {d : DataW H} {p : List MemPlace} (hv : Value.okWide Try.prog w r b0 52 v) (h : DataW.Trod enc Try.prog w base spare held 52 v d p) :
    ∃ (a : Option Addr) (cap : Nat) (ws : List Wr), v = .slice a ws.length cap ∧ IsWr w a ws ∧ (a = none → cap = 0) := by
  obtain ⟨a0, len, cap, rfl⟩ := okWide_slice undW hv
  obtain ⟨fuel, hf⟩ := h
  obtain ⟨a, c, ws, e, h1, h2⟩ := writes_at hf
  refine ⟨a, c, ws, ?_, h1, h2⟩
  simpa [Value.cells] using e
instance : Inhabited (Sv × List Wr) := ⟨((none, 0, 0), [])⟩
/-- slices of writes opened -/
theorem groups {v : Value} {d : DataW H} {p : List MemPlace} (hv : Value.okWide Try.prog w r b0 33 v) (h : DataW.Trod enc Try.prog w base spare held 33 v d p) :
    ∃ (a : Option Addr) (cap : Nat) (gs : List (List Wr)), v = .slice a gs.length cap ∧ IsG w a gs ∧ (gs.length : Int) ≤ 9223372036854775807 := by
  obtain ⟨a0, len, cap, rfl⟩ := okWide_slice undG hv
  obtain ⟨fuel, hf⟩ := h
  rcases open_slice undG hf with ⟨hcs, _⟩ | ⟨a, l, c, m, n, D, Pl, hcs, _, hl, hm, hmm, _, hx⟩
  · simp [Value.cells] at hcs
    obtain ⟨rfl, rfl, rfl⟩ := hcs
    exact ⟨none, 0, [], rfl, ⟨[], rfl, IsK.nil _ _, fun i v ws hv => by simp at hv⟩, by simp⟩
  · simp [Value.cells] at hcs
    obtain ⟨rfl, rfl, rfl⟩ := hcs
    rw [cellsGr] at hx
    have hlm : len ≤ m := by rw [hmm]; split <;> omega
    obtain ⟨f, hfq⟩ := choose_lt (α := Sv × List Wr) (n := len) (p := fun i q => w.cell? (a.add (i * 1)) = some (.slice q.1.1 q.1.2.1 q.1.2.2) ∧ q.1.2.1 = q.2.length ∧ IsWr w q.1.1 q.2)
      (fun i hi => by
        obtain ⟨cs, h1, h2⟩ := hx i (by omega)
        obtain ⟨_, hlen, hcell⟩ := World.cells?_some h1
        obtain ⟨a', c', ws, e, q1, q2⟩ := writes_at h2
        subst e
        refine ⟨((a', ws.length, c'), ws), ?_, rfl, q1⟩
        simpa [Addr.add] using hcell 0 (by omega))
    refine ⟨some a, cap, (List.range len).map fun i => (f i).2, by simp, ⟨(List.range len).map fun i => (f i).1, by simp, fun hne => ?_, fun i v ws hv hw => ?_⟩, by unfold maxLen at hm; simp; omega⟩
    · have h0 : 0 < len := by
        rcases Nat.eq_zero_or_pos len with rfl | h0
        · simp at hne
        · exact h0
      obtain ⟨b, off, sp⟩ := a
      have hsp : sp = none := by
        have := World.cell?_spot (hfq 0 h0).1
        simpa [Addr.add] using this
      subst hsp
      refine ⟨b, off, rfl, ?_, fun i x hx' j u hu => ?_⟩
      · have := World.block_lt_of_cell? w _ (hfq 0 h0).1
        simpa [Addr.add] using this
      · have hi : i < len := by
          have := (List.getElem?_eq_some_iff.1 hx').1
          simpa using this
        have e : x = (f i).1 := by simpa [hi] using hx'.symm
        subst e
        have q0 := (hfq i hi).1
        simp only [Irw.add_plain'] at q0
        cases j with
        | zero =>
          have : u = .slice (f i).1.1 (f i).1.2.1 (f i).1.2.2 := by
            have := Option.some.inj hu
            exact this.symm
          subst this
          exact q0
        | succ j => exact absurd hu (by rw [show (kS.cs (f i).1)[j + 1]? = none from rfl]; simp)
    · have hi : i < len := by
        have := (List.getElem?_eq_some_iff.1 hv).1
        simpa using this
      have e1 : v = (f i).1 := by simpa [hi] using hv.symm
      have e2 : ws = (f i).2 := by simpa [hi] using hw.symm
      subst e1 e2
      exact ⟨(hfq i hi).2.1, (hfq i hi).2.2⟩
end
end Opn
end Go.Proofs.Ytcioaoanhmpdkaa
