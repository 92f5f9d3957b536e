import Derived.Test.YtcioaoanhmpdkaaOpG
import Derived.Test.YtcioaoanhmpdkaaPmB
namespace Go.Proofs.Ytcioaoanhmpdkaa
namespace Opn
open Go.ChangeShapes Go.WideShapes Go.ChangeAt Go.RowKit Go.Joins Go.Deep CMath Byt Irw Erw Chk Crw Grp Mq
set_option linter.unusedVariables false
set_option maxRecDepth 100000
theorem cellsOp : Try.prog.cellsOf 54 = 6 := by kernel_rfl
theorem undOp : Try.prog.underlying 23 = some (.slice 54) := by kernel_rfl
theorem list6 {α : Type} {l : List α} (h : l.length = 6) : ∃ c0 c1 c2 c3 c4 c5, l = [c0, c1, c2, c3, c4, c5] := by
  match l, h with
  | [c0, c1, c2, c3, c4, c5], _ => exact ⟨c0, c1, c2, c3, c4, c5, rfl⟩
section
variable {H : Type} {enc : TypeId × Value → H} {w : World} {base : Nat} {spare : Nat → Bool} {held : Bool} {r : Reach} {b0 : Nat}
/-- The cells of one call of the script, from an address on. -/
def OpMAt (w : World) (a : Addr) (o : OpM) : Prop := (w.cell? a = some (.int .i64 o.1) ∧ w.cell? (a.add 1) = some (.bool o.2.1) ∧ w.cell? (a.add 2) = some (.int .u64 o.2.2.1) ∧ w.cell? (a.add 3) = some (.string o.2.2.2.1) ∧ w.cell? (a.add 4) = some (.slice o.2.2.2.2.1.1 o.2.2.2.2.1.2.2.length o.2.2.2.2.1.2.1) ∧ w.cell? (a.add 5) = some (.int .i64 o.2.2.2.2.2)) ∧ OkM w o
theorem one_opM {n : Nat} {a : Addr} {x : DataW H × List MemPlace} (h : ∃ cs', w.cells? base a 6 = some cs' ∧ DataW.trod enc Try.prog w base spare held n 54 cs' = some x) : ∃ o : OpM, OpMAt w a o := by
  obtain ⟨cs, h1, h2⟩ := h
  obtain ⟨_, hlen, hcell⟩ := World.cells?_some h1
  obtain ⟨c0, c1, c2, c3, c4, c5, rfl⟩ := list6 hlen
  obtain ⟨xs, m, _, rfl, hl, hlen2, hf⟩ := DataW.trod_struct Try.underlying54 h2
  obtain ⟨y0, y1, y2, y3, y4, y5, rfl⟩ := list6 (by simpa using hlen2)
  have e0 := hf 0 _ rfl
  have e1 := hf 1 _ rfl
  have e2 := hf 2 _ rfl
  have e3 := hf 3 _ rfl
  have e4 := hf 4 _ rfl
  have e5 := hf 5 _ rfl
  have k9 : Try.prog.cellsOf 3 = 1 := by kernel_rfl
  have k4 : Try.prog.cellsOf 4 = 1 := by kernel_rfl
  have k5 : Try.prog.cellsOf 51 = 1 := by kernel_rfl
  have k6 : Try.prog.cellsOf 9 = 1 := by kernel_rfl
  have k7 := cellsGr
  simp [k4, k9, k5, k6, k7] at e0 e1 e2 e3 e4 e5
  obtain ⟨kd, g0, _, hk⟩ := DataW.trod_int Try.underlying3 e0
  obtain ⟨sd, g1, _⟩ := DataW.trod_bool Try.underlying4 e1
  obtain ⟨xs, g2, _, hu⟩ := DataW.trod_int Try.underlying51 e2
  obtain ⟨xk, g3, _, _⟩ := DataW.trod_string Try.underlying9 e3
  obtain ⟨oa, oc, ws, g4, hw4, hn4⟩ := writes_at e4
  obtain ⟨nn, g5, _, hw⟩ := DataW.trod_int Try.underlying3 e5
  simp at g0 g1 g2 g3 g4 g5
  subst g0 g1 g2 g3 g4 g5
  clear e0 e1 e2 e3 e4 e5 h2
  have hi := i64_wf hw
  obtain ⟨xm, rfl, hxm⟩ := u64_wf hu
  refine ⟨(kd, sd, (xm : Int), xk, (oa, oc, ws), nn), ⟨?_, ?_, ?_, ?_, ?_, ?_⟩, hw4, hn4, ⟨by show (0 : Int) ≤ (xm : Int); omega, by show (xm : Int) ≤ _; omega⟩, hi.1, hi.2⟩
  · simpa [Addr.add] using hcell 0 (by omega)
  · simpa using hcell 1 (by omega)
  · simpa using hcell 2 (by omega)
  · simpa using hcell 3 (by omega)
  · simpa using hcell 4 (by omega)
  · simpa using hcell 5 (by omega)
instance : Inhabited OpM := ⟨omz⟩
/-- A script opened. -/
theorem script {v : Value} {d : DataW H} {p : List MemPlace} (hv : Value.okWide Try.prog w r b0 23 v) (h : DataW.Trod enc Try.prog w base spare held 23 v d p) :
    ∃ (a : Option Addr) (cap : Nat) (l : List OpM), v = .slice a l.length cap ∧ IsM w a l ∧ (l.length : Int) ≤ 9223372036854775807 := by
  obtain ⟨a0, len, cap, rfl⟩ := okWide_slice undOp hv
  obtain ⟨fuel, hf⟩ := h
  rcases open_slice undOp hf with ⟨hcs, _⟩ | ⟨a, l, c, m, n, D, Pl, hcs, _, hl, hm, hmm, hd, hx⟩
  · simp [Value.cells] at hcs
    obtain ⟨rfl, rfl, rfl⟩ := hcs
    exact ⟨none, 0, [], rfl, ⟨fun h => absurd rfl h, by simp⟩, by simp⟩
  · simp [Value.cells] at hcs
    obtain ⟨rfl, rfl, rfl⟩ := hcs
    rw [cellsOp] at hx
    have hlm : len ≤ m := by rw [hmm]; split <;> omega
    have hex : ∀ i, i < len → ∃ q : OpM, OpMAt w (a.add (i * 6)) q := fun i hi => one_opM (hx i (by omega))
    obtain ⟨f, hfq⟩ : ∃ f : Nat → OpM, ∀ i, i < len → OpMAt w (a.add (i * 6)) (f i) := choose_lt hex
    refine ⟨some a, cap, (List.range len).map f, by simp, ⟨fun hne => ?_, fun e he => ?_⟩, by unfold maxLen at hm; simp; omega⟩
    · have h0 : 0 < len := by
        rcases Nat.eq_zero_or_pos len with rfl | h0
        · simp at hne
        · exact h0
      obtain ⟨b, off, sp⟩ := a
      have hsp : sp = none := by
        have := World.cell?_spot (hfq 0 h0).1.1
        simpa [Addr.add] using this
      subst hsp
      refine ⟨b, off, rfl, ?_, fun i x hx' => ?_⟩
      · have := World.block_lt_of_cell? w _ (hfq 0 h0).1.1
        simpa [Addr.add] using this
      · have hi : i < len := by
          have := (List.getElem?_eq_some_iff.1 hx').1
          simpa using this
        have hxe : f i = x := by simpa [hi] using hx'
        subst hxe
        obtain ⟨⟨q0, q1, q2, q3, q4, q5⟩, _⟩ := hfq i hi
        simp only [Irw.add_plain'] at q0 q1 q2 q3 q4 q5
        exact ⟨q0, q1, q2, q3, q4, q5⟩
    · simp only [List.mem_map, List.mem_range] at he
      obtain ⟨i, hi, rfl⟩ := he
      exact (hfq i hi).2
end
end Opn
end Go.Proofs.Ytcioaoanhmpdkaa
