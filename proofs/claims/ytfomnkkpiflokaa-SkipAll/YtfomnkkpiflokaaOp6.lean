import Derived.Test.YtfomnkkpiflokaaOp5
import Derived.Test.YtfomnkkpiflokaaSa2
namespace Go.Proofs.Ytfomnkkpiflokaa
namespace Opn
open Go.ChangeShapes Go.WideShapes Go.ChangeAt Go.RowKit Go.Joins Go.Deep CMath Byt Irw Erw SkipAll
set_option linter.unusedVariables false
set_option maxRecDepth 100000
theorem cellsOp : Try.prog.cellsOf 55 = 7 := by kernel_rfl
theorem undOp : Try.prog.underlying 23 = some (.slice 55) := by kernel_rfl
theorem bytesOp : Try.prog.bytesOf 55 = 72 := by kernel_rfl
theorem list7 {α : Type} {l : List α} (h : l.length = 7) : ∃ c0 c1 c2 c3 c4 c5 c6, l = [c0, c1, c2, c3, c4, c5, c6] := by
  match l, h with
  | [c0, c1, c2, c3, c4, c5, c6], _ => exact ⟨c0, c1, c2, c3, c4, c5, c6, rfl⟩
section
variable {H : Type} {enc : TypeId × Value → H} {w : World} {base : Nat} {spare : Nat → Bool} {held : Bool} {r : Reach} {b0 : Nat}
theorem en_cells {n : Nat} {c0 c1 c2 c3 : Value} {x : DataW H × List MemPlace} (h2 : DataW.trod enc Try.prog w base spare held n 53 [c0, c1, c2, c3] = some x) : ∃ p : En, c0 = .string p.1 ∧ c1 = .int .u64 p.2.1 ∧ c2 = .bool p.2.2.1 ∧ c3 = .string p.2.2.2 := by
  obtain ⟨xs, m, _, rfl, hl, hlen2, hf⟩ := DataW.trod_struct Try.underlying53 h2
  obtain ⟨y0, y1, y2, y3, rfl⟩ := list4 (by simpa using hlen2)
  have e0 := hf 0 _ rfl
  have e1 := hf 1 _ rfl
  have e2 := hf 2 _ rfl
  have e3 := hf 3 _ rfl
  have k9 : Try.prog.cellsOf 9 = 1 := by kernel_rfl
  have k3 : Try.prog.cellsOf 51 = 1 := by kernel_rfl
  have k4 : Try.prog.cellsOf 4 = 1 := by kernel_rfl
  simp [k3, k4, k9] at e0 e1 e2 e3
  obtain ⟨k, g0, _, hk⟩ := DataW.trod_string Try.underlying9 e0
  obtain ⟨nn, g1, _, hw⟩ := DataW.trod_int Try.underlying51 e1
  obtain ⟨sd, g2, _⟩ := DataW.trod_bool Try.underlying4 e2
  obtain ⟨v, g3, _, hv⟩ := DataW.trod_string Try.underlying9 e3
  simp at g0 g1 g2 g3
  exact ⟨(k, nn, sd, v), g0, g1, g2, g3⟩
/-- The cells of one call of the script, from an address on. -/
def OpAt (w : World) (a : Addr) (o : OpS) : Prop := (w.cell? a = some (.int .i64 o.1) ∧ w.cell? (a.add 1) = some (.bool o.2.1) ∧ w.cell? (a.add 2) = some (.string o.2.2.1.1) ∧ w.cell? (a.add 3) = some (.int .u64 o.2.2.1.2.1) ∧ w.cell? (a.add 4) = some (.bool o.2.2.1.2.2.1) ∧ w.cell? (a.add 5) = some (.string o.2.2.1.2.2.2) ∧ w.cell? (a.add 6) = some (.int .i64 o.2.2.2)) ∧ -9223372036854775808 ≤ o.2.2.2 ∧ o.2.2.2 ≤ 9223372036854775807
theorem one_op {n : Nat} {a : Addr} {x : DataW H × List MemPlace} (h : ∃ cs', w.cells? base a 7 = some cs' ∧ DataW.trod enc Try.prog w base spare held n 55 cs' = some x) : ∃ o : OpS, OpAt w a o := by
  obtain ⟨cs, h1, h2⟩ := h
  obtain ⟨_, hlen, hcell⟩ := World.cells?_some h1
  obtain ⟨c0, c1, c2, c3, c4, c5, c6, rfl⟩ := list7 hlen
  obtain ⟨xs, m, _, rfl, hl, hlen2, hf⟩ := DataW.trod_struct Try.underlying55 h2
  obtain ⟨y0, y1, y2, y3, rfl⟩ := list4 (by simpa using hlen2)
  have e0 := hf 0 _ rfl
  have e1 := hf 1 _ rfl
  have e2 := hf 2 _ rfl
  have e3 := hf 3 _ rfl
  have k9 : Try.prog.cellsOf 3 = 1 := by kernel_rfl
  have k4 : Try.prog.cellsOf 4 = 1 := by kernel_rfl
  have kE := cellsEn
  simp [k4, k9, kE] at e0 e1 e2 e3
  obtain ⟨kd, g0, _, hk⟩ := DataW.trod_int Try.underlying3 e0
  obtain ⟨sd, g1, _⟩ := DataW.trod_bool Try.underlying4 e1
  obtain ⟨p, q0, q1, q2, q3⟩ := en_cells e2
  obtain ⟨nn, g3, _, hw⟩ := DataW.trod_int Try.underlying3 e3
  simp at g0 g1 g3
  subst g0 g1 g3 q0 q1 q2 q3
  clear e0 e1 e2 e3 h2
  have hu := i64_wf hw
  refine ⟨(kd, sd, p, nn), ⟨?_, ?_, ?_, ?_, ?_, ?_, ?_⟩, hu.1, hu.2⟩
  · simpa [Addr.add] using hcell 0 (by omega)
  · simpa using hcell 1 (by omega)
  · simpa using hcell 2 (by omega)
  · simpa using hcell 3 (by omega)
  · simpa using hcell 4 (by omega)
  · simpa using hcell 5 (by omega)
  · simpa using hcell 6 (by omega)
instance : Inhabited OpS := ⟨oz⟩
/-- A script opened. -/
theorem script {v : Value} {d : DataW H} {p : List MemPlace} (hv : Value.okWide Try.prog w r b0 23 v) (h : DataW.Trod enc Try.prog w base spare held 23 v d p) :
    ∃ (a : Option Addr) (cap : Nat) (l : List OpS), v = .slice a l.length cap ∧ IsO w a l ∧ (l = [] ∨ ∃ es sp, d = .slice es sp ∧ es.length = l.length) ∧ ∀ o ∈ l, -9223372036854775808 ≤ o.2.2.2 ∧ o.2.2.2 ≤ 9223372036854775807 := by
  obtain ⟨a0, len, cap, rfl⟩ := okWide_slice undOp hv
  obtain ⟨fuel, hf⟩ := h
  rcases open_slice undOp hf with ⟨hcs, _⟩ | ⟨a, l, c, m, n, D, Pl, hcs, _, hl, hm, hmm, hd, hx⟩
  · simp [Value.cells] at hcs
    obtain ⟨rfl, rfl, rfl⟩ := hcs
    exact ⟨none, 0, [], rfl, fun h => absurd rfl h, .inl rfl, by simp⟩
  · simp [Value.cells] at hcs
    obtain ⟨rfl, rfl, rfl⟩ := hcs
    rw [cellsOp] at hx
    have hlm : len ≤ m := by rw [hmm]; split <;> omega
    have hex : ∀ i, i < len → ∃ q : OpS, OpAt w (a.add (i * 7)) q := fun i hi => one_op (hx i (by omega))
    obtain ⟨f, hfq⟩ : ∃ f : Nat → OpS, ∀ i, i < len → OpAt w (a.add (i * 7)) (f i) := choose_lt hex
    refine ⟨some a, cap, (List.range len).map f, by simp, fun hne => ?_, .inr ⟨_, _, congrArg Prod.fst hd, by simp⟩, fun e he => ?_⟩
    · have h0 : 0 < len := by
        rcases Nat.eq_zero_or_pos len with rfl | h0
        · simp at hne
        · exact h0
      obtain ⟨b, off, sp⟩ := a
      have hsp : sp = none := by
        have := World.cell?_spot (hfq 0 h0).1.1
        simpa [Addr.add] using this
      subst hsp
      refine ⟨b, off, rfl, ?_, fun i x hx' => ?_⟩
      · have := World.block_lt_of_cell? w _ (hfq 0 h0).1.1
        simpa [Addr.add] using this
      · have hi : i < len := by
          have := (List.getElem?_eq_some_iff.1 hx').1
          simpa using this
        have hxe : f i = x := by simpa [hi] using hx'
        subst hxe
        obtain ⟨⟨q0, q1, q2, q3, q4, q5, q6⟩, _⟩ := hfq i hi
        simp only [Irw.add_plain'] at q0 q1 q2 q3 q4 q5 q6
        exact ⟨q0, q1, q2, q3, q4, q5, q6⟩
    · simp only [List.mem_map, List.mem_range] at he
      obtain ⟨i, hi, rfl⟩ := he
      exact (hfq i hi).2
theorem reachO {ts : List TypeId} {ds : List (DataW H)} {l : List OpS} {d : DataW H} {j : Nat} (hsz : (DataW.weightsEach Try.prog ts ds).all (· ≤ reachBytes) = true) (ht : ts[j]? = some 23) (hd : ds[j]? = some d)
    (h : l = [] ∨ ∃ es sp, d = .slice es sp ∧ es.length = l.length) : l.length ≤ 1954687338268 := by
  rcases h with rfl | ⟨es, sp, rfl, h⟩
  · simp
  · have := sized_slice hsz ht hd undOp
    rw [bytesOp] at this
    simp only [reachBytes] at this
    omega
end
end Opn
end Go.Proofs.Ytfomnkkpiflokaa
