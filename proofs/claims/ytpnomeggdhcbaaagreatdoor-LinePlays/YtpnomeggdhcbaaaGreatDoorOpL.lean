import Derived.Test.YtpnomeggdhcbaaaGreatDoorProg
import Derived.Test.YtpnomeggdhcbaaaGreatDoorLs0
import Derived.ProofKit
import Derived.OpenShut
import Derived.SizedLaws
import Derived.Deep.Slices
import Derived.Deep.Strs
import Derived.Lib.SmallJoins
namespace Go.Proofs.YtpnomeggdhcbaaaGreatDoor
namespace Opn
open Go.ChangeShapes Go.WideShapes Go.ChangeAt Go.RowKit Go.Joins Go.Deep Irw Lin
set_option linter.unusedVariables false
set_option maxRecDepth 100000

theorem own : ownKnob Tryz.prog.godebug = none := by kernel_rfl
theorem laidOut : laidOutB Tryz.prog = true := by kernel_rfl
theorem cells3 : Tryz.prog.cellsOf 3 = 1 := by kernel_rfl
theorem cellsO : Tryz.prog.cellsOf 54 = 3 := by kernel_rfl
theorem list3 {α : Type} {l : List α} (h : l.length = 3) : ∃ c0 c1 c2, l = [c0, c1, c2] := by
  match l, h with
  | [c0, c1, c2], _ => exact ⟨c0, c1, c2, rfl⟩
instance : Inhabited OpD := ⟨⟨0, 0, false⟩⟩

section
variable {H : Type} {enc : TypeId × Value → H} {w : World} {base : Nat} {spare : Nat → Bool} {held : Bool} {r : Reach} {b0 : Nat}

theorem i64_wf {x : Int} (h : (Lit.int .i64 x).wf = true) : -9223372036854775808 ≤ x ∧ x ≤ 9223372036854775807 := by
  have h1 : IntKind.i64.min = -9223372036854775808 := rfl
  have h2 : IntKind.i64.max = 9223372036854775807 := rfl
  simp only [Lit.wf, Bool.and_eq_true, decide_eq_true_eq] at h
  omega

/-- An argument of ints. -/
theorem ints {v : Value} {d : DataW H} {p : List MemPlace} (hv : Value.okWide Tryz.prog w r b0 25 v) (h : DataW.Trod enc Tryz.prog w base spare held 25 v d p) :
    ∃ (a : Option Addr) (cap : Nat) (l : List Int), v = .slice a l.length cap ∧ IsI w a l ∧ (a = none → cap = 0) ∧ l.length ≤ cap ∧ cap ≤ 9223372036854775807 ∧ (∀ x ∈ l, -9223372036854775808 ≤ x ∧ x ≤ 9223372036854775807) := by
  obtain ⟨a0, len, cap, rfl⟩ := okWide_slice Tryz.underlying25 hv
  obtain ⟨fuel, hf⟩ := h
  rcases open_ints Tryz.underlying25 Tryz.underlying3 cells3 hf with ⟨hcs, hx⟩ | ⟨a, len', cap', zs, hcs, _, hl, hm, hz, hx, hcell, hwz⟩
  · simp [Value.cells] at hcs
    obtain ⟨rfl, rfl, rfl⟩ := hcs
    exact ⟨none, 0, [], rfl, IsI.nil _ _, fun _ => rfl, Nat.le_refl _, Nat.zero_le _, by simp⟩
  · simp [Value.cells] at hcs
    obtain ⟨rfl, rfl, rfl⟩ := hcs
    have hlm : len ≤ zs.length := by rw [hz]; split <;> omega
    have hlen : (zs.take len).length = len := by simp; omega
    refine ⟨some a, cap, zs.take len, by rw [hlen], fun hne => ?_, fun e => (by cases e), (by rw [hlen]; exact hl), hm, fun x hx' => i64_wf (hwz x (List.mem_of_mem_take hx'))⟩
    have h0 : 0 < len := by
      rcases Nat.eq_zero_or_pos len with rfl | h0
      · simp at hne
      · exact h0
    obtain ⟨b, off, sp⟩ := a
    have hsp : sp = none := by
      have := World.cell?_spot (hcell 0 (by omega))
      simpa [Addr.add] using this
    subst hsp
    refine ⟨b, off, rfl, ?_, fun i x hx' => ?_⟩
    · have := World.block_lt_of_cell? w _ (hcell 0 (by omega))
      simpa [Addr.add] using this
    · have hi : i < len := by
        have := (List.getElem?_eq_some_iff.1 hx').1
        rw [hlen] at this
        exact this
      have q := hcell i (by omega)
      rw [add_plain'] at q
      rw [q]
      have hzi : i < zs.length := by omega
      have e : zs.getD i 0 = x := by
        simp [hi, hzi] at hx'
        simp [hzi, hx']
      rw [e]

/-- The cells of one call, from an address on. -/
def OpAt (w : World) (a : Addr) (p : OpD) : Prop := w.cell? a = some (.int .i64 p.kind) ∧ w.cell? (a.add 1) = some (.int .i64 p.n) ∧ w.cell? (a.add 2) = some (.bool p.second)
theorem one_op {n : Nat} {a : Addr} {x : DataW H × List MemPlace} (h : ∃ cs', w.cells? base a 3 = some cs' ∧ DataW.trod enc Tryz.prog w base spare held n 54 cs' = some x) : ∃ p : OpD, OpAt w a p := by
  obtain ⟨cs, h1, h2⟩ := h
  obtain ⟨_, hlen, hcell⟩ := World.cells?_some h1
  obtain ⟨c0, c1, c2, rfl⟩ := list3 hlen
  obtain ⟨xs, m, _, rfl, hl, hlen2, hf⟩ := DataW.trod_struct Tryz.underlying54 h2
  obtain ⟨y0, y1, y2, rfl⟩ := list3 (by simpa using hlen2)
  have e0 := hf 0 _ rfl
  have e1 := hf 1 _ rfl
  have e2 := hf 2 _ rfl
  have k3 : Tryz.prog.cellsOf 3 = 1 := by kernel_rfl
  have k4 : Tryz.prog.cellsOf 4 = 1 := by kernel_rfl
  simp [k3, k4] at e0 e1 e2
  obtain ⟨kind, g0, _⟩ := DataW.trod_int Tryz.underlying3 e0
  obtain ⟨nn, g1, _⟩ := DataW.trod_int Tryz.underlying3 e1
  obtain ⟨sd, g2, _⟩ := DataW.trod_bool Tryz.underlying4 e2
  simp at g0 g1 g2
  subst g0 g1 g2
  clear e0 e1 e2 h2
  refine ⟨⟨kind, nn, sd⟩, ?_, ?_, ?_⟩
  · simpa [Addr.add] using hcell 0 (by omega)
  · simpa using hcell 1 (by omega)
  · simpa using hcell 2 (by omega)

/-- A script opened. -/
theorem script {v : Value} {d : DataW H} {p : List MemPlace} (hv : Value.okWide Tryz.prog w r b0 22 v) (h : DataW.Trod enc Tryz.prog w base spare held 22 v d p) :
    ∃ (a : Option Addr) (cap : Nat) (ps : List OpD), v = .slice a ps.length cap ∧ IsOps w a ps := by
  obtain ⟨a0, len, cap, rfl⟩ := okWide_slice Tryz.underlying22 hv
  obtain ⟨fuel, hf⟩ := h
  rcases open_slice Tryz.underlying22 hf with ⟨hcs, _⟩ | ⟨a, l, c, m, n, D, Pl, hcs, _, hl, hm, hmm, _, hx⟩
  · simp [Value.cells] at hcs
    obtain ⟨rfl, rfl, rfl⟩ := hcs
    exact ⟨none, 0, [], rfl, fun hne => absurd rfl hne⟩
  · simp [Value.cells] at hcs
    obtain ⟨rfl, rfl, rfl⟩ := hcs
    rw [cellsO] at hx
    have hlm : len ≤ m := by rw [hmm]; split <;> omega
    have hex : ∀ i, i < len → ∃ q : OpD, OpAt w (a.add (i * 3)) q := fun i hi => one_op (hx i (by omega))
    obtain ⟨f, hfq⟩ : ∃ f : Nat → OpD, ∀ i, i < len → OpAt w (a.add (i * 3)) (f i) := choose_lt hex
    refine ⟨some a, cap, (List.range len).map f, by simp, fun hne => ?_⟩
    have h0 : 0 < len := by
      rcases Nat.eq_zero_or_pos len with rfl | h0
      · simp at hne
      · exact h0
    obtain ⟨b, off, sp⟩ := a
    have hsp : sp = none := by
      have := World.cell?_spot (hfq 0 h0).1
      simpa [Addr.add] using this
    subst hsp
    refine ⟨b, off, rfl, ?_, fun i x hx' => ?_⟩
    · have := World.block_lt_of_cell? w _ (hfq 0 h0).1
      simpa [Addr.add] using this
    · have hi : i < len := by
        have := (List.getElem?_eq_some_iff.1 hx').1
        simpa using this
      have e : x = f i := by simpa [hi] using hx'.symm
      subst e
      obtain ⟨q0, q1, q2⟩ := hfq i hi
      have ad : ∀ t, (⟨b, off, none⟩ : Addr).add t = ⟨b, off + t, none⟩ := fun t => by unfold Addr.add; by_cases ht : t = 0 <;> simp [ht]
      rw [add_add] at q1 q2
      rw [ad] at q0 q1 q2
      exact ⟨q0, q1, q2⟩
end
end Opn
end Go.Proofs.YtpnomeggdhcbaaaGreatDoor
