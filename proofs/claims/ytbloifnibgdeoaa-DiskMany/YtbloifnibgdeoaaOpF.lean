import Derived.Test.YtbloifnibgdeoaaProg
import Derived.Test.YtbloifnibgdeoaaByt
import Derived.ProofKit
import Derived.OpenShut
import Derived.SizedLaws
import Derived.Test.YtbloifnibgdeoaaDKno
import Derived.WalkKit
import Derived.ShutString
import Derived.Deep.Slices
import Derived.Deep.Strs
import Derived.Lib.SmallJoins
import Derived.Test.YtbloifnibgdeoaaDp5
namespace Go.Proofs.Ytbloifnibgdeoaa
namespace Opn
open Go.ChangeShapes Go.WideShapes Go.ChangeAt Go.RowKit CMath Byt
set_option linter.unusedVariables false
set_option maxRecDepth 100000

theorem own : ownKnob Try.prog.godebug = none := by kernel_rfl
theorem laidOut : laidOutB Try.prog = true := by kernel_rfl
theorem cells8 : Try.prog.cellsOf 5 = 1 := by kernel_rfl
theorem bytes8 : Try.prog.bytesOf 5 = 1 := by kernel_rfl

section
variable {H : Type} {enc : TypeId × Value → H} {w : World} {base : Nat} {spare : Nat → Bool} {held : Bool} {r : Reach} {b0 : Nat}

theorem byte_wf {x : Int} (h : (Lit.int .u8 x).wf = true) : 0 ≤ x ∧ x < 256 := by
  have h1 : IntKind.u8.min = 0 := rfl
  have h2 : IntKind.u8.max = 255 := rfl
  simp only [Lit.wf, Bool.and_eq_true, decide_eq_true_eq] at h
  omega
theorem u64_wf {x : Int} (h : (Lit.int .u64 x).wf = true) : ∃ n : Nat, x = n ∧ n < 18446744073709551616 := by
  have h1 : IntKind.u64.min = 0 := rfl
  have h2 : IntKind.u64.max = 18446744073709551615 := rfl
  simp only [Lit.wf, Bool.and_eq_true, decide_eq_true_eq] at h
  exact ⟨x.toNat, by omega, by omega⟩
theorem i64_wf {x : Int} (h : (Lit.int .i64 x).wf = true) : -9223372036854775808 ≤ x ∧ x ≤ 9223372036854775807 := by
  have h1 : IntKind.i64.min = -9223372036854775808 := rfl
  have h2 : IntKind.i64.max = 9223372036854775807 := rfl
  simp only [Lit.wf, Bool.and_eq_true, decide_eq_true_eq] at h
  omega

/-- An argument of bytes. -/
theorem bytes {v : Value} {d : DataW H} {p : List MemPlace} (hv : Value.okWide Try.prog w r b0 30 v) (h : DataW.Trod enc Try.prog w base spare held 30 v d p) :
    ∃ (a : Option Addr) (cap : Nat) (l : List Nat), v = .slice a l.length cap ∧ IsB w a l ∧ (a = none → cap = 0) ∧ l.length ≤ cap ∧ cap ≤ 9223372036854775807 ∧ (l = [] ∨ ∃ es sp, d = .slice es sp ∧ es.length = l.length) := by
  obtain ⟨a0, len, cap, rfl⟩ := okWide_slice Try.underlying30 hv
  obtain ⟨fuel, hf⟩ := h
  rcases open_ints Try.underlying30 Try.underlying5 cells8 hf with ⟨hcs, hx⟩ | ⟨a, len', cap', zs, hcs, _, hl, hm, hz, hx, hcell, hwz⟩
  · simp [Value.cells] at hcs
    obtain ⟨rfl, rfl, rfl⟩ := hcs
    exact ⟨none, 0, [], rfl, IsB.nil _ _, fun _ => rfl, Nat.le_refl _, Nat.zero_le _, .inl rfl⟩
  · simp [Value.cells] at hcs
    obtain ⟨rfl, rfl, rfl⟩ := hcs
    simp only [Prod.mk.injEq] at hx
    obtain ⟨rfl, rfl⟩ := hx
    have hlm : len ≤ zs.length := by rw [hz]; split <;> omega
    have hlen : ((zs.take len).map Int.toNat).length = len := by simp; omega
    refine ⟨some a, cap, (zs.take len).map Int.toNat, by rw [hlen], ⟨fun hne => ?_, ?_⟩, fun e => (by cases e), (by rw [hlen]; exact hl), hm, .inr ⟨_, _, rfl, by simp [lits]⟩⟩
    · have h0 : 0 < len := by
        rcases Nat.eq_zero_or_pos len with rfl | h0
        · simp at hne
        · exact h0
      obtain ⟨b, off, sp⟩ := a
      have hsp : sp = none := by
        have := World.cell?_spot (hcell 0 (by omega))
        simpa [Addr.add] using this
      subst hsp
      refine ⟨b, off, rfl, ?_, fun i x hx' => ?_⟩
      · have := World.block_lt_of_cell? w _ (hcell 0 (by omega))
        simpa [Addr.add] using this
      · have hi : i < len := by
          have := (List.getElem?_eq_some_iff.1 hx').1
          rw [hlen] at this
          exact this
        have q := hcell i (by omega)
        rw [add_plain'] at q
        rw [q]
        have hzi : i < zs.length := by omega
        have e : x = (zs[i]).toNat := by
          simp [hi, hzi] at hx'
          exact hx'.symm
        have hb := byte_wf (hwz _ (List.getElem_mem hzi))
        have e2 : zs.getD i 0 = ((x : Nat) : Int) := by
          rw [e]
          simp [List.getD, hzi]
          omega
        rw [e2]
    · intro x hx'
      obtain ⟨y, hy, rfl⟩ := List.mem_map.1 hx'
      have hb := byte_wf (hwz y (List.mem_of_mem_take hy))
      omega
theorem reach {P : Program} {ts : List TypeId} {ds : List (DataW H)} {t e : TypeId} {l : List Nat} {d : DataW H} {j : Nat} (hsz : (DataW.weightsEach P ts ds).all (· ≤ reachBytes) = true) (ht : ts[j]? = some t) (hd : ds[j]? = some d) (hu : P.underlying t = some (.slice e)) (hb : P.bytesOf e = 1)
    (h : l = [] ∨ ∃ es sp, d = .slice es sp ∧ es.length = l.length) : l.length + 4096 ≤ 140737488355328 := by
  rcases h with rfl | ⟨es, sp, rfl, h⟩
  · simp
  · have := sized_slice hsz ht hd hu
    rw [hb] at this
    simp only [reachBytes] at this
    omega
end
end Opn
end Go.Proofs.Ytbloifnibgdeoaa
namespace Go.Proofs.Ytbloifnibgdeoaa
namespace Opn
open Go.ChangeShapes Go.WideShapes Go.ChangeAt Go.RowKit Go.Joins Go.Deep CMath Byt Dsk
set_option linter.unusedVariables false
set_option linter.unusedSimpArgs false
set_option maxRecDepth 100000
theorem cI : Try.prog.cellsOf 3 = 1 := by kernel_rfl
theorem cS : Try.prog.cellsOf 9 = 1 := by kernel_rfl
theorem cLB : Try.prog.cellsOf 30 = 1 := by kernel_rfl
theorem cLI : Try.prog.cellsOf 31 = 1 := by kernel_rfl
theorem cOp : Try.prog.cellsOf 33 = 8 := by kernel_rfl
theorem bI : Try.prog.bytesOf 3 = 8 := by kernel_rfl
theorem l8 {α : Type} {l : List α} (h : l.length = 8) : ∃ c0 c1 c2 c3 c4 c5 c6 c7, l = [c0, c1, c2, c3, c4, c5, c6, c7] := by
  match l, h with
  | [c0, c1, c2, c3, c4, c5, c6, c7], _ => exact ⟨c0, c1, c2, c3, c4, c5, c6, c7, rfl⟩
section
variable {H : Type} {enc : TypeId × Value → H} {w : World} {base : Nat} {spare : Nat → Bool} {held : Bool} {r : Reach} {b0 : Nat}
/-- what is read weighs no more than memory holds -/
def Wt (t : TypeId) (d : DataW H) : Prop := ∀ m ∈ d.weights Try.prog t, m ≤ reachBytes
theorem weightsAll_in {e : TypeId} : ∀ {l : List (DataW H)} {d : DataW H}, d ∈ l → ∀ n ∈ d.weights Try.prog e, n ∈ DataW.weightsAll Try.prog e l
  | d' :: r, d, hd, n, hn => by
    simp only [DataW.weightsAll, List.mem_append]
    rcases List.mem_cons.1 hd with rfl | h
    · exact Or.inl hn
    · exact Or.inr (weightsAll_in h n hn)
theorem Wt.field {t : TypeId} {fs : Array Field} {xs : List (DataW H × List MemPlace)} {f : Field} {y : DataW H × List MemPlace} (ht : Try.prog.underlying t = some (.struct fs)) (hw : Wt t (DataW.agg (xs.map (·.1)))) (i : Nat) (hf : fs[i]? = some f) (hx : xs[i]? = some y) : Wt f.type y.1 := fun m hm => by
  refine hw m ?_
  simp only [DataW.weights, ht]
  exact DataW.weights_mem_each (j := i) (t := f.type) (d := y.1) (by simpa using congrArg (Option.map Field.type) hf) (by simpa using congrArg (Option.map Prod.fst) hx) m hm
theorem bytes_in {n : Nat} {cs : List Value} {x : DataW H × List MemPlace} (h : DataW.trod enc Try.prog w base spare held n 30 cs = some x) (hw : Wt 30 x.1) :
    ∃ (a : Option Addr) (cap : Nat) (l : List Nat), cs = [.slice a l.length cap] ∧ IsB w a l ∧ (a = none → cap = 0) ∧ l.length ≤ cap ∧ cap ≤ 9223372036854775807 ∧ l.length ≤ 140737488355328 := by
  rcases open_ints Try.underlying30 Try.underlying5 cells8 h with ⟨hcs, hx⟩ | ⟨a, len, cap, zs, hcs, _, hl, hm, hz, hx, hcell, hwz⟩
  · exact ⟨none, 0, [], hcs, IsB.nil _ _, fun _ => rfl, Nat.le_refl _, Nat.zero_le _, by simp⟩
  · have hlm : len ≤ zs.length := by rw [hz]; split <;> omega
    have hlen : ((zs.take len).map Int.toNat).length = len := by simp; omega
    have hbig : len ≤ 140737488355328 := by
      rw [hx] at hw
      have z := hw _ (by simp only [DataW.weights, Try.underlying30]; exact List.mem_cons_self ..)
      rw [bytes8] at z
      simp only [reachBytes, lits, List.length_map, List.length_take, List.length_drop] at z
      omega
    refine ⟨some a, cap, (zs.take len).map Int.toNat, by rw [hlen]; exact hcs, ⟨fun hne => ?_, ?_⟩, fun e => (by cases e), (by rw [hlen]; exact hl), hm, by rw [hlen]; exact hbig⟩
    · have h0 : 0 < len := by
        rcases Nat.eq_zero_or_pos len with rfl | h0
        · simp at hne
        · exact h0
      obtain ⟨b, off, sp⟩ := a
      have hsp : sp = none := by
        have := World.cell?_spot (hcell 0 (by omega))
        simpa [Addr.add] using this
      subst hsp
      refine ⟨b, off, rfl, ?_, fun i x hx' => ?_⟩
      · have := World.block_lt_of_cell? w _ (hcell 0 (by omega))
        simpa [Addr.add] using this
      · have hi : i < len := by
          have := (List.getElem?_eq_some_iff.1 hx').1
          rw [hlen] at this
          exact this
        have q := hcell i (by omega)
        rw [add_plain'] at q
        rw [q]
        have hzi : i < zs.length := by omega
        have e : x = (zs[i]).toNat := by
          simp [hi, hzi] at hx'
          exact hx'.symm
        have hb := byte_wf (hwz _ (List.getElem_mem hzi))
        have e2 : zs.getD i 0 = ((x : Nat) : Int) := by
          rw [e]
          simp [List.getD, hzi]
          omega
        rw [e2]
    · intro x hx'
      obtain ⟨y, hy, rfl⟩ := List.mem_map.1 hx'
      have hb := byte_wf (hwz y (List.mem_of_mem_take hy))
      omega
theorem ints_in {n : Nat} {cs : List Value} {x : DataW H × List MemPlace} (h : DataW.trod enc Try.prog w base spare held n 31 cs = some x) :
    ∃ (a : Option Addr) (cap : Nat) (l : List Int), cs = [.slice a l.length cap] ∧ IntsAt w a l ∧ (a = none → cap = 0) ∧ l.length ≤ cap ∧ cap ≤ 9223372036854775807 ∧ (∀ v ∈ l, v ≤ 9223372036854775807) ∧ (Wt 31 x.1 → l.length ≤ 140737488355328) := by
  rcases open_ints Try.underlying31 Try.underlying3 cI h with ⟨hcs, hx⟩ | ⟨a, len, cap, zs, hcs, _, hl, hm, hz, hx, hcell, hwz⟩
  · exact ⟨none, 0, [], hcs, (fun j x hx => by simp at hx), fun _ => rfl, Nat.le_refl _, Nat.zero_le _, by simp, by simp⟩
  · have hlm : len ≤ zs.length := by rw [hz]; split <;> omega
    have hlen : (zs.take len).length = len := by simp; omega
    refine ⟨some a, cap, zs.take len, by rw [hlen]; exact hcs, fun i x hx' => ?_, fun e => (by cases e), (by rw [hlen]; exact hl), hm, fun x hx' => (i64_wf (hwz x (List.mem_of_mem_take hx'))).2, fun hw => ?_⟩
    · obtain ⟨b, off, sp⟩ := a
      have hi : i < len := by
        have := (List.getElem?_eq_some_iff.1 hx').1
        rw [hlen] at this
        exact this
      have hsp : sp = none := by
        have := World.cell?_spot (hcell 0 (by omega))
        simpa [Addr.add] using this
      subst hsp
      have q := hcell i (by omega)
      rw [add_plain'] at q
      refine ⟨b, off, rfl, ?_⟩
      rw [q]
      have hzi : i < zs.length := by omega
      have e : zs.getD i 0 = x := by
        simp [hi, hzi] at hx'
        simp [hzi, hx']
      rw [e]
    · rw [hx] at hw
      have z := hw _ (by simp only [DataW.weights, Try.underlying31]; exact List.mem_cons_self ..)
      rw [bI] at z
      simp only [reachBytes, lits, List.length_map, List.length_take, List.length_drop] at z
      rw [List.length_take]
      omega
/-- An argument of ints. -/
theorem ints {v : Value} {d : DataW H} {p : List MemPlace} (hv : Value.okWide Try.prog w r b0 31 v) (h : DataW.Trod enc Try.prog w base spare held 31 v d p) :
    ∃ (a : Option Addr) (cap : Nat) (l : List Int), v = .slice a l.length cap ∧ IntsAt w a l ∧ (a = none → cap = 0) ∧ l.length ≤ cap ∧ cap ≤ 9223372036854775807 ∧ (∀ x ∈ l, x ≤ 9223372036854775807) := by
  obtain ⟨a0, len, cap, rfl⟩ := okWide_slice Try.underlying31 hv
  obtain ⟨fuel, hf⟩ := h
  obtain ⟨a, cap', l, hcs, h1, h2, h3, h4, h5, _⟩ := ints_in hf
  simp [Value.cells] at hcs
  obtain ⟨rfl, rfl, rfl⟩ := hcs
  exact ⟨_, _, l, rfl, h1, h2, h3, h4, h5⟩
/-- what one call is -/
def OAt (w : World) (a : Addr) (o : OpD) : Prop := (∀ t u, o.cells[t]? = some u → w.cell? (a.add t) = some u) ∧ OpOk w o
theorem one_op {n : Nat} {a : Addr} {x : DataW H × List MemPlace} (hw : Wt 33 x.1) (h : ∃ cs', w.cells? base a 8 = some cs' ∧ DataW.trod enc Try.prog w base spare held n 33 cs' = some x) : ∃ o, OAt w a o := by
  obtain ⟨cs, h1, h2⟩ := h
  obtain ⟨_, hlen, hcell⟩ := World.cells?_some h1
  obtain ⟨c0, c1, c2, c3, c4, c5, c6, c7, rfl⟩ := l8 hlen
  obtain ⟨xs, m, _, rfl, hl, hlen2, hf⟩ := DataW.trod_struct Try.underlying33 h2
  obtain ⟨y0, y1, y2, y3, y4, y5, y6, y7, rfl⟩ := l8 (by simpa using hlen2)
  have e0 := hf 0 _ rfl
  have e1 := hf 1 _ rfl
  have e2 := hf 2 _ rfl
  have e3 := hf 3 _ rfl
  have e4 := hf 4 _ rfl
  have e5 := hf 5 _ rfl
  have e6 := hf 6 _ rfl
  have e7 := hf 7 _ rfl
  have w3 := Wt.field Try.underlying33 hw 3 rfl rfl
  have w7 := Wt.field Try.underlying33 hw 7 rfl rfl
  simp [cI, cS, cLB, cLI] at e0 e1 e2 e3 e4 e5 e6 e7
  obtain ⟨kd, g0, _, f0⟩ := DataW.trod_int Try.underlying3 e0
  obtain ⟨nm, g1, _, f1⟩ := DataW.trod_string Try.underlying9 e1
  obtain ⟨too, g2, _, f2⟩ := DataW.trod_string Try.underlying9 e2
  obtain ⟨da, dc, dl, g3, q1, q2, q3, q4, q5⟩ := bytes_in e3 w3
  obtain ⟨n4, g4, _, f4⟩ := DataW.trod_int Try.underlying3 e4
  obtain ⟨n5, g5, _, f5⟩ := DataW.trod_int Try.underlying3 e5
  obtain ⟨n6, g6, _, f6⟩ := DataW.trod_int Try.underlying3 e6
  obtain ⟨ka, kc, kl, g7, p1, p2, p3, p4, p5, p6⟩ := ints_in e7
  simp at g0 g1 g2 g3 g4 g5 g6 g7
  subst g0 g1 g2 g3 g4 g5 g6 g7
  have i0 := i64_wf f0
  have i4 := i64_wf f4
  have i5 := i64_wf f5
  have i6 := i64_wf f6
  refine ⟨⟨kd, nm, too, dl, da, dc, n4, n5, n6, kl, ka, kc⟩, fun t u hu => ?_, ⟨q1, q2, q3, q4, p1, p2, p3, p4, p5, ⟨f1, f2⟩, ⟨q5, p6 w7⟩, ⟨⟨i0.2, i0.1⟩, i4.2, i5.2, i6.2⟩⟩⟩
  have ht : t < 8 := (List.getElem?_eq_some_iff.1 hu).1
  rw [hcell t ht]
  exact hu
instance : Inhabited OpD := ⟨⟨0, ⟨#[]⟩, ⟨#[]⟩, [], none, 0, 0, 0, 0, [], none, 0⟩⟩
/-- An argument []Op. -/
theorem opsD {v : Value} {d : DataW H} {p : List MemPlace} (hv : Value.okWide Try.prog w r b0 23 v) (h : DataW.Trod enc Try.prog w base spare held 23 v d p) (hw : Wt 23 d) :
    ∃ (a : Option Addr) (cap : Nat) (os : List OpD), v = .slice a os.length cap ∧ OpsAt w a os ∧ os.length ≤ cap ∧ cap ≤ 9223372036854775807 := by
  obtain ⟨a0, len, cap, rfl⟩ := okWide_slice Try.underlying23 hv
  obtain ⟨fuel, hf⟩ := h
  rcases open_slice Try.underlying23 hf with ⟨hcs, _⟩ | ⟨a, l, c, m, n, D, Pl, hcs, _, hl, hm, hmm, hd, hx⟩
  · simp [Value.cells] at hcs
    obtain ⟨rfl, rfl, rfl⟩ := hcs
    exact ⟨none, 0, [], rfl, ⟨fun k o ho => by simp at ho, by simp⟩, Nat.le_refl _, Nat.zero_le _⟩
  · simp [Value.cells] at hcs
    obtain ⟨rfl, rfl, rfl⟩ := hcs
    rw [cOp] at hx
    have hlm : len ≤ m := by rw [hmm]; split <;> omega
    have hd1 := congrArg Prod.fst hd
    have hd2 : d = .slice ((List.range len).map D) ((List.range (m - len)).map fun j => D (len + j)) := hd1
    subst hd2
    have hex : ∀ i, i < len → ∃ o : OpD, OAt w (a.add (i * 8)) o := fun i hi => one_op (x := (D i, Pl i)) (fun mm hmm' => hw mm (by
        simp only [DataW.weights, Try.underlying23, List.mem_cons, List.mem_append]
        exact Or.inr (Or.inl (weightsAll_in (List.mem_map.2 ⟨i, List.mem_range.2 hi, rfl⟩) mm hmm')))) (hx i (by omega))
    obtain ⟨f, hfq⟩ : ∃ f : Nat → OpD, ∀ i, i < len → OAt w (a.add (i * 8)) (f i) := choose_lt hex
    refine ⟨some a, cap, (List.range len).map f, by simp, ⟨fun k o ho => ?_, fun o ho => ?_⟩, by simpa using hl, hm⟩
    · have hi : k < len := by
        have := (List.getElem?_eq_some_iff.1 ho).1
        simpa using this
      have e1 : f k = o := by simpa [hi] using ho
      subst e1
      obtain ⟨b, off, sp⟩ := a
      have hsp : sp = none := by
        have := World.cell?_spot ((hfq 0 (by omega)).1 0 _ rfl)
        simpa [Addr.add] using this
      subst hsp
      refine ⟨b, off, rfl, ?_, fun t ht => ?_⟩
      · have := World.block_lt_of_cell? w _ ((hfq 0 (by omega)).1 0 _ rfl)
        simpa [Addr.add] using this
      · have hc : t < (f k).cells.length := ht
        rw [List.getElem?_eq_getElem hc]
        have q := (hfq k hi).1 t _ (List.getElem?_eq_getElem hc)
        rw [add_plain', add_plain'] at q
        exact q
    · obtain ⟨i, hi, rfl⟩ := List.mem_map.1 ho
      exact (hfq i (by simpa using hi)).2
theorem wt_arg {ts : List TypeId} {ds : List (DataW H)} {d : DataW H} {t : TypeId} {j : Nat} (hsz : (DataW.weightsEach Try.prog ts ds).all (· ≤ reachBytes) = true) (ht : ts[j]? = some t) (hd : ds[j]? = some d) : Wt t d := fun m hm => by
  have := List.all_eq_true.1 hsz _ (DataW.weights_mem_each ht hd m hm)
  simpa using this
end
end Opn
end Go.Proofs.Ytbloifnibgdeoaa
namespace Go.Proofs.Ytbloifnibgdeoaa
namespace Opn
open Go.ChangeShapes Go.WideShapes Go.ChangeAt Go.RowKit Go.Joins Go.Deep CMath Byt Dsk
set_option linter.unusedVariables false
set_option maxRecDepth 100000
theorem undF : Try.prog.underlying 22 = some (.slice 67) := by kernel_rfl
theorem cellsF : Try.prog.cellsOf 67 = 3 := by kernel_rfl
theorem bytesF : Try.prog.bytesOf 67 = 48 := by kernel_rfl
section
variable {H : Type} {enc : TypeId × Value → H} {w : World} {base : Nat} {spare : Nat → Bool} {held : Bool} {r : Reach} {b0 : Nat}
theorem bytesF_at {n : Nat} {cs : List Value} {x : DataW H × List MemPlace} (h : DataW.trod enc Try.prog w base spare held n 30 cs = some x) :
    ∃ (a : Option Addr) (cap : Nat) (l : List Nat), cs = [.slice a l.length cap] ∧ IsB w a l ∧ (a = none → cap = 0) ∧ l.length ≤ cap ∧ cap ≤ 9223372036854775807 ∧ (l = [] ∨ ∃ es sp, x.1 = .slice es sp ∧ es.length = l.length) := by
  rcases open_ints Try.underlying30 Try.underlying5 cells8 h with ⟨hcs, hx⟩ | ⟨a, len, cap, zs, hcs, _, hl, hm, hz, hx, hcell, hwz⟩
  · exact ⟨none, 0, [], hcs, IsB.nil _ _, fun _ => rfl, Nat.le_refl _, Nat.zero_le _, .inl rfl⟩
  · have hlm : len ≤ zs.length := by rw [hz]; split <;> omega
    have hlen : ((zs.take len).map Int.toNat).length = len := by simp; omega
    refine ⟨some a, cap, (zs.take len).map Int.toNat, by rw [hlen]; exact hcs, ⟨fun hne => ?_, ?_⟩, fun e => (by cases e), (by rw [hlen]; exact hl), hm, .inr ⟨_, _, by rw [hx], by rw [hlen]; simp [lits]; omega⟩⟩
    · have h0 : 0 < len := by
        rcases Nat.eq_zero_or_pos len with rfl | h0
        · simp at hne
        · exact h0
      obtain ⟨b, off, sp⟩ := a
      have hsp : sp = none := by
        have := World.cell?_spot (hcell 0 (by omega))
        simpa [Addr.add] using this
      subst hsp
      refine ⟨b, off, rfl, ?_, fun i x hx' => ?_⟩
      · have := World.block_lt_of_cell? w _ (hcell 0 (by omega))
        simpa [Addr.add] using this
      · have hi : i < len := by
          have := (List.getElem?_eq_some_iff.1 hx').1
          rw [hlen] at this
          exact this
        have q := hcell i (by omega)
        rw [add_plain'] at q
        rw [q]
        have hzi : i < zs.length := by omega
        have e : x = (zs[i]).toNat := by
          simp [hi, hzi] at hx'
          exact hx'.symm
        have hb := byte_wf (hwz _ (List.getElem_mem hzi))
        have e2 : zs.getD i 0 = ((x : Nat) : Int) := by
          rw [e]
          simp [List.getD, hzi]
          omega
        rw [e2]
    · intro x hx'
      obtain ⟨y, hy, rfl⟩ := List.mem_map.1 hx'
      have hb := byte_wf (hwz y (List.mem_of_mem_take hy))
      omega
theorem list3f {α : Type} {l : List α} (h : l.length = 3) : ∃ c0 c1 c2, l = [c0, c1, c2] := by
  match l, h with
  | [c0, c1, c2], _ => exact ⟨c0, c1, c2, rfl⟩
/-- what one file is -/
def FAt (w : World) (a : Addr) (D : DataW H) (q : Fj × Option Addr × Nat) : Prop := (w.cell? a = some (.string q.1.name) ∧ w.cell? (a.add 1) = some (.slice q.2.1 q.1.data.length q.2.2) ∧ w.cell? (a.add 2) = some (.int .i64 q.1.sure)) ∧ IsB w q.2.1 q.1.data ∧ (q.2.1 = none → q.2.2 = 0) ∧ q.1.data.length ≤ q.2.2 ∧ q.2.2 ≤ 9223372036854775807 ∧ q.1.name.size ≤ maxLen ∧ -9223372036854775808 ≤ q.1.sure ∧ q.1.sure ≤ 9223372036854775807 ∧ (q.1.data = [] ∨ ∃ d0 es sp d2, D = .agg [d0, .slice es sp, d2] ∧ es.length = q.1.data.length)
theorem one_file {n : Nat} {a : Addr} {x : DataW H × List MemPlace} (h : ∃ cs', w.cells? base a 3 = some cs' ∧ DataW.trod enc Try.prog w base spare held n 67 cs' = some x) : ∃ q, FAt w a x.1 q := by
  obtain ⟨cs, h1, h2⟩ := h
  obtain ⟨_, hlen, hcell⟩ := World.cells?_some h1
  obtain ⟨c0, c1, c2, rfl⟩ := list3f hlen
  obtain ⟨xs, m, _, rfl, hl, hlen2, hf⟩ := DataW.trod_struct Try.underlying67 h2
  obtain ⟨y0, y1, y2, rfl⟩ := list3f (by simpa using hlen2)
  have e0 := hf 0 _ rfl
  have e1 := hf 1 _ rfl
  have e2 := hf 2 _ rfl
  have k9 : Try.prog.cellsOf 3 = 1 := by kernel_rfl
  have k4 : Try.prog.cellsOf 30 = 1 := by kernel_rfl
  have k6 : Try.prog.cellsOf 9 = 1 := by kernel_rfl
  simp [k4, k9, k6] at e0 e1 e2
  obtain ⟨nm, g0, _, hk⟩ := DataW.trod_string Try.underlying9 e0
  obtain ⟨da, dc, dl, g1, hib, hn1, hl1, hm1, hd1⟩ := bytesF_at e1
  obtain ⟨su, g2, _, hw⟩ := DataW.trod_int Try.underlying3 e2
  simp at g0 g1 g2
  subst g0 g1 g2
  have hi := i64_wf hw
  refine ⟨(⟨nm, dl, su⟩, da, dc), ⟨?_, ?_, ?_⟩, hib, hn1, hl1, hm1, hk, hi.1, hi.2, ?_⟩
  · simpa [Addr.add] using hcell 0 (by omega)
  · simpa using hcell 1 (by omega)
  · simpa using hcell 2 (by omega)
  · rcases hd1 with h | ⟨es, sp, h3, h4⟩
    · exact .inl h
    · exact .inr ⟨y0.1, es, sp, y2.1, by simp [h3], h4⟩
instance : Inhabited (Fj × Option Addr × Nat) := ⟨(⟨⟨#[]⟩, [], 0⟩, none, 0)⟩
theorem files {v : Value} {d : DataW H} {p : List MemPlace} (hv : Value.okWide Try.prog w r b0 22 v) (h : DataW.Trod enc Try.prog w base spare held 22 v d p) :
    ∃ (a : Option Addr) (cap : Nat) (fs : List Fj) (ds : List (Option Addr × Nat)), v = .slice a fs.length cap ∧ FjAt w a fs ds ∧ fs.length ≤ cap ∧ cap ≤ 9223372036854775807 ∧ (fs = [] ∨ ∃ es sp, d = .slice es sp ∧ es.length = fs.length ∧ ∀ f ∈ fs, f.data = [] ∨ ∃ d0 es' sp' d2, .agg [d0, .slice es' sp', d2] ∈ es ∧ es'.length = f.data.length) := by
  obtain ⟨a0, len, cap, rfl⟩ := okWide_slice undF hv
  obtain ⟨fuel, hf⟩ := h
  rcases open_slice undF hf with ⟨hcs, _⟩ | ⟨a, l, c, m, n, D, Pl, hcs, _, hl, hm, hmm, hd, hx⟩
  · simp [Value.cells] at hcs
    obtain ⟨rfl, rfl, rfl⟩ := hcs
    exact ⟨none, 0, [], [], rfl, ⟨rfl, fun j f x hf => by simp at hf⟩, Nat.le_refl _, Nat.zero_le _, .inl rfl⟩
  · simp [Value.cells] at hcs
    obtain ⟨rfl, rfl, rfl⟩ := hcs
    rw [cellsF] at hx
    have hlm : len ≤ m := by rw [hmm]; split <;> omega
    have hex : ∀ i, i < len → ∃ q : Fj × Option Addr × Nat, FAt w (a.add (i * 3)) (D i) q := fun i hi => one_file (hx i (by omega))
    obtain ⟨f, hfq⟩ : ∃ f : Nat → Fj × Option Addr × Nat, ∀ i, i < len → FAt w (a.add (i * 3)) (D i) (f i) := choose_lt hex
    refine ⟨some a, cap, (List.range len).map (fun i => (f i).1), (List.range len).map (fun i => (f i).2), by simp, ⟨by simp, fun j g x hg hx' => ?_⟩, by simpa using hl, by unfold maxLen at hm; exact hm, .inr ⟨_, _, congrArg Prod.fst hd, by simp, fun g hg => ?_⟩⟩
    · have hi : j < len := by
        have := (List.getElem?_eq_some_iff.1 hg).1
        simpa using this
      have e1 : (f j).1 = g := by simpa [hi] using hg
      have e2 : (f j).2 = x := by simpa [hi] using hx'
      subst e1 e2
      obtain ⟨⟨q0, q1, q2⟩, h1, h2, h3, h4, h5, h6, h7, _⟩ := hfq j hi
      obtain ⟨b, off, sp⟩ := a
      have hsp : sp = none := by
        have := World.cell?_spot (hfq 0 (by omega)).1.1
        simpa [Addr.add] using this
      subst hsp
      simp only [add_plain'] at q0 q1 q2
      exact ⟨⟨b, off, rfl, q0, q1, q2⟩, h1, h2, h3, h4, h5, h6, h7⟩
    · simp only [List.mem_map, List.mem_range] at hg
      obtain ⟨i, hi, rfl⟩ := hg
      rcases (hfq i hi).2.2.2.2.2.2.2.2 with h | ⟨d0, es, sp, d2, h3, h4⟩
      · exact .inl h
      · exact .inr ⟨d0, es, sp, d2, by rw [← h3]; simp; exact ⟨i, hi, rfl⟩, h4⟩
theorem weightsAll_mem {P : Program} {e : TypeId} {es : List (DataW H)} {x : DataW H} (h : x ∈ es) {n : Nat} (hn : n ∈ x.weights P e) : n ∈ DataW.weightsAll P e es := by
  induction es with
  | nil => cases h
  | cons y r ih =>
    simp only [DataW.weightsAll, List.mem_append]
    rcases List.mem_cons.1 h with rfl | h
    · exact .inl hn
    · exact .inr (ih h)
theorem reachF {ts : List TypeId} {ds : List (DataW H)} {fs : List Fj} {d : DataW H} {j : Nat} (hsz : (DataW.weightsEach Try.prog ts ds).all (· ≤ reachBytes) = true) (ht : ts[j]? = some 22) (hd : ds[j]? = some d)
    (h : fs = [] ∨ ∃ es sp, d = .slice es sp ∧ es.length = fs.length ∧ ∀ f ∈ fs, f.data = [] ∨ ∃ d0 es' sp' d2, .agg [d0, .slice es' sp', d2] ∈ es ∧ es'.length = f.data.length) : fs.length ≤ 2932031007402 ∧ ∀ f ∈ fs, f.data.length ≤ 140737488355328 := by
  rcases h with rfl | ⟨es, sp, rfl, h1, h2⟩
  · exact ⟨by simp, by simp⟩
  · refine ⟨?_, fun f hf => ?_⟩
    · have := sized_slice hsz ht hd undF
      rw [bytesF] at this
      simp only [reachBytes] at this
      omega
    · rcases h2 f hf with h3 | ⟨d0, es', sp', d2, h3, h4⟩
      · rw [h3]; simp
      · have hw : (es'.length + sp'.length) * Try.prog.bytesOf 5 ∈ DataW.weights (H := H) Try.prog 67 (.agg [d0, .slice es' sp', d2]) := by
          simp only [DataW.weights, Try.underlying67]
          exact DataW.weights_mem_each (j := 1) (t := 30) (d := .slice es' sp') rfl rfl _ (by simp [DataW.weights, Try.underlying30])
        have this : (es'.length + sp'.length) * Try.prog.bytesOf 5 ≤ reachBytes := of_decide_eq_true (List.all_eq_true.1 hsz _ (DataW.weights_mem_each ht hd _ (by
          simp only [DataW.weights, undF, List.mem_cons, List.mem_append]
          exact .inr (.inl (weightsAll_mem h3 hw)))))
        rw [bytes8] at this
        simp only [reachBytes] at this
        omega
end
end Opn
end Go.Proofs.Ytbloifnibgdeoaa
