import Derived.Test.YtjbnnhephagdmaaDoorOpM
import Derived.Test.YtjbnnhephagdmaaDoorMb9
namespace Go.Proofs.YtjbnnhephagdmaaDoor
namespace Opn
open Go.ChangeShapes Go.WideShapes Go.ChangeAt Go.RowKit Go.Joins Go.Deep Crw Irw Mnf CMath Byt
set_option linter.unusedVariables false
set_option linter.unusedSimpArgs false
set_option maxRecDepth 100000
theorem cI : Tryd.prog.cellsOf 3 = 1 := by kernel_rfl
theorem cU : Tryd.prog.cellsOf 29 = 1 := by kernel_rfl
theorem cS : Tryd.prog.cellsOf 9 = 1 := by kernel_rfl
theorem cT : Tryd.prog.cellsOf 47 = 6 := by kernel_rfl
theorem cPl : Tryd.prog.cellsOf 45 = 2 := by kernel_rfl
theorem cPd : Tryd.prog.cellsOf 49 = 7 := by kernel_rfl
theorem cE : Tryd.prog.cellsOf 34 = 6 := by kernel_rfl
theorem cLo : Tryd.prog.cellsOf 30 = 1 := by kernel_rfl
theorem cLi : Tryd.prog.cellsOf 31 = 1 := by kernel_rfl
theorem cLs : Tryd.prog.cellsOf 32 = 1 := by kernel_rfl
theorem l2 {α : Type} {l : List α} (h : l.length = 2) : ∃ c0 c1, l = [c0, c1] := by
  match l, h with
  | [c0, c1], _ => exact ⟨c0, c1, rfl⟩
theorem l6 {α : Type} {l : List α} (h : l.length = 6) : ∃ c0 c1 c2 c3 c4 c5, l = [c0, c1, c2, c3, c4, c5] := by
  match l, h with
  | [c0, c1, c2, c3, c4, c5], _ => exact ⟨c0, c1, c2, c3, c4, c5, rfl⟩
theorem l7 {α : Type} {l : List α} (h : l.length = 7) : ∃ c0 c1 c2 c3 c4 c5 c6, l = [c0, c1, c2, c3, c4, c5, c6] := by
  match l, h with
  | [c0, c1, c2, c3, c4, c5, c6], _ => exact ⟨c0, c1, c2, c3, c4, c5, c6, rfl⟩
theorem i64' {x : Int} (h : (Lit.int .i64 x).wf = true) : I64 x := by
  have h1 : IntKind.i64.min = -9223372036854775808 := rfl
  have h2 : IntKind.i64.max = 9223372036854775807 := rfl
  simp only [Lit.wf, Bool.and_eq_true, decide_eq_true_eq] at h
  unfold I64
  omega
theorem u64' {x : Int} (h : (Lit.int .u64 x).wf = true) : ∃ m : Nat, x = (m : Int) ∧ m ≤ M64 := by
  have h1 : IntKind.u64.min = 0 := rfl
  have h2 : IntKind.u64.max = 18446744073709551615 := rfl
  simp only [Lit.wf, Bool.and_eq_true, decide_eq_true_eq] at h
  exact ⟨x.toNat, by omega, by unfold M64; omega⟩
section
variable {H : Type} {enc : TypeId × Value → H} {w : World} {base : Nat} {spare : Nat → Bool} {held : Bool} {r : Reach} {b0 : Nat}
/-- a list of things of any kind, opened -/
theorem listK {α : Type} [Inhabited α] (K : Knd α) {t : TypeId} (ht : Tryd.prog.underlying t = some (.slice K.ty)) (hs : Tryd.prog.cellsOf K.ty = K.size) (Q : α → Prop)
    (el : ∀ (n : Nat) (cs : List Value) (x : DataW H × List MemPlace), cs.length = K.size → DataW.trod enc Tryd.prog w base spare held n K.ty cs = some x → ∃ y : α, cs = K.cs y ∧ Q y)
    {n : Nat} {cs : List Value} {x : DataW H × List MemPlace} (h : DataW.trod enc Tryd.prog w base spare held n t cs = some x) :
    ∃ (a : Option Addr) (cap : Nat) (l : List α), cs = [.slice a l.length cap] ∧ IsK K w a l ∧ (a = none → cap = 0) ∧ l.length ≤ cap ∧ cap ≤ 9223372036854775807 ∧ ∀ y ∈ l, Q y := by
  rcases open_slice ht h with ⟨hcs, _⟩ | ⟨a, len, cap, m, n', D, Pl, hcs, _, hl, hm, hmm, _, hx⟩
  · exact ⟨none, 0, [], hcs, IsK.nil _ _, fun _ => rfl, Nat.le_refl _, Nat.zero_le _, by simp⟩
  · rw [hs] at hx
    have hlm : len ≤ m := by rw [hmm]; split <;> omega
    have hex : ∀ i, i < len → ∃ y : α, (∀ j u, (K.cs y)[j]? = some u → w.cell? ((a.add (i * K.size)).add j) = some u) ∧ Q y := fun i hi => by
      obtain ⟨cs', h1, h2⟩ := hx i (by omega)
      obtain ⟨_, hlen, hcell⟩ := World.cells?_some h1
      obtain ⟨y, rfl, hq⟩ := el _ _ _ hlen h2
      refine ⟨y, fun j u hu => ?_, hq⟩
      have hj : j < K.size := by have := (List.getElem?_eq_some_iff.1 hu).1; rw [K.len] at this; exact this
      rw [hcell j hj]
      exact hu
    obtain ⟨f, hf⟩ : ∃ f : Nat → α, ∀ i, i < len → ((∀ j u, (K.cs (f i))[j]? = some u → w.cell? ((a.add (i * K.size)).add j) = some u) ∧ Q (f i)) := choose_lt hex
    refine ⟨some a, cap, (List.range len).map f, by simpa using hcs, fun hne => ?_, fun e => (by cases e), by simpa using hl, hm, fun y hy => ?_⟩
    · have h0 : 0 < len := by
        rcases Nat.eq_zero_or_pos len with rfl | h0
        · simp at hne
        · exact h0
      obtain ⟨b, off, sp⟩ := a
      obtain ⟨u, hu⟩ : ∃ u, (K.cs (f 0))[0]? = some u := ⟨_, List.getElem?_eq_getElem (by rw [K.len]; exact K.pos)⟩
      have hc0 := (hf 0 h0).1 0 u hu
      have hsp : sp = none := by
        have := World.cell?_spot hc0
        simpa [Addr.add] using this
      subst hsp
      refine ⟨b, off, rfl, ?_, fun i e he j u hu => ?_⟩
      · have := World.block_lt_of_cell? w _ hc0
        simpa [Addr.add] using this
      · have hi : i < len := by
          have := (List.getElem?_eq_some_iff.1 he).1
          simpa using this
        have e1 : e = f i := by simpa [hi] using he.symm
        subst e1
        have q := (hf i hi).1 j u hu
        rw [Irw.add_plain', Irw.add_plain'] at q
        exact q
    · obtain ⟨i, hi, rfl⟩ := List.mem_map.1 hy
      exact (hf i (by simpa using hi)).2
theorem el_pl (n : Nat) (cs : List Value) (x : DataW H × List MemPlace) (hl : cs.length = kPl.size) (h : DataW.trod enc Tryd.prog w base spare held n kPl.ty cs = some x) : ∃ y : Pl, cs = kPl.cs y ∧ I64 y.1 ∧ y.2 ≤ M64 := by
  obtain ⟨c0, c1, rfl⟩ := l2 hl
  obtain ⟨xs, m, _, rfl, _, hlen2, hf⟩ := DataW.trod_struct Tryd.underlying45 h
  obtain ⟨y0, y1, rfl⟩ := l2 (by simpa using hlen2)
  have e0 := hf 0 _ rfl
  have e1 := hf 1 _ rfl
  simp [cI, cU] at e0 e1
  obtain ⟨a, g0, _, f0⟩ := DataW.trod_int Tryd.underlying3 e0
  obtain ⟨b, g1, _, f1⟩ := DataW.trod_int Tryd.underlying29 e1
  simp at g0 g1
  subst g0 g1
  obtain ⟨m1, rfl, h1⟩ := u64' f1
  exact ⟨(a, m1), rfl, i64' f0, h1⟩
theorem el_t (n : Nat) (cs : List Value) (x : DataW H × List MemPlace) (hl : cs.length = kT.size) (h : DataW.trod enc Tryd.prog w base spare held n kT.ty cs = some x) : ∃ y : ByteArray, cs = kT.cs y ∧ y.size ≤ 9223372036854775807 := by
  obtain ⟨s, g, _, hs⟩ := DataW.trod_string Tryd.underlying9 h
  subst g
  exact ⟨s, rfl, hs⟩
def PdQ (q : Pd) : Prop := (I64 q.lv ∧ I64 q.we ∧ I64 q.by_ ∧ I64 q.en ∧ q.le.size ≤ 9223372036854775807 ∧ q.gr.size ≤ 9223372036854775807) ∧ q.no ≤ M64
theorem el_pd (n : Nat) (cs : List Value) (x : DataW H × List MemPlace) (hl : cs.length = kPd.size) (h : DataW.trod enc Tryd.prog w base spare held n kPd.ty cs = some x) : ∃ y : Pd, cs = kPd.cs y ∧ PdQ y := by
  obtain ⟨c0, c1, c2, c3, c4, c5, c6, rfl⟩ := l7 hl
  obtain ⟨xs, m, _, rfl, _, hlen2, hf⟩ := DataW.trod_struct Tryd.underlying49 h
  obtain ⟨y0, y1, rfl⟩ := l2 (by simpa using hlen2)
  have e0 := hf 0 _ rfl
  have e1 := hf 1 _ rfl
  simp [cI, cT] at e0 e1
  obtain ⟨lv, g0, _, f0⟩ := DataW.trod_int Tryd.underlying3 e0
  obtain ⟨zs, m2, _, g1, _, hlen3, hf2⟩ := DataW.trod_struct Tryd.underlying47 e1
  obtain ⟨z0, z1, z2, z3, z4, z5, rfl⟩ := l6 (by simpa using hlen3)
  have k0 := hf2 0 _ rfl
  have k1 := hf2 1 _ rfl
  have k2 := hf2 2 _ rfl
  have k3 := hf2 3 _ rfl
  have k4 := hf2 4 _ rfl
  have k5 := hf2 5 _ rfl
  simp [cI, cU, cS] at k0 k1 k2 k3 k4 k5
  obtain ⟨no, a0, _, b0⟩ := DataW.trod_int Tryd.underlying29 k0
  obtain ⟨we, a1, _, b1⟩ := DataW.trod_int Tryd.underlying3 k1
  obtain ⟨by1, a2, _, b2⟩ := DataW.trod_int Tryd.underlying3 k2
  obtain ⟨en, a3, _, b3⟩ := DataW.trod_int Tryd.underlying3 k3
  obtain ⟨le, a4, _, b4⟩ := DataW.trod_string Tryd.underlying9 k4
  obtain ⟨gr, a5, _, b5⟩ := DataW.trod_string Tryd.underlying9 k5
  simp at g0 a0 a1 a2 a3 a4 a5
  subst g0 a0 a1 a2 a3 a4 a5
  obtain ⟨m1, rfl, h1⟩ := u64' b0
  exact ⟨⟨lv, m1, we, by1, en, le, gr⟩, rfl, ⟨i64' f0, i64' b1, i64' b2, i64' b3, b4, b5⟩, h1⟩
/-- what is known of an edit that is handed in -/
def EdQ (e : Ed) : Prop := LzE e ∧ Nmd e ∧ (∀ p ∈ e.out, I64 p.1) ∧ ∀ q ∈ e.inn, I64 q.lv ∧ I64 q.we ∧ I64 q.by_ ∧ I64 q.en ∧ q.le.size ≤ 9223372036854775807 ∧ q.gr.size ≤ 9223372036854775807
instance : Inhabited Pd := ⟨⟨0, 0, 0, 0, 0, ⟨#[]⟩, ⟨#[]⟩⟩⟩
theorem el_ed (n : Nat) (cs : List Value) (x : DataW H × List MemPlace) (hl : cs.length = kE.size) (h : DataW.trod enc Tryd.prog w base spare held n kE.ty cs = some x) : ∃ v : Ev, cs = kE.cs v ∧ ∃ e : Ed, EdAw w v e ∧ EdQ e := by
  obtain ⟨c0, c1, c2, c3, c4, c5, rfl⟩ := l6 hl
  obtain ⟨xs, m, _, rfl, _, hlen2, hf⟩ := DataW.trod_struct Tryd.underlying34 h
  obtain ⟨y0, y1, y2, y3, y4, y5, rfl⟩ := l6 (by simpa using hlen2)
  have e0 := hf 0 _ rfl
  have e1 := hf 1 _ rfl
  have e2 := hf 2 _ rfl
  have e3 := hf 3 _ rfl
  have e4 := hf 4 _ rfl
  have e5 := hf 5 _ rfl
  simp [cU, cLo, cLi, cLs] at e0 e1 e2 e3 e4 e5
  obtain ⟨a0, g0, _, f0⟩ := DataW.trod_int Tryd.underlying29 e0
  obtain ⟨a1, g1, _, f1⟩ := DataW.trod_int Tryd.underlying29 e1
  obtain ⟨a2, g2, _, f2⟩ := DataW.trod_int Tryd.underlying29 e2
  obtain ⟨oa, oc, out, g3, o1, o2, o3, o4, o5⟩ := listK kPl (t := 30) Tryd.underlying30 cPl (fun p => I64 p.1 ∧ p.2 ≤ M64) el_pl e3
  obtain ⟨ia, ic, inn, g4, i1, i2, i3, i4, i5⟩ := listK kPd (t := 31) Tryd.underlying31 cPd PdQ el_pd e4
  obtain ⟨pa, pc, ptr, g5, p1, p2, p3, p4, p5⟩ := listK kT (t := 32) Tryd.underlying32 cS (fun s => s.size ≤ 9223372036854775807) el_t e5
  simp at g0 g1 g2 g3 g4 g5
  subst g0 g1 g2 g3 g4 g5
  obtain ⟨m0, rfl, h0⟩ := u64' f0
  obtain ⟨m1, rfl, h1⟩ := u64' f1
  obtain ⟨m2, rfl, h2⟩ := u64' f2
  refine ⟨(m0, m1, m2, (oa, out.length, oc), (ia, inn.length, ic), (pa, ptr.length, pc)), rfl, ⟨m0, m1, m2, out, inn, ptr⟩, ⟨⟨rfl, rfl, rfl⟩, ⟨o1, rfl, o2, o3⟩, ⟨i1, rfl, i2, i3⟩, ⟨p1, rfl, p2, p3⟩⟩, ⟨⟨Nat.le_trans o3 o4, Nat.le_trans i3 i4, Nat.le_trans p3 p4⟩, fun q hq => ⟨(i5 q hq).1.2.2.2.2.1, (i5 q hq).1.2.2.2.2.2⟩, p5⟩, ⟨⟨h0, h1, h2⟩, fun p hp => (o5 p hp).2, fun q hq => ?_⟩, fun p hp => (o5 p hp).1, fun q hq => (i5 q hq).1⟩
  obtain ⟨⟨q1, q2, q3, q4, _, _⟩, q5⟩ := i5 q hq
  unfold I64 at q2 q3 q4
  exact ⟨q5, by unfold M63; omega, by unfold M63; omega, by unfold M63; omega⟩
/-- An argument of edits. -/
theorem edits {v : Value} {d : DataW H} {p : List MemPlace} (hv : Value.okWide Tryd.prog w r b0 22 v) (h : DataW.Trod enc Tryd.prog w base spare held 22 v d p) :
    ∃ (a : Option Addr) (cap : Nat) (es : List Ed), v = .slice a es.length cap ∧ EdsAw w (a, es.length, cap) es ∧ es.length ≤ 9223372036854775807 ∧ ∀ e ∈ es, EdQ e := by
  obtain ⟨a0, len, cap0, rfl⟩ := okWide_slice Tryd.underlying22 hv
  obtain ⟨fuel, hf⟩ := h
  obtain ⟨a, cap, vs, g, k1, k2, k3, k4, k5⟩ := listK kE (t := 22) Tryd.underlying22 cE (fun v => ∃ e : Ed, EdAw w v e ∧ EdQ e) el_ed hf
  simp [Value.cells] at g
  obtain ⟨rfl, rfl, rfl⟩ := g
  have hch : ∀ i, i < vs.length → ∃ e : Ed, (∀ v, vs[i]? = some v → EdAw w v e) ∧ EdQ e := fun i hi => by
    have hv : vs[i]? = some vs[i] := List.getElem?_eq_getElem hi
    obtain ⟨e, h1, h2⟩ := k5 vs[i] (List.getElem_mem hi)
    exact ⟨e, fun v hv' => by rw [hv] at hv'; cases hv'; exact h1, h2⟩
  have : Inhabited Ed := ⟨noE⟩
  obtain ⟨f, hfe⟩ : ∃ f : Nat → Ed, ∀ i, i < vs.length → ((∀ v, vs[i]? = some v → EdAw w v (f i)) ∧ EdQ (f i)) := choose_lt hch
  have hlen : ((List.range vs.length).map f).length = vs.length := by simp
  refine ⟨a0, cap0, (List.range vs.length).map f, by rw [hlen], ⟨vs, hlen.symm, by rw [hlen], k2, by rw [hlen]; exact k3, k1, fun j v e hv he => ?_⟩, by rw [hlen]; omega, fun e he => ?_⟩
  · have hj := (List.getElem?_eq_some_iff.1 hv).1
    have e1 : e = f j := by simpa [hj] using he.symm
    subst e1
    exact (hfe j hj).1 v hv
  · obtain ⟨i, hi, rfl⟩ := List.mem_map.1 he
    exact (hfe i (by simpa using hi)).2
end
end Opn
end Go.Proofs.YtjbnnhephagdmaaDoor
