import Derived.Test.YtecgecolghgjoaaZv
import Derived.WalkKit
import Derived.ProofKit
import Derived.OpenShut
import Derived.ShutString
import Derived.SizedLaws
import Derived.Deep.Slices
import Derived.Deep.Strs
import Derived.Lib.SmallJoins
namespace Go.Proofs.Ytecgecolghgjoaa
namespace Opn
open Go.ChangeShapes Go.WideShapes Go.ChangeAt Go.RowKit Go.Joins Go.Deep Crw Irw
open Vr (Tb Pi Pc Oq kPi kPc kT kOq)
set_option linter.unusedVariables false
set_option linter.unusedSimpArgs false
set_option maxRecDepth 100000
theorem own : ownKnob Try.prog.godebug = none := by kernel_rfl
theorem laidOut : laidOutB Try.prog = true := by kernel_rfl
theorem cI : Try.prog.cellsOf 3 = 1 := by kernel_rfl
theorem cU : Try.prog.cellsOf 33 = 1 := by kernel_rfl
theorem cS : Try.prog.cellsOf 9 = 1 := by kernel_rfl
theorem cB : Try.prog.cellsOf 4 = 1 := by kernel_rfl
theorem cT : Try.prog.cellsOf 47 = 6 := by kernel_rfl
theorem cPl : Try.prog.cellsOf 61 = 2 := by kernel_rfl
theorem cPd : Try.prog.cellsOf 49 = 7 := by kernel_rfl
theorem cE : Try.prog.cellsOf 38 = 6 := by kernel_rfl
theorem cOp : Try.prog.cellsOf 40 = 12 := by kernel_rfl
theorem cLo : Try.prog.cellsOf 34 = 1 := by kernel_rfl
theorem cLi : Try.prog.cellsOf 35 = 1 := by kernel_rfl
theorem cLs : Try.prog.cellsOf 36 = 1 := by kernel_rfl
theorem bPl : Try.prog.bytesOf 61 = 16 := by kernel_rfl
theorem bPd : Try.prog.bytesOf 49 = 72 := by kernel_rfl
theorem bS : Try.prog.bytesOf 9 = 16 := by kernel_rfl
theorem bOp : Try.prog.bytesOf 40 = 160 := by kernel_rfl
theorem l2 {α : Type} {l : List α} (h : l.length = 2) : ∃ c0 c1, l = [c0, c1] := by
  match l, h with
  | [c0, c1], _ => exact ⟨c0, c1, rfl⟩
theorem l6 {α : Type} {l : List α} (h : l.length = 6) : ∃ c0 c1 c2 c3 c4 c5, l = [c0, c1, c2, c3, c4, c5] := by
  match l, h with
  | [c0, c1, c2, c3, c4, c5], _ => exact ⟨c0, c1, c2, c3, c4, c5, rfl⟩
theorem l7 {α : Type} {l : List α} (h : l.length = 7) : ∃ c0 c1 c2 c3 c4 c5 c6, l = [c0, c1, c2, c3, c4, c5, c6] := by
  match l, h with
  | [c0, c1, c2, c3, c4, c5, c6], _ => exact ⟨c0, c1, c2, c3, c4, c5, c6, rfl⟩
theorem l12 {α : Type} {l : List α} (h : l.length = 12) : ∃ c0 c1 c2 c3 c4 c5 c6 c7 c8 c9 d0 d1, l = [c0, c1, c2, c3, c4, c5, c6, c7, c8, c9, d0, d1] := by
  match l, h with
  | [c0, c1, c2, c3, c4, c5, c6, c7, c8, c9, d0, d1], _ => exact ⟨c0, c1, c2, c3, c4, c5, c6, c7, c8, c9, d0, d1, rfl⟩
theorem u64' {x : Int} (h : (Lit.int .u64 x).wf = true) : ∃ m : Nat, x = (m : Int) ∧ m < Vr.U64 := by
  have h1 : IntKind.u64.min = 0 := rfl
  have h2 : IntKind.u64.max = 18446744073709551615 := rfl
  simp only [Lit.wf, Bool.and_eq_true, decide_eq_true_eq] at h
  exact ⟨x.toNat, by omega, by unfold Vr.U64; omega⟩
theorem reach_le : reachBytes ≤ Vr.Z48 := by unfold Vr.Z48 reachBytes; decide
section
variable {H : Type} {enc : TypeId × Value → H} {w : World} {base : Nat} {spare : Nat → Bool} {held : Bool} {r : Reach} {b0 : Nat}
/-- what is read weighs no more than memory holds -/
def Wt (t : TypeId) (d : DataW H) : Prop := ∀ m ∈ d.weights Try.prog t, m ≤ reachBytes
theorem weightsAll_mem {e : TypeId} : ∀ {l : List (DataW H)} {d : DataW H}, d ∈ l → ∀ n ∈ d.weights Try.prog e, n ∈ DataW.weightsAll Try.prog e l
  | d' :: r, d, hd, n, hn => by
    simp only [DataW.weightsAll, List.mem_append]
    rcases List.mem_cons.1 hd with rfl | h
    · exact Or.inl hn
    · exact Or.inr (weightsAll_mem h n hn)
theorem Wt.field {t : TypeId} {fs : Array Field} {xs : List (DataW H × List MemPlace)} {f : Field} {y : DataW H × List MemPlace} (ht : Try.prog.underlying t = some (.struct fs)) (hw : Wt t (DataW.agg (xs.map (·.1)))) (i : Nat) (hf : fs[i]? = some f) (hx : xs[i]? = some y) : Wt f.type y.1 := fun m hm => by
  refine hw m ?_
  simp only [DataW.weights, ht]
  exact DataW.weights_mem_each (j := i) (t := f.type) (d := y.1) (by simpa using congrArg (Option.map Field.type) hf) (by simpa using congrArg (Option.map Prod.fst) hx) m hm
/-- a list of things of any kind, opened -/
theorem listW {α : Type} [Inhabited α] (K : Knd α) {t : TypeId} (ht : Try.prog.underlying t = some (.slice K.ty)) (hs : Try.prog.cellsOf K.ty = K.size) (Q : α → Prop)
    (el : ∀ (n : Nat) (cs : List Value) (x : DataW H × List MemPlace), cs.length = K.size → Wt K.ty x.1 → DataW.trod enc Try.prog w base spare held n K.ty cs = some x → ∃ y : α, cs = K.cs y ∧ Q y)
    {n : Nat} {cs : List Value} {x : DataW H × List MemPlace} (h : DataW.trod enc Try.prog w base spare held n t cs = some x) (hw : Wt t x.1) :
    ∃ (a : Option Addr) (cap : Nat) (l : List α), cs = [.slice a l.length cap] ∧ IsK K w a l ∧ (a = none → cap = 0) ∧ l.length ≤ cap ∧ (∀ y ∈ l, Q y) ∧ l.length * Try.prog.bytesOf K.ty ≤ reachBytes := by
  rcases open_slice ht h with ⟨hcs, _⟩ | ⟨a, len, cap, m, n', D, Pl, hcs, _, hl, hm, hmm, hxe, hx⟩
  · exact ⟨none, 0, [], hcs, IsK.nil _ _, fun _ => rfl, Nat.le_refl _, by simp, by simp⟩
  · rw [hs] at hx
    have hlm : len ≤ m := by rw [hmm]; split <;> omega
    rw [hxe] at hw
    have hwl : len * Try.prog.bytesOf K.ty ≤ reachBytes := by
      have := hw (((List.range len).map D).length + ((List.range (m - len)).map fun j => D (len + j)).length |> (· * Try.prog.bytesOf K.ty)) (by simp [DataW.weights, ht])
      refine Nat.le_trans (Nat.mul_le_mul_right _ ?_) this
      simp
    have hex : ∀ i, i < len → ∃ y : α, (∀ j u, (K.cs y)[j]? = some u → w.cell? ((a.add (i * K.size)).add j) = some u) ∧ Q y := fun i hi => by
      obtain ⟨cs', h1, h2⟩ := hx i (by omega)
      obtain ⟨_, hlen, hcell⟩ := World.cells?_some h1
      obtain ⟨y, rfl, hq⟩ := el _ _ _ hlen (fun mm hmm' => hw mm (by
        simp only [DataW.weights, ht, List.mem_cons, List.mem_append]
        exact Or.inr (Or.inl (weightsAll_mem (List.mem_map.2 ⟨i, List.mem_range.2 hi, rfl⟩) mm hmm')))) h2
      refine ⟨y, fun j u hu => ?_, hq⟩
      have hj : j < K.size := by have := (List.getElem?_eq_some_iff.1 hu).1; rw [K.len] at this; exact this
      rw [hcell j hj]
      exact hu
    obtain ⟨f, hf⟩ : ∃ f : Nat → α, ∀ i, i < len → ((∀ j u, (K.cs (f i))[j]? = some u → w.cell? ((a.add (i * K.size)).add j) = some u) ∧ Q (f i)) := choose_lt hex
    refine ⟨some a, cap, (List.range len).map f, by simpa using hcs, fun hne => ?_, fun e => (by cases e), by simpa using hl, fun y hy => ?_, by simpa using hwl⟩
    · have h0 : 0 < len := by
        rcases Nat.eq_zero_or_pos len with rfl | h0
        · simp at hne
        · exact h0
      obtain ⟨b, off, sp⟩ := a
      obtain ⟨u, hu⟩ : ∃ u, (K.cs (f 0))[0]? = some u := ⟨_, List.getElem?_eq_getElem (by rw [K.len]; exact K.pos)⟩
      have hc0 := (hf 0 h0).1 0 u hu
      have hsp : sp = none := by
        have := World.cell?_spot hc0
        simpa [Addr.add] using this
      subst hsp
      refine ⟨b, off, rfl, ?_, fun i e he j u hu => ?_⟩
      · have := World.block_lt_of_cell? w _ hc0
        simpa [Addr.add] using this
      · have hi : i < len := by
          have := (List.getElem?_eq_some_iff.1 he).1
          simpa using this
        have e1 : e = f i := by simpa [hi] using he.symm
        subst e1
        have q := (hf i hi).1 j u hu
        rw [Irw.add_plain', Irw.add_plain'] at q
        exact q
    · obtain ⟨i, hi, rfl⟩ := List.mem_map.1 hy
      exact (hf i (by simpa using hi)).2
theorem str_le {s : ByteArray} {t : TypeId} (hw : Wt (H := H) t (.lit (.string s.data.toList))) : s.size ≤ Vr.Z48 := by
  have := hw s.data.toList.length (by simp [DataW.weights])
  have e : s.size = s.data.toList.length := by rw [Array.length_toList]; rfl
  exact Nat.le_trans (by rw [e]; exact this) reach_le
instance : Inhabited Pi := ⟨⟨0, Vr.noT⟩⟩
instance : Inhabited Pc := ⟨⟨0, 0⟩⟩
theorem el_pc (n : Nat) (cs : List Value) (x : DataW H × List MemPlace) (hl : cs.length = kPc.size) (hw : Wt kPc.ty x.1) (h : DataW.trod enc Try.prog w base spare held n kPc.ty cs = some x) : ∃ y : Pc, cs = kPc.cs y ∧ y.no < Vr.U64 := by
  obtain ⟨c0, c1, rfl⟩ := l2 hl
  obtain ⟨xs, m, _, rfl, _, hlen2, hf⟩ := DataW.trod_struct Try.underlying61 h
  obtain ⟨y0, y1, rfl⟩ := l2 (by simpa using hlen2)
  have e0 := hf 0 _ rfl
  have e1 := hf 1 _ rfl
  simp [cI, cU] at e0 e1
  obtain ⟨a, g0, _, f0⟩ := DataW.trod_int Try.underlying3 e0
  obtain ⟨b, g1, _, f1⟩ := DataW.trod_int Try.underlying33 e1
  simp at g0 g1
  subst g0 g1
  obtain ⟨m1, rfl, h1⟩ := u64' f1
  exact ⟨⟨a, m1⟩, rfl, h1⟩
theorem el_s (n : Nat) (cs : List Value) (x : DataW H × List MemPlace) (hl : cs.length = kT.size) (hw : Wt kT.ty x.1) (h : DataW.trod enc Try.prog w base spare held n kT.ty cs = some x) : ∃ y : ByteArray, cs = kT.cs y ∧ y.size ≤ Vr.Z48 := by
  obtain ⟨s, g, gx, hs⟩ := DataW.trod_string Try.underlying9 h
  subst g
  subst gx
  exact ⟨s, rfl, str_le hw⟩
theorem el_pi (n : Nat) (cs : List Value) (x : DataW H × List MemPlace) (hl : cs.length = kPi.size) (hw : Wt kPi.ty x.1) (h : DataW.trod enc Try.prog w base spare held n kPi.ty cs = some x) : ∃ y : Pi, cs = kPi.cs y ∧ y.t.no < Vr.U64 ∧ y.t.le.size ≤ Vr.Z48 ∧ y.t.gr.size ≤ Vr.Z48 := by
  obtain ⟨c0, c1, c2, c3, c4, c5, c6, rfl⟩ := l7 hl
  obtain ⟨xs, m, _, rfl, _, hlen2, hf⟩ := DataW.trod_struct Try.underlying49 h
  obtain ⟨y0, y1, rfl⟩ := l2 (by simpa using hlen2)
  have e0 := hf 0 _ rfl
  have e1 := hf 1 _ rfl
  have w1 := Wt.field Try.underlying49 hw 1 rfl rfl
  simp [cI, cT] at e0 e1
  obtain ⟨lv, g0, _, f0⟩ := DataW.trod_int Try.underlying3 e0
  obtain ⟨zs, m2, _, g1, _, hlen3, hf2⟩ := DataW.trod_struct Try.underlying47 e1
  obtain ⟨z0, z1, z2, z3, z4, z5, rfl⟩ := l6 (by simpa using hlen3)
  subst g1
  have k0 := hf2 0 _ rfl
  have k1 := hf2 1 _ rfl
  have k2 := hf2 2 _ rfl
  have k3 := hf2 3 _ rfl
  have k4 := hf2 4 _ rfl
  have k5 := hf2 5 _ rfl
  have v4 := Wt.field Try.underlying47 w1 4 rfl rfl
  have v5 := Wt.field Try.underlying47 w1 5 rfl rfl
  simp [cI, cU, cS] at k0 k1 k2 k3 k4 k5
  obtain ⟨no, a0, _, b0⟩ := DataW.trod_int Try.underlying33 k0
  obtain ⟨we, a1, _, b1⟩ := DataW.trod_int Try.underlying3 k1
  obtain ⟨by1, a2, _, b2⟩ := DataW.trod_int Try.underlying3 k2
  obtain ⟨en, a3, _, b3⟩ := DataW.trod_int Try.underlying3 k3
  obtain ⟨le, a4, x4, b4⟩ := DataW.trod_string Try.underlying9 k4
  obtain ⟨gr, a5, x5, b5⟩ := DataW.trod_string Try.underlying9 k5
  simp at g0 a0 a1 a2 a3 a4 a5
  subst g0 a0 a1 a2 a3 a4 a5 x4 x5
  obtain ⟨m1, rfl, h1⟩ := u64' b0
  exact ⟨⟨lv, ⟨m1, we, by1, en, le, gr⟩⟩, rfl, h1, str_le v4, str_le v5⟩
instance : Inhabited Oq := ⟨⟨0, 0, 0, ⟨#[]⟩, ⟨#[]⟩, 0, 0, 0, Vr.nS, Vr.nS, Vr.nS, false⟩⟩
theorem el_op (n : Nat) (cs : List Value) (x : DataW H × List MemPlace) (hl : cs.length = kOq.size) (hw : Wt kOq.ty x.1) (h : DataW.trod enc Try.prog w base spare held n kOq.ty cs = some x) : ∃ y : Oq, cs = kOq.cs y ∧ ∃ O l pts, Vr.EdK w y O l pts := by
  obtain ⟨c0, c1, c2, c3, c4, c5, c6, c7, c8, c9, d0, d1, rfl⟩ := l12 hl
  obtain ⟨xs, m, _, rfl, _, hlen2, hf⟩ := DataW.trod_struct Try.underlying40 h
  obtain ⟨y0, y1, y2, y3, y4, y5, y6, rfl⟩ := l7 (by simpa using hlen2)
  have e0 := hf 0 _ rfl
  have e1 := hf 1 _ rfl
  have e2 := hf 2 _ rfl
  have e3 := hf 3 _ rfl
  have e4 := hf 4 _ rfl
  have e5 := hf 5 _ rfl
  have e6 := hf 6 _ rfl
  have w5 := Wt.field Try.underlying40 hw 5 rfl rfl
  simp [cI, cS, cE, cB] at e0 e1 e2 e3 e4 e5 e6
  obtain ⟨kd, g0, _, f0⟩ := DataW.trod_int Try.underlying3 e0
  obtain ⟨qn, g1, _, f1⟩ := DataW.trod_int Try.underlying3 e1
  obtain ⟨lv, g2, _, f2⟩ := DataW.trod_int Try.underlying3 e2
  obtain ⟨fr, g3, _, f3⟩ := DataW.trod_string Try.underlying9 e3
  obtain ⟨tx, g4, _, f4⟩ := DataW.trod_string Try.underlying9 e4
  obtain ⟨se, g6, _⟩ := DataW.trod_bool Try.underlying4 e6
  obtain ⟨zs, m2, _, g5, _, hlen3, hf2⟩ := DataW.trod_struct Try.underlying38 e5
  obtain ⟨z0, z1, z2, z3, z4, z5, rfl⟩ := l6 (by simpa using hlen3)
  subst g5
  have k0 := hf2 0 _ rfl
  have k1 := hf2 1 _ rfl
  have k2 := hf2 2 _ rfl
  have k3 := hf2 3 _ rfl
  have k4 := hf2 4 _ rfl
  have k5 := hf2 5 _ rfl
  have v3 := Wt.field Try.underlying38 w5 3 rfl rfl
  have v4 := Wt.field Try.underlying38 w5 4 rfl rfl
  have v5 := Wt.field Try.underlying38 w5 5 rfl rfl
  simp [cU, cLo, cLi, cLs] at k0 k1 k2 k3 k4 k5
  obtain ⟨x0, a0, _, b0⟩ := DataW.trod_int Try.underlying33 k0
  obtain ⟨x1, a1, _, b1⟩ := DataW.trod_int Try.underlying33 k1
  obtain ⟨x2, a2, _, b2⟩ := DataW.trod_int Try.underlying33 k2
  obtain ⟨oa, oc, O, a3, o1, o2, o3, o4, o5⟩ := listW kPc (t := 34) Try.underlying34 cPl (fun p => p.no < Vr.U64) el_pc k3 v3
  obtain ⟨ia, ic, l, a4, i1, i2, i3, i4, i5⟩ := listW kPi (t := 35) Try.underlying35 cPd (fun p => p.t.no < Vr.U64 ∧ p.t.le.size ≤ Vr.Z48 ∧ p.t.gr.size ≤ Vr.Z48) el_pi k4 v4
  obtain ⟨pa, pc, pts, a5, p1, p2, p3, p4, p5⟩ := listW kT (t := 36) Try.underlying36 cS (fun s => s.size ≤ Vr.Z48) el_s k5 v5
  simp at g0 g1 g2 g3 g4 g6 a0 a1 a2 a3 a4 a5
  subst g0 g1 g2 g3 g4 g6 a0 a1 a2 a3 a4 a5
  have hz := reach_le
  rw [show Try.prog.bytesOf kPc.ty = 16 from bPl] at o5
  rw [show Try.prog.bytesOf kPi.ty = 72 from bPd] at i5
  rw [show Try.prog.bytesOf kT.ty = 16 from bS] at p5
  exact ⟨⟨kd, qn, lv, fr, tx, x0, x1, x2, (oa, O.length, oc), (ia, l.length, ic), (pa, pts.length, pc), se⟩, rfl, O, l, pts, ⟨o1, rfl, o2, o3, .inl rfl⟩, ⟨i1, rfl, i2, i3, .inl rfl⟩, ⟨p1, rfl, p2, p3, .inl rfl⟩, by omega, by omega, by omega, fun p hp => (i4 p hp).2, p4, fun p hp => (i4 p hp).1, o4⟩
/-- An argument that is a script of calls. -/
theorem ops {v : Value} {d : DataW H} {p : List MemPlace} (hv : Value.okWide Try.prog w r b0 22 v) (h : DataW.Trod enc Try.prog w base spare held 22 v d p) (hw : Wt 22 d) :
    ∃ (a : Option Addr) (cap : Nat) (S : List Oq), v = .slice a S.length cap ∧ Vr.Scr w a S ∧ S.length ≤ Vr.Z48 := by
  obtain ⟨a0, len, cap0, rfl⟩ := okWide_slice Try.underlying22 hv
  obtain ⟨fuel, hf⟩ := h
  obtain ⟨a, cap, S, g, k1, _, _, k5, k6⟩ := listW kOq (t := 22) Try.underlying22 cOp (fun y => ∃ O l pts, Vr.EdK w y O l pts) el_op hf hw
  simp [Value.cells] at g
  obtain ⟨rfl, rfl, rfl⟩ := g
  have hz := reach_le
  rw [show Try.prog.bytesOf kOq.ty = 160 from bOp] at k6
  exact ⟨a0, cap0, S, rfl, ⟨k1, k5⟩, by omega⟩
theorem wt_arg {ts : List TypeId} {ds : List (DataW H)} {d : DataW H} {t : TypeId} {j : Nat} (hsz : (DataW.weightsEach Try.prog ts ds).all (· ≤ reachBytes) = true) (ht : ts[j]? = some t) (hd : ds[j]? = some d) : Wt t d := fun m hm => by
  have := List.all_eq_true.1 hsz _ (DataW.weights_mem_each ht hd m hm)
  simpa using this
end
end Opn
end Go.Proofs.Ytecgecolghgjoaa
