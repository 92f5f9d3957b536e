import Derived.Test.YtaejjpbpnedblaaGreatXn
import Derived.WalkKit
import Derived.ProofKit
import Derived.OpenShut
import Derived.ShutString
import Derived.SizedLaws
import Derived.Deep.Slices
import Derived.Deep.Strs
import Derived.Lib.SmallJoins
namespace Go.Proofs.YtaejjpbpnedblaaGreat
namespace Opn
open Go.ChangeShapes Go.WideShapes Go.ChangeAt Go.RowKit Go.Joins Go.Deep Crw Irw
open Vr (Cf cfgA Tb kPi)
set_option linter.unusedVariables false
set_option linter.unusedSimpArgs false
set_option maxRecDepth 100000
theorem own : ownKnob Tryz.prog.godebug = none := by kernel_rfl
theorem laidOut : laidOutB Tryz.prog = true := by kernel_rfl
theorem cI : Tryz.prog.cellsOf 3 = 1 := by kernel_rfl
theorem cU : Tryz.prog.cellsOf 55 = 1 := by kernel_rfl
theorem cS : Tryz.prog.cellsOf 9 = 1 := by kernel_rfl
theorem cT : Tryz.prog.cellsOf 76 = 6 := by kernel_rfl
theorem cPd : Tryz.prog.cellsOf 78 = 7 := by kernel_rfl
theorem bPd : Tryz.prog.bytesOf 78 = 72 := by kernel_rfl
theorem l2 {α : Type} {l : List α} (h : l.length = 2) : ∃ c0 c1, l = [c0, c1] := by
  match l, h with
  | [c0, c1], _ => exact ⟨c0, c1, rfl⟩
theorem l6 {α : Type} {l : List α} (h : l.length = 6) : ∃ c0 c1 c2 c3 c4 c5, l = [c0, c1, c2, c3, c4, c5] := by
  match l, h with
  | [c0, c1, c2, c3, c4, c5], _ => exact ⟨c0, c1, c2, c3, c4, c5, rfl⟩
theorem l7 {α : Type} {l : List α} (h : l.length = 7) : ∃ c0 c1 c2 c3 c4 c5 c6, l = [c0, c1, c2, c3, c4, c5, c6] := by
  match l, h with
  | [c0, c1, c2, c3, c4, c5, c6], _ => exact ⟨c0, c1, c2, c3, c4, c5, c6, rfl⟩
theorem i64' {x : Int} (h : (Lit.int .i64 x).wf = true) : Vr.R64 x := by
  have h1 : IntKind.i64.min = -9223372036854775808 := rfl
  have h2 : IntKind.i64.max = 9223372036854775807 := rfl
  simp only [Lit.wf, Bool.and_eq_true, decide_eq_true_eq] at h
  unfold Vr.R64
  omega
theorem u64' {x : Int} (h : (Lit.int .u64 x).wf = true) : ∃ m : Nat, x = (m : Int) ∧ m < Vr.U64 := by
  have h1 : IntKind.u64.min = 0 := rfl
  have h2 : IntKind.u64.max = 18446744073709551615 := rfl
  simp only [Lit.wf, Bool.and_eq_true, decide_eq_true_eq] at h
  exact ⟨x.toNat, by omega, by unfold Vr.U64; omega⟩
section
variable {H : Type} {enc : TypeId × Value → H} {w : World} {base : Nat} {spare : Nat → Bool} {held : Bool} {r : Reach} {b0 : Nat}
/-- a list of things of any kind, opened -/
theorem listK {α : Type} [Inhabited α] (K : Knd α) {t : TypeId} (ht : Tryz.prog.underlying t = some (.slice K.ty)) (hs : Tryz.prog.cellsOf K.ty = K.size) (Q : α → Prop)
    (el : ∀ (n : Nat) (cs : List Value) (x : DataW H × List MemPlace), cs.length = K.size → DataW.trod enc Tryz.prog w base spare held n K.ty cs = some x → ∃ y : α, cs = K.cs y ∧ Q y)
    {n : Nat} {cs : List Value} {x : DataW H × List MemPlace} (h : DataW.trod enc Tryz.prog w base spare held n t cs = some x) :
    ∃ (a : Option Addr) (cap : Nat) (l : List α), cs = [.slice a l.length cap] ∧ IsK K w a l ∧ (a = none → cap = 0) ∧ l.length ≤ cap ∧ cap ≤ 9223372036854775807 ∧ (∀ y ∈ l, Q y) ∧ (l = [] ∨ ∃ es sp, x.1 = .slice es sp ∧ es.length = l.length) := by
  rcases open_slice ht h with ⟨hcs, _⟩ | ⟨a, len, cap, m, n', D, Pl, hcs, _, hl, hm, hmm, hxe, hx⟩
  · exact ⟨none, 0, [], hcs, IsK.nil _ _, fun _ => rfl, Nat.le_refl _, Nat.zero_le _, by simp, .inl rfl⟩
  · rw [hs] at hx
    have hlm : len ≤ m := by rw [hmm]; split <;> omega
    have hex : ∀ i, i < len → ∃ y : α, (∀ j u, (K.cs y)[j]? = some u → w.cell? ((a.add (i * K.size)).add j) = some u) ∧ Q y := fun i hi => by
      obtain ⟨cs', h1, h2⟩ := hx i (by omega)
      obtain ⟨_, hlen, hcell⟩ := World.cells?_some h1
      obtain ⟨y, rfl, hq⟩ := el _ _ _ hlen h2
      refine ⟨y, fun j u hu => ?_, hq⟩
      have hj : j < K.size := by have := (List.getElem?_eq_some_iff.1 hu).1; rw [K.len] at this; exact this
      rw [hcell j hj]
      exact hu
    obtain ⟨f, hf⟩ : ∃ f : Nat → α, ∀ i, i < len → ((∀ j u, (K.cs (f i))[j]? = some u → w.cell? ((a.add (i * K.size)).add j) = some u) ∧ Q (f i)) := choose_lt hex
    refine ⟨some a, cap, (List.range len).map f, by simpa using hcs, fun hne => ?_, fun e => (by cases e), by simpa using hl, hm, fun y hy => ?_, .inr ⟨_, _, by rw [hxe], by simp⟩⟩
    · have h0 : 0 < len := by
        rcases Nat.eq_zero_or_pos len with rfl | h0
        · simp at hne
        · exact h0
      obtain ⟨b, off, sp⟩ := a
      obtain ⟨u, hu⟩ : ∃ u, (K.cs (f 0))[0]? = some u := ⟨_, List.getElem?_eq_getElem (by rw [K.len]; exact K.pos)⟩
      have hc0 := (hf 0 h0).1 0 u hu
      have hsp : sp = none := by
        have := World.cell?_spot hc0
        simpa [Addr.add] using this
      subst hsp
      refine ⟨b, off, rfl, ?_, fun i e he j u hu => ?_⟩
      · have := World.block_lt_of_cell? w _ hc0
        simpa [Addr.add] using this
      · have hi : i < len := by
          have := (List.getElem?_eq_some_iff.1 he).1
          simpa using this
        have e1 : e = f i := by simpa [hi] using he.symm
        subst e1
        have q := (hf i hi).1 j u hu
        rw [Irw.add_plain', Irw.add_plain'] at q
        exact q
    · obtain ⟨i, hi, rfl⟩ := List.mem_map.1 hy
      exact (hf i (by simpa using hi)).2
def PdQ (p : Vr.Pi) : Prop := p.t.no < Vr.U64 ∧ Vr.R64 p.lv ∧ Vr.R64 p.t.we
instance : Inhabited Vr.Pi := ⟨⟨0, Vr.noT⟩⟩
theorem el_pd (n : Nat) (cs : List Value) (x : DataW H × List MemPlace) (hl : cs.length = kPi.size) (h : DataW.trod enc Tryz.prog w base spare held n kPi.ty cs = some x) : ∃ y : Vr.Pi, cs = kPi.cs y ∧ PdQ y := by
  obtain ⟨c0, c1, c2, c3, c4, c5, c6, rfl⟩ := l7 hl
  obtain ⟨xs, m, _, rfl, _, hlen2, hf⟩ := DataW.trod_struct Tryz.underlying78 h
  obtain ⟨y0, y1, rfl⟩ := l2 (by simpa using hlen2)
  have e0 := hf 0 _ rfl
  have e1 := hf 1 _ rfl
  simp [cI, cT] at e0 e1
  obtain ⟨lv, g0, _, f0⟩ := DataW.trod_int Tryz.underlying3 e0
  obtain ⟨zs, m2, _, g1, _, hlen3, hf2⟩ := DataW.trod_struct Tryz.underlying76 e1
  obtain ⟨z0, z1, z2, z3, z4, z5, rfl⟩ := l6 (by simpa using hlen3)
  have k0 := hf2 0 _ rfl
  have k1 := hf2 1 _ rfl
  have k2 := hf2 2 _ rfl
  have k3 := hf2 3 _ rfl
  have k4 := hf2 4 _ rfl
  have k5 := hf2 5 _ rfl
  simp [cI, cU, cS] at k0 k1 k2 k3 k4 k5
  obtain ⟨no, a0, _, b0⟩ := DataW.trod_int Tryz.underlying55 k0
  obtain ⟨we, a1, _, b1⟩ := DataW.trod_int Tryz.underlying3 k1
  obtain ⟨by1, a2, _, b2⟩ := DataW.trod_int Tryz.underlying3 k2
  obtain ⟨en, a3, _, b3⟩ := DataW.trod_int Tryz.underlying3 k3
  obtain ⟨le, a4, _, b4⟩ := DataW.trod_string Tryz.underlying9 k4
  obtain ⟨gr, a5, _, b5⟩ := DataW.trod_string Tryz.underlying9 k5
  simp at g0 a0 a1 a2 a3 a4 a5
  subst g0 a0 a1 a2 a3 a4 a5
  obtain ⟨m1, rfl, h1⟩ := u64' b0
  exact ⟨⟨lv, ⟨m1, we, by1, en, le, gr⟩⟩, rfl, h1, i64' f0, i64' b1⟩
/-- An argument of tables that are placed. -/
theorem placed {v : Value} {d : DataW H} {p : List MemPlace} (hv : Value.okWide Tryz.prog w r b0 24 v) (h : DataW.Trod enc Tryz.prog w base spare held 24 v d p) :
    ∃ (a : Option Addr) (cap : Nat) (l : List Vr.Pi), v = .slice a l.length cap ∧ IsK kPi w a l ∧ Vr.PiR l ∧ (l = [] ∨ ∃ es sp, d = .slice es sp ∧ es.length = l.length) := by
  obtain ⟨a0, len, cap0, rfl⟩ := okWide_slice Tryz.underlying24 hv
  obtain ⟨fuel, hf⟩ := h
  obtain ⟨a, cap, l, g, k1, _, _, _, k5, k6⟩ := listK kPi (t := 24) Tryz.underlying24 cPd PdQ el_pd hf
  simp [Value.cells] at g
  obtain ⟨rfl, rfl, rfl⟩ := g
  exact ⟨a0, cap0, l, rfl, k1, k5, k6⟩
theorem reachP {ts : List TypeId} {ds : List (DataW H)} {l : List Vr.Pi} {d : DataW H} {j : Nat} (hsz : (DataW.weightsEach Tryz.prog ts ds).all (· ≤ reachBytes) = true) (ht : ts[j]? = some 24) (hd : ds[j]? = some d)
    (h : l = [] ∨ ∃ es sp, d = .slice es sp ∧ es.length = l.length) : l.length ≤ Vr.Z48 := by
  unfold Vr.Z48
  rcases h with rfl | ⟨es, sp, rfl, h⟩
  · simp
  · have := sized_slice hsz ht hd Tryz.underlying24
    rw [bPd] at this
    simp only [reachBytes] at this
    omega
theorem reachS {ts : List TypeId} {ds : List (DataW H)} {s : ByteArray} {j : Nat} {t : TypeId} (hsz : (DataW.weightsEach Tryz.prog ts ds).all (· ≤ reachBytes) = true) (ht : ts[j]? = some t) (hd : ds[j]? = some (.lit (.string s.data.toList))) : s.size ≤ Vr.Z48 := by
  have := sized_string hsz ht hd
  unfold Vr.Z48
  simp only [reachBytes] at this
  have e : s.size = s.data.toList.length := by rw [Array.length_toList]; rfl
  omega
theorem cellsC : Tryz.prog.cellsOf 23 = 27 := by kernel_rfl
theorem cellsInt : Tryz.prog.cellsOf 3 = 1 := by kernel_rfl
/-- An argument that is a configuration. -/
theorem cfg {v : Value} {d : DataW H} {p : List MemPlace} (hv : Value.okWide Tryz.prog w r b0 23 v) (h : DataW.Trod enc Tryz.prog w base spare held 23 v d p) :
    ∃ c : Cf, v = .agg (cfgA c) ∧ Vr.In64 c := by
  obtain ⟨cs, rfl, hsz⟩ := okWide_struct Tryz.underlying23 hv
  rw [cellsC] at hsz
  obtain ⟨fuel, hf⟩ := h
  obtain ⟨xs, n, _, _, _, hlen, hfi⟩ := DataW.trod_struct Tryz.underlying23 hf
  have key : ∀ i, i < 27 → ∃ x, cs.toList[i]? = some (.int .i64 x) ∧ Vr.R64 x := by
    intro i hi
    have hx : ∃ y, DataW.trod enc Tryz.prog w base spare held n 3 ((cs.toList.drop i).take 1) = some y := by
      have hxi : ∃ y, xs[i]? = some y := ⟨_, List.getElem?_eq_getElem (by rw [hlen]; exact hi)⟩
      obtain ⟨y, hy⟩ := hxi
      refine ⟨y, ?_⟩
      rw [← hy]
      match i, hi with
      | 0, _ => exact hfi 0 _ rfl
      | 1, _ => exact hfi 1 _ rfl
      | 2, _ => exact hfi 2 _ rfl
      | 3, _ => exact hfi 3 _ rfl
      | 4, _ => exact hfi 4 _ rfl
      | 5, _ => exact hfi 5 _ rfl
      | 6, _ => exact hfi 6 _ rfl
      | 7, _ => exact hfi 7 _ rfl
      | 8, _ => exact hfi 8 _ rfl
      | 9, _ => exact hfi 9 _ rfl
      | 10, _ => exact hfi 10 _ rfl
      | 11, _ => exact hfi 11 _ rfl
      | 12, _ => exact hfi 12 _ rfl
      | 13, _ => exact hfi 13 _ rfl
      | 14, _ => exact hfi 14 _ rfl
      | 15, _ => exact hfi 15 _ rfl
      | 16, _ => exact hfi 16 _ rfl
      | 17, _ => exact hfi 17 _ rfl
      | 18, _ => exact hfi 18 _ rfl
      | 19, _ => exact hfi 19 _ rfl
      | 20, _ => exact hfi 20 _ rfl
      | 21, _ => exact hfi 21 _ rfl
      | 22, _ => exact hfi 22 _ rfl
      | 23, _ => exact hfi 23 _ rfl
      | 24, _ => exact hfi 24 _ rfl
      | 25, _ => exact hfi 25 _ rfl
      | 26, _ => exact hfi 26 _ rfl
      | n + 27, h => exact absurd h (by omega)
    obtain ⟨y, hy⟩ := hx
    obtain ⟨m, hm, _, hwf⟩ := DataW.trod_int Tryz.underlying3 hy
    refine ⟨m, ?_, i64' hwf⟩
    have := congrArg (fun l => l[0]?) hm
    simpa [List.getElem?_take, List.getElem?_drop] using this
  refine ⟨fun i => intOf (cs.toList.getD i (.int .i64 0)), ?_, fun i => ?_⟩
  · congr 1
    apply Array.ext'
    apply List.ext_getElem?
    intro i
    by_cases hi : i < 27
    · obtain ⟨x, hx, _⟩ := key i hi
      rw [hx]
      match i, hi with
      | 0, _ => show _ = some (Value.int .i64 (intOf (cs.toList.getD 0 (.int .i64 0)))); rw [List.getD_eq_getElem?_getD, hx]; rfl
      | 1, _ => show _ = some (Value.int .i64 (intOf (cs.toList.getD 1 (.int .i64 0)))); rw [List.getD_eq_getElem?_getD, hx]; rfl
      | 2, _ => show _ = some (Value.int .i64 (intOf (cs.toList.getD 2 (.int .i64 0)))); rw [List.getD_eq_getElem?_getD, hx]; rfl
      | 3, _ => show _ = some (Value.int .i64 (intOf (cs.toList.getD 3 (.int .i64 0)))); rw [List.getD_eq_getElem?_getD, hx]; rfl
      | 4, _ => show _ = some (Value.int .i64 (intOf (cs.toList.getD 4 (.int .i64 0)))); rw [List.getD_eq_getElem?_getD, hx]; rfl
      | 5, _ => show _ = some (Value.int .i64 (intOf (cs.toList.getD 5 (.int .i64 0)))); rw [List.getD_eq_getElem?_getD, hx]; rfl
      | 6, _ => show _ = some (Value.int .i64 (intOf (cs.toList.getD 6 (.int .i64 0)))); rw [List.getD_eq_getElem?_getD, hx]; rfl
      | 7, _ => show _ = some (Value.int .i64 (intOf (cs.toList.getD 7 (.int .i64 0)))); rw [List.getD_eq_getElem?_getD, hx]; rfl
      | 8, _ => show _ = some (Value.int .i64 (intOf (cs.toList.getD 8 (.int .i64 0)))); rw [List.getD_eq_getElem?_getD, hx]; rfl
      | 9, _ => show _ = some (Value.int .i64 (intOf (cs.toList.getD 9 (.int .i64 0)))); rw [List.getD_eq_getElem?_getD, hx]; rfl
      | 10, _ => show _ = some (Value.int .i64 (intOf (cs.toList.getD 10 (.int .i64 0)))); rw [List.getD_eq_getElem?_getD, hx]; rfl
      | 11, _ => show _ = some (Value.int .i64 (intOf (cs.toList.getD 11 (.int .i64 0)))); rw [List.getD_eq_getElem?_getD, hx]; rfl
      | 12, _ => show _ = some (Value.int .i64 (intOf (cs.toList.getD 12 (.int .i64 0)))); rw [List.getD_eq_getElem?_getD, hx]; rfl
      | 13, _ => show _ = some (Value.int .i64 (intOf (cs.toList.getD 13 (.int .i64 0)))); rw [List.getD_eq_getElem?_getD, hx]; rfl
      | 14, _ => show _ = some (Value.int .i64 (intOf (cs.toList.getD 14 (.int .i64 0)))); rw [List.getD_eq_getElem?_getD, hx]; rfl
      | 15, _ => show _ = some (Value.int .i64 (intOf (cs.toList.getD 15 (.int .i64 0)))); rw [List.getD_eq_getElem?_getD, hx]; rfl
      | 16, _ => show _ = some (Value.int .i64 (intOf (cs.toList.getD 16 (.int .i64 0)))); rw [List.getD_eq_getElem?_getD, hx]; rfl
      | 17, _ => show _ = some (Value.int .i64 (intOf (cs.toList.getD 17 (.int .i64 0)))); rw [List.getD_eq_getElem?_getD, hx]; rfl
      | 18, _ => show _ = some (Value.int .i64 (intOf (cs.toList.getD 18 (.int .i64 0)))); rw [List.getD_eq_getElem?_getD, hx]; rfl
      | 19, _ => show _ = some (Value.int .i64 (intOf (cs.toList.getD 19 (.int .i64 0)))); rw [List.getD_eq_getElem?_getD, hx]; rfl
      | 20, _ => show _ = some (Value.int .i64 (intOf (cs.toList.getD 20 (.int .i64 0)))); rw [List.getD_eq_getElem?_getD, hx]; rfl
      | 21, _ => show _ = some (Value.int .i64 (intOf (cs.toList.getD 21 (.int .i64 0)))); rw [List.getD_eq_getElem?_getD, hx]; rfl
      | 22, _ => show _ = some (Value.int .i64 (intOf (cs.toList.getD 22 (.int .i64 0)))); rw [List.getD_eq_getElem?_getD, hx]; rfl
      | 23, _ => show _ = some (Value.int .i64 (intOf (cs.toList.getD 23 (.int .i64 0)))); rw [List.getD_eq_getElem?_getD, hx]; rfl
      | 24, _ => show _ = some (Value.int .i64 (intOf (cs.toList.getD 24 (.int .i64 0)))); rw [List.getD_eq_getElem?_getD, hx]; rfl
      | 25, _ => show _ = some (Value.int .i64 (intOf (cs.toList.getD 25 (.int .i64 0)))); rw [List.getD_eq_getElem?_getD, hx]; rfl
      | 26, _ => show _ = some (Value.int .i64 (intOf (cs.toList.getD 26 (.int .i64 0)))); rw [List.getD_eq_getElem?_getD, hx]; rfl
      | n + 27, h => exact absurd h (by omega)
    · rw [List.getElem?_eq_none (by simp; omega), List.getElem?_eq_none (by show 27 ≤ i; omega)]
  · show Vr.R64 (intOf (cs.toList.getD i (.int .i64 0)))
    rw [List.getD_eq_getElem?_getD]
    by_cases hi : i < 27
    · obtain ⟨x, hx, hr⟩ := key i hi
      rw [hx]
      exact hr
    · rw [List.getElem?_eq_none (by simp; omega)]
      exact (show Vr.R64 0 by unfold Vr.R64; omega)
end
end Opn
end Go.Proofs.YtaejjpbpnedblaaGreat
