import Derived.Test.YtaejjpbpnedblaaGreatXp
import Derived.Test.YtaejjpbpnedblaaGreatFm
import Derived.Test.YtaejjpbpnedblaaGreatFo
import Derived.WalkKit
import Derived.ProofKit
import Derived.OpenShut
import Derived.ShutString
import Derived.SizedLaws
import Derived.Deep.Slices
import Derived.Deep.Strs
import Derived.Lib.SmallJoins
namespace Go.Proofs.YtaejjpbpnedblaaGreat
namespace Opn
open Go.ChangeShapes Go.WideShapes Go.ChangeAt Go.RowKit Go.Joins Go.Deep Crw Irw
open Vr
set_option linter.unusedVariables false
set_option linter.unusedSimpArgs false
set_option maxRecDepth 100000
theorem bS : Tryz.prog.bytesOf 9 = 16 := by kernel_rfl
theorem bU : Tryz.prog.bytesOf 55 = 8 := by kernel_rfl
theorem reach_le : reachBytes ≤ Vr.Z48 := by unfold Vr.Z48 reachBytes; decide
section
variable {H : Type} {enc : TypeId × Value → H} {w : World} {base : Nat} {spare : Nat → Bool} {held : Bool} {r : Reach} {b0 : Nat}
/-- what is read weighs no more than memory holds -/
def Wt (t : TypeId) (d : DataW H) : Prop := ∀ m ∈ d.weights Tryz.prog t, m ≤ reachBytes
theorem weightsAll_mem {e : TypeId} : ∀ {l : List (DataW H)} {d : DataW H}, d ∈ l → ∀ n ∈ d.weights Tryz.prog e, n ∈ DataW.weightsAll Tryz.prog e l
  | d' :: r, d, hd, n, hn => by
    simp only [DataW.weightsAll, List.mem_append]
    rcases List.mem_cons.1 hd with rfl | h
    · exact Or.inl hn
    · exact Or.inr (weightsAll_mem h n hn)
theorem Wt.field {t : TypeId} {fs : Array Field} {xs : List (DataW H × List MemPlace)} {f : Field} {y : DataW H × List MemPlace} (ht : Tryz.prog.underlying t = some (.struct fs)) (hw : Wt t (DataW.agg (xs.map (·.1)))) (i : Nat) (hf : fs[i]? = some f) (hx : xs[i]? = some y) : Wt f.type y.1 := fun m hm => by
  refine hw m ?_
  simp only [DataW.weights, ht]
  exact DataW.weights_mem_each (j := i) (t := f.type) (d := y.1) (by simpa using congrArg (Option.map Field.type) hf) (by simpa using congrArg (Option.map Prod.fst) hx) m hm
/-- a list of things of any kind, opened -/
theorem listW {α : Type} [Inhabited α] (K : Knd α) {t : TypeId} (ht : Tryz.prog.underlying t = some (.slice K.ty)) (hs : Tryz.prog.cellsOf K.ty = K.size) (Q : α → Prop)
    (el : ∀ (n : Nat) (cs : List Value) (x : DataW H × List MemPlace), cs.length = K.size → Wt K.ty x.1 → DataW.trod enc Tryz.prog w base spare held n K.ty cs = some x → ∃ y : α, cs = K.cs y ∧ Q y)
    {n : Nat} {cs : List Value} {x : DataW H × List MemPlace} (h : DataW.trod enc Tryz.prog w base spare held n t cs = some x) (hw : Wt t x.1) :
    ∃ (a : Option Addr) (cap : Nat) (l : List α), cs = [.slice a l.length cap] ∧ IsK K w a l ∧ (a = none → cap = 0) ∧ l.length ≤ cap ∧ (∀ y ∈ l, Q y) ∧ l.length * Tryz.prog.bytesOf K.ty ≤ reachBytes := by
  rcases open_slice ht h with ⟨hcs, _⟩ | ⟨a, len, cap, m, n', D, Pl, hcs, _, hl, hm, hmm, hxe, hx⟩
  · exact ⟨none, 0, [], hcs, IsK.nil _ _, fun _ => rfl, Nat.le_refl _, by simp, by simp⟩
  · rw [hs] at hx
    have hlm : len ≤ m := by rw [hmm]; split <;> omega
    rw [hxe] at hw
    have hwl : len * Tryz.prog.bytesOf K.ty ≤ reachBytes := by
      have := hw (((List.range len).map D).length + ((List.range (m - len)).map fun j => D (len + j)).length |> (· * Tryz.prog.bytesOf K.ty)) (by simp [DataW.weights, ht])
      refine Nat.le_trans (Nat.mul_le_mul_right _ ?_) this
      simp
    have hex : ∀ i, i < len → ∃ y : α, (∀ j u, (K.cs y)[j]? = some u → w.cell? ((a.add (i * K.size)).add j) = some u) ∧ Q y := fun i hi => by
      obtain ⟨cs', h1, h2⟩ := hx i (by omega)
      obtain ⟨_, hlen, hcell⟩ := World.cells?_some h1
      obtain ⟨y, rfl, hq⟩ := el _ _ _ hlen (fun mm hmm' => hw mm (by
        simp only [DataW.weights, ht, List.mem_cons, List.mem_append]
        exact Or.inr (Or.inl (weightsAll_mem (List.mem_map.2 ⟨i, List.mem_range.2 hi, rfl⟩) mm hmm')))) h2
      refine ⟨y, fun j u hu => ?_, hq⟩
      have hj : j < K.size := by have := (List.getElem?_eq_some_iff.1 hu).1; rw [K.len] at this; exact this
      rw [hcell j hj]
      exact hu
    obtain ⟨f, hf⟩ : ∃ f : Nat → α, ∀ i, i < len → ((∀ j u, (K.cs (f i))[j]? = some u → w.cell? ((a.add (i * K.size)).add j) = some u) ∧ Q (f i)) := choose_lt hex
    refine ⟨some a, cap, (List.range len).map f, by simpa using hcs, fun hne => ?_, fun e => (by cases e), by simpa using hl, fun y hy => ?_, by simpa using hwl⟩
    · have h0 : 0 < len := by
        rcases Nat.eq_zero_or_pos len with rfl | h0
        · simp at hne
        · exact h0
      obtain ⟨b, off, sp⟩ := a
      obtain ⟨u, hu⟩ : ∃ u, (K.cs (f 0))[0]? = some u := ⟨_, List.getElem?_eq_getElem (by rw [K.len]; exact K.pos)⟩
      have hc0 := (hf 0 h0).1 0 u hu
      have hsp : sp = none := by
        have := World.cell?_spot hc0
        simpa [Addr.add] using this
      subst hsp
      refine ⟨b, off, rfl, ?_, fun i e he j u hu => ?_⟩
      · have := World.block_lt_of_cell? w _ hc0
        simpa [Addr.add] using this
      · have hi : i < len := by
          have := (List.getElem?_eq_some_iff.1 he).1
          simpa using this
        have e1 : e = f i := by simpa [hi] using he.symm
        subst e1
        have q := (hf i hi).1 j u hu
        rw [Irw.add_plain', Irw.add_plain'] at q
        exact q
    · obtain ⟨i, hi, rfl⟩ := List.mem_map.1 hy
      exact (hf i (by simpa using hi)).2
theorem str_le {s : ByteArray} {t : TypeId} (hw : Wt (H := H) t (.lit (.string s.data.toList))) : s.size ≤ Vr.Z48 := by
  have := hw s.data.toList.length (by simp [DataW.weights])
  have e : s.size = s.data.toList.length := by rw [Array.length_toList]; rfl
  exact Nat.le_trans (by rw [e]; exact this) reach_le
theorem el_s (n : Nat) (cs : List Value) (x : DataW H × List MemPlace) (hl : cs.length = kT.size) (hw : Wt kT.ty x.1) (h : DataW.trod enc Tryz.prog w base spare held n kT.ty cs = some x) : ∃ y : ByteArray, cs = kT.cs y ∧ y.size ≤ Vr.Z48 := by
  obtain ⟨s, g, gx, hs⟩ := DataW.trod_string Tryz.underlying9 h
  subst g
  subst gx
  exact ⟨s, rfl, str_le hw⟩
theorem wt_arg {ts : List TypeId} {ds : List (DataW H)} {d : DataW H} {t : TypeId} {j : Nat} (hsz : (DataW.weightsEach Tryz.prog ts ds).all (· ≤ reachBytes) = true) (ht : ts[j]? = some t) (hd : ds[j]? = some d) : Wt t d := fun m hm => by
  have := List.all_eq_true.1 hsz _ (DataW.weights_mem_each ht hd m hm)
  simpa using this
instance : Inhabited ByteArray := ⟨⟨#[]⟩⟩
theorem el_u (n : Nat) (cs : List Value) (x : DataW H × List MemPlace) (hl : cs.length = kU.size) (hw : Wt kU.ty x.1) (h : DataW.trod enc Tryz.prog w base spare held n kU.ty cs = some x) : ∃ y : Int, cs = kU.cs y ∧ ∃ m : Nat, y = (m : Int) ∧ m < Vr.U64 := by
  obtain ⟨m, hm, _, hwf⟩ := DataW.trod_int Tryz.underlying55 h
  exact ⟨m, hm, u64' hwf⟩
/-- An argument of texts. -/
theorem texts {v : Value} {d : DataW H} {p : List MemPlace} (hv : Value.okWide Tryz.prog w r b0 25 v) (h : DataW.Trod enc Tryz.prog w base spare held 25 v d p) (hw : Wt 25 d) :
    ∃ (a : Option Addr) (cap : Nat) (l : List ByteArray), v = .slice a l.length cap ∧ Ls kT w (a, l.length, cap) l ∧ l.length ≤ Vr.Z48 ∧ ∀ s ∈ l, s.size ≤ Vr.Z48 := by
  obtain ⟨a0, len, cap0, rfl⟩ := okWide_slice Tryz.underlying25 hv
  obtain ⟨fuel, hf⟩ := h
  obtain ⟨a, cap, l, g, k1, k2, k3, k5, k6⟩ := listW kT (t := 25) Tryz.underlying25 cS (fun y => y.size ≤ Vr.Z48) el_s hf hw
  simp [Value.cells] at g
  obtain ⟨rfl, rfl, rfl⟩ := g
  have hz := reach_le
  rw [show Tryz.prog.bytesOf kT.ty = 16 from bS] at k6
  exact ⟨a0, cap0, l, rfl, ⟨k1, rfl, k2, k3, .inl rfl⟩, by omega, k5⟩
/-- An argument of locks. -/
theorem nums {v : Value} {d : DataW H} {p : List MemPlace} (hv : Value.okWide Tryz.prog w r b0 26 v) (h : DataW.Trod enc Tryz.prog w base spare held 26 v d p) (hw : Wt 26 d) :
    ∃ (a : Option Addr) (cap : Nat) (l : List Int), v = .slice a l.length cap ∧ Ls kU w (a, l.length, cap) l ∧ l.length ≤ 17592186044416 ∧ XsOk l := by
  obtain ⟨a0, len, cap0, rfl⟩ := okWide_slice Tryz.underlying26 hv
  obtain ⟨fuel, hf⟩ := h
  obtain ⟨a, cap, l, g, k1, k2, k3, k5, k6⟩ := listW kU (t := 26) Tryz.underlying26 cU (fun y => ∃ m : Nat, y = (m : Int) ∧ m < Vr.U64) el_u hf hw
  simp [Value.cells] at g
  obtain ⟨rfl, rfl, rfl⟩ := g
  rw [show Tryz.prog.bytesOf kU.ty = 8 from bU] at k6
  have hz : reachBytes ≤ 140737488355328 := by unfold reachBytes; decide
  exact ⟨a0, cap0, l, rfl, ⟨k1, rfl, k2, k3, .inl rfl⟩, by omega, k5⟩
end
end Opn
end Go.Proofs.YtaejjpbpnedblaaGreat
