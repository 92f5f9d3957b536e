import Derived.Test.YtigcbbgnbchpnaaOpenB
import Derived.Test.YtigcbbgnbchpnaaDw2
import Derived.WalkKit
import Derived.ProofKit
import Derived.OpenShut
import Derived.ShutString
import Derived.SizedLaws
import Derived.Deep.Slices
import Derived.Deep.Strs
import Derived.Lib.SmallJoins
namespace Go.Proofs.Ytigcbbgnbchpnaa
namespace Opn
open Go.ChangeShapes Go.WideShapes Go.ChangeAt Go.RowKit Go.Joins Go.Deep CMath Byt Dsk
set_option linter.unusedVariables false
set_option maxRecDepth 100000
theorem undF : Try.prog.underlying 22 = some (.slice 49) := by kernel_rfl
theorem cellsF : Try.prog.cellsOf 49 = 3 := by kernel_rfl
theorem bytesF : Try.prog.bytesOf 49 = 48 := by kernel_rfl
section
variable {H : Type} {enc : TypeId × Value → H} {w : World} {base : Nat} {spare : Nat → Bool} {held : Bool} {r : Reach} {b0 : Nat}
theorem bytesF_at {n : Nat} {cs : List Value} {x : DataW H × List MemPlace} (h : DataW.trod enc Try.prog w base spare held n 38 cs = some x) :
    ∃ (a : Option Addr) (cap : Nat) (l : List Nat), cs = [.slice a l.length cap] ∧ IsB w a l ∧ (a = none → cap = 0) ∧ l.length ≤ cap ∧ cap ≤ 9223372036854775807 ∧ (l = [] ∨ ∃ es sp, x.1 = .slice es sp ∧ es.length = l.length) := by
  rcases open_ints Try.underlying38 Try.underlying5 cells8 h with ⟨hcs, hx⟩ | ⟨a, len, cap, zs, hcs, _, hl, hm, hz, hx, hcell, hwz⟩
  · exact ⟨none, 0, [], hcs, IsB.nil _ _, fun _ => rfl, Nat.le_refl _, Nat.zero_le _, .inl rfl⟩
  · have hlm : len ≤ zs.length := by rw [hz]; split <;> omega
    have hlen : ((zs.take len).map Int.toNat).length = len := by simp; omega
    refine ⟨some a, cap, (zs.take len).map Int.toNat, by rw [hlen]; exact hcs, ⟨fun hne => ?_, ?_⟩, fun e => (by cases e), (by rw [hlen]; exact hl), hm, .inr ⟨_, _, by rw [hx], by rw [hlen]; simp [lits]; omega⟩⟩
    · have h0 : 0 < len := by
        rcases Nat.eq_zero_or_pos len with rfl | h0
        · simp at hne
        · exact h0
      obtain ⟨b, off, sp⟩ := a
      have hsp : sp = none := by
        have := World.cell?_spot (hcell 0 (by omega))
        simpa [Addr.add] using this
      subst hsp
      refine ⟨b, off, rfl, ?_, fun i x hx' => ?_⟩
      · have := World.block_lt_of_cell? w _ (hcell 0 (by omega))
        simpa [Addr.add] using this
      · have hi : i < len := by
          have := (List.getElem?_eq_some_iff.1 hx').1
          rw [hlen] at this
          exact this
        have q := hcell i (by omega)
        rw [add_plain'] at q
        rw [q]
        have hzi : i < zs.length := by omega
        have e : x = (zs[i]).toNat := by
          simp [hi, hzi] at hx'
          exact hx'.symm
        have hb := byte_wf (hwz _ (List.getElem_mem hzi))
        have e2 : zs.getD i 0 = ((x : Nat) : Int) := by
          rw [e]
          simp [List.getD, hzi]
          omega
        rw [e2]
    · intro x hx'
      obtain ⟨y, hy, rfl⟩ := List.mem_map.1 hx'
      have hb := byte_wf (hwz y (List.mem_of_mem_take hy))
      omega
theorem list3f {α : Type} {l : List α} (h : l.length = 3) : ∃ c0 c1 c2, l = [c0, c1, c2] := by
  match l, h with
  | [c0, c1, c2], _ => exact ⟨c0, c1, c2, rfl⟩
/-- what one file is -/
def FAt (w : World) (a : Addr) (D : DataW H) (q : Fj × Option Addr × Nat) : Prop := (w.cell? a = some (.string q.1.name) ∧ w.cell? (a.add 1) = some (.slice q.2.1 q.1.data.length q.2.2) ∧ w.cell? (a.add 2) = some (.int .i64 q.1.sure)) ∧ IsB w q.2.1 q.1.data ∧ (q.2.1 = none → q.2.2 = 0) ∧ q.1.data.length ≤ q.2.2 ∧ q.2.2 ≤ 9223372036854775807 ∧ q.1.name.size ≤ maxLen ∧ -9223372036854775808 ≤ q.1.sure ∧ q.1.sure ≤ 9223372036854775807 ∧ (q.1.data = [] ∨ ∃ d0 es sp d2, D = .agg [d0, .slice es sp, d2] ∧ es.length = q.1.data.length)
theorem one_file {n : Nat} {a : Addr} {x : DataW H × List MemPlace} (h : ∃ cs', w.cells? base a 3 = some cs' ∧ DataW.trod enc Try.prog w base spare held n 49 cs' = some x) : ∃ q, FAt w a x.1 q := by
  obtain ⟨cs, h1, h2⟩ := h
  obtain ⟨_, hlen, hcell⟩ := World.cells?_some h1
  obtain ⟨c0, c1, c2, rfl⟩ := list3f hlen
  obtain ⟨xs, m, _, rfl, hl, hlen2, hf⟩ := DataW.trod_struct Try.underlying49 h2
  obtain ⟨y0, y1, y2, rfl⟩ := list3f (by simpa using hlen2)
  have e0 := hf 0 _ rfl
  have e1 := hf 1 _ rfl
  have e2 := hf 2 _ rfl
  have k9 : Try.prog.cellsOf 3 = 1 := by kernel_rfl
  have k4 : Try.prog.cellsOf 38 = 1 := by kernel_rfl
  have k6 : Try.prog.cellsOf 9 = 1 := by kernel_rfl
  simp [k4, k9, k6] at e0 e1 e2
  obtain ⟨nm, g0, _, hk⟩ := DataW.trod_string Try.underlying9 e0
  obtain ⟨da, dc, dl, g1, hib, hn1, hl1, hm1, hd1⟩ := bytesF_at e1
  obtain ⟨su, g2, _, hw⟩ := DataW.trod_int Try.underlying3 e2
  simp at g0 g1 g2
  subst g0 g1 g2
  have hi := i64_wf hw
  refine ⟨(⟨nm, dl, su⟩, da, dc), ⟨?_, ?_, ?_⟩, hib, hn1, hl1, hm1, hk, hi.1, hi.2, ?_⟩
  · simpa [Addr.add] using hcell 0 (by omega)
  · simpa using hcell 1 (by omega)
  · simpa using hcell 2 (by omega)
  · rcases hd1 with h | ⟨es, sp, h3, h4⟩
    · exact .inl h
    · exact .inr ⟨y0.1, es, sp, y2.1, by simp [h3], h4⟩
instance : Inhabited (Fj × Option Addr × Nat) := ⟨(⟨⟨#[]⟩, [], 0⟩, none, 0)⟩
theorem files {v : Value} {d : DataW H} {p : List MemPlace} (hv : Value.okWide Try.prog w r b0 22 v) (h : DataW.Trod enc Try.prog w base spare held 22 v d p) :
    ∃ (a : Option Addr) (cap : Nat) (fs : List Fj) (ds : List (Option Addr × Nat)), v = .slice a fs.length cap ∧ FjAt w a fs ds ∧ fs.length ≤ cap ∧ cap ≤ 9223372036854775807 ∧ (fs = [] ∨ ∃ es sp, d = .slice es sp ∧ es.length = fs.length ∧ ∀ f ∈ fs, f.data = [] ∨ ∃ d0 es' sp' d2, .agg [d0, .slice es' sp', d2] ∈ es ∧ es'.length = f.data.length) := by
  obtain ⟨a0, len, cap, rfl⟩ := okWide_slice undF hv
  obtain ⟨fuel, hf⟩ := h
  rcases open_slice undF hf with ⟨hcs, _⟩ | ⟨a, l, c, m, n, D, Pl, hcs, _, hl, hm, hmm, hd, hx⟩
  · simp [Value.cells] at hcs
    obtain ⟨rfl, rfl, rfl⟩ := hcs
    exact ⟨none, 0, [], [], rfl, ⟨rfl, fun j f x hf => by simp at hf⟩, Nat.le_refl _, Nat.zero_le _, .inl rfl⟩
  · simp [Value.cells] at hcs
    obtain ⟨rfl, rfl, rfl⟩ := hcs
    rw [cellsF] at hx
    have hlm : len ≤ m := by rw [hmm]; split <;> omega
    have hex : ∀ i, i < len → ∃ q : Fj × Option Addr × Nat, FAt w (a.add (i * 3)) (D i) q := fun i hi => one_file (hx i (by omega))
    obtain ⟨f, hfq⟩ : ∃ f : Nat → Fj × Option Addr × Nat, ∀ i, i < len → FAt w (a.add (i * 3)) (D i) (f i) := choose_lt hex
    refine ⟨some a, cap, (List.range len).map (fun i => (f i).1), (List.range len).map (fun i => (f i).2), by simp, ⟨by simp, fun j g x hg hx' => ?_⟩, by simpa using hl, by unfold maxLen at hm; exact hm, .inr ⟨_, _, congrArg Prod.fst hd, by simp, fun g hg => ?_⟩⟩
    · have hi : j < len := by
        have := (List.getElem?_eq_some_iff.1 hg).1
        simpa using this
      have e1 : (f j).1 = g := by simpa [hi] using hg
      have e2 : (f j).2 = x := by simpa [hi] using hx'
      subst e1 e2
      obtain ⟨⟨q0, q1, q2⟩, h1, h2, h3, h4, h5, h6, h7, _⟩ := hfq j hi
      obtain ⟨b, off, sp⟩ := a
      have hsp : sp = none := by
        have := World.cell?_spot (hfq 0 (by omega)).1.1
        simpa [Addr.add] using this
      subst hsp
      simp only [add_plain'] at q0 q1 q2
      exact ⟨⟨b, off, rfl, q0, q1, q2⟩, h1, h2, h3, h4, h5, h6, h7⟩
    · simp only [List.mem_map, List.mem_range] at hg
      obtain ⟨i, hi, rfl⟩ := hg
      rcases (hfq i hi).2.2.2.2.2.2.2.2 with h | ⟨d0, es, sp, d2, h3, h4⟩
      · exact .inl h
      · exact .inr ⟨d0, es, sp, d2, by rw [← h3]; simp; exact ⟨i, hi, rfl⟩, h4⟩
theorem weightsAll_mem {P : Program} {e : TypeId} {es : List (DataW H)} {x : DataW H} (h : x ∈ es) {n : Nat} (hn : n ∈ x.weights P e) : n ∈ DataW.weightsAll P e es := by
  induction es with
  | nil => cases h
  | cons y r ih =>
    simp only [DataW.weightsAll, List.mem_append]
    rcases List.mem_cons.1 h with rfl | h
    · exact .inl hn
    · exact .inr (ih h)
theorem reachF {ts : List TypeId} {ds : List (DataW H)} {fs : List Fj} {d : DataW H} {j : Nat} (hsz : (DataW.weightsEach Try.prog ts ds).all (· ≤ reachBytes) = true) (ht : ts[j]? = some 22) (hd : ds[j]? = some d)
    (h : fs = [] ∨ ∃ es sp, d = .slice es sp ∧ es.length = fs.length ∧ ∀ f ∈ fs, f.data = [] ∨ ∃ d0 es' sp' d2, .agg [d0, .slice es' sp', d2] ∈ es ∧ es'.length = f.data.length) : fs.length ≤ 2932031007402 ∧ ∀ f ∈ fs, f.data.length ≤ 140737488355328 := by
  rcases h with rfl | ⟨es, sp, rfl, h1, h2⟩
  · exact ⟨by simp, by simp⟩
  · refine ⟨?_, fun f hf => ?_⟩
    · have := sized_slice hsz ht hd undF
      rw [bytesF] at this
      simp only [reachBytes] at this
      omega
    · rcases h2 f hf with h3 | ⟨d0, es', sp', d2, h3, h4⟩
      · rw [h3]; simp
      · have hw : (es'.length + sp'.length) * Try.prog.bytesOf 5 ∈ DataW.weights (H := H) Try.prog 49 (.agg [d0, .slice es' sp', d2]) := by
          simp only [DataW.weights, Try.underlying49]
          exact DataW.weights_mem_each (j := 1) (t := 38) (d := .slice es' sp') rfl rfl _ (by simp [DataW.weights, Try.underlying38])
        have this : (es'.length + sp'.length) * Try.prog.bytesOf 5 ≤ reachBytes := of_decide_eq_true (List.all_eq_true.1 hsz _ (DataW.weights_mem_each ht hd _ (by
          simp only [DataW.weights, undF, List.mem_cons, List.mem_append]
          exact .inr (.inl (weightsAll_mem h3 hw)))))
        rw [bytes8] at this
        simp only [reachBytes] at this
        omega
end
end Opn
end Go.Proofs.Ytigcbbgnbchpnaa
