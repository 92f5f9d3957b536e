import Derived.Test.YtebfokjgeknciabGreatDoorPc2
import Derived.WalkKit
import Derived.ProofKit
import Derived.OpenShut
import Derived.SizedLaws
import Derived.Lib.SmallJoins
namespace Go.Proofs.YtebfokjgeknciabGreatDoor
namespace Opn
open Go.ChangeShapes Go.WideShapes Go.ChangeAt Go.RowKit Go.Joins Pcm
set_option linter.unusedVariables false
set_option maxRecDepth 100000

theorem own : ownKnob Tryz.prog.godebug = none := by kernel_rfl
theorem laidOut : laidOutB Tryz.prog = true := by kernel_rfl
theorem i64_wf {x : Int} (h : (Lit.int .i64 x).wf = true) : R64 x := by
  have h1 : IntKind.i64.min = -9223372036854775808 := rfl
  have h2 : IntKind.i64.max = 9223372036854775807 := rfl
  simp only [Lit.wf, Bool.and_eq_true, decide_eq_true_eq] at h
  unfold R64
  omega
section
variable {H : Type} {enc : TypeId × Value → H} {w : World} {base : Nat} {spare : Nat → Bool} {held : Bool} {r : Reach} {b0 : Nat}

theorem cellsC : Tryz.prog.cellsOf 65 = 27 := by kernel_rfl
theorem cellsInt : Tryz.prog.cellsOf 3 = 1 := by kernel_rfl
/-- An argument that is a configuration. -/
theorem cfg {v : Value} {d : DataW H} {p : List MemPlace} (hv : Value.okWide Tryz.prog w r b0 65 v) (h : DataW.Trod enc Tryz.prog w base spare held 65 v d p) :
    ∃ c : Cf, v = .agg (cfgA c) ∧ RC c := by
  obtain ⟨cs, rfl, hsz⟩ := okWide_struct Tryz.underlying65 hv
  rw [cellsC] at hsz
  obtain ⟨fuel, hf⟩ := h
  obtain ⟨xs, n, _, _, _, hlen, hfi⟩ := DataW.trod_struct Tryz.underlying65 hf
  have key : ∀ i, i < 27 → ∃ x, cs.toList[i]? = some (.int .i64 x) ∧ R64 x := by
    intro i hi
    have hx : ∃ y, DataW.trod enc Tryz.prog w base spare held n 3 ((cs.toList.drop i).take 1) = some y := by
      have hxi : ∃ y, xs[i]? = some y := ⟨_, List.getElem?_eq_getElem (by rw [hlen]; exact hi)⟩
      obtain ⟨y, hy⟩ := hxi
      refine ⟨y, ?_⟩
      rw [← hy]
      match i, hi with
      | 0, _ => exact hfi 0 _ rfl
      | 1, _ => exact hfi 1 _ rfl
      | 2, _ => exact hfi 2 _ rfl
      | 3, _ => exact hfi 3 _ rfl
      | 4, _ => exact hfi 4 _ rfl
      | 5, _ => exact hfi 5 _ rfl
      | 6, _ => exact hfi 6 _ rfl
      | 7, _ => exact hfi 7 _ rfl
      | 8, _ => exact hfi 8 _ rfl
      | 9, _ => exact hfi 9 _ rfl
      | 10, _ => exact hfi 10 _ rfl
      | 11, _ => exact hfi 11 _ rfl
      | 12, _ => exact hfi 12 _ rfl
      | 13, _ => exact hfi 13 _ rfl
      | 14, _ => exact hfi 14 _ rfl
      | 15, _ => exact hfi 15 _ rfl
      | 16, _ => exact hfi 16 _ rfl
      | 17, _ => exact hfi 17 _ rfl
      | 18, _ => exact hfi 18 _ rfl
      | 19, _ => exact hfi 19 _ rfl
      | 20, _ => exact hfi 20 _ rfl
      | 21, _ => exact hfi 21 _ rfl
      | 22, _ => exact hfi 22 _ rfl
      | 23, _ => exact hfi 23 _ rfl
      | 24, _ => exact hfi 24 _ rfl
      | 25, _ => exact hfi 25 _ rfl
      | 26, _ => exact hfi 26 _ rfl
      | n + 27, h => exact absurd h (by omega)
    obtain ⟨y, hy⟩ := hx
    obtain ⟨m, hm, _, hwf⟩ := DataW.trod_int Tryz.underlying3 hy
    refine ⟨m, ?_, i64_wf hwf⟩
    have := congrArg (fun l => l[0]?) hm
    simpa [List.getElem?_take, List.getElem?_drop] using this
  refine ⟨fun i => intOf (cs.toList.getD i (.int .i64 0)), ?_, fun i => ?_⟩
  · congr 1
    apply Array.ext'
    apply List.ext_getElem?
    intro i
    by_cases hi : i < 27
    · obtain ⟨x, hx, _⟩ := key i hi
      rw [hx]
      match i, hi with
      | 0, _ => show _ = some (Value.int .i64 (intOf (cs.toList.getD 0 (.int .i64 0)))); rw [List.getD_eq_getElem?_getD, hx]; rfl
      | 1, _ => show _ = some (Value.int .i64 (intOf (cs.toList.getD 1 (.int .i64 0)))); rw [List.getD_eq_getElem?_getD, hx]; rfl
      | 2, _ => show _ = some (Value.int .i64 (intOf (cs.toList.getD 2 (.int .i64 0)))); rw [List.getD_eq_getElem?_getD, hx]; rfl
      | 3, _ => show _ = some (Value.int .i64 (intOf (cs.toList.getD 3 (.int .i64 0)))); rw [List.getD_eq_getElem?_getD, hx]; rfl
      | 4, _ => show _ = some (Value.int .i64 (intOf (cs.toList.getD 4 (.int .i64 0)))); rw [List.getD_eq_getElem?_getD, hx]; rfl
      | 5, _ => show _ = some (Value.int .i64 (intOf (cs.toList.getD 5 (.int .i64 0)))); rw [List.getD_eq_getElem?_getD, hx]; rfl
      | 6, _ => show _ = some (Value.int .i64 (intOf (cs.toList.getD 6 (.int .i64 0)))); rw [List.getD_eq_getElem?_getD, hx]; rfl
      | 7, _ => show _ = some (Value.int .i64 (intOf (cs.toList.getD 7 (.int .i64 0)))); rw [List.getD_eq_getElem?_getD, hx]; rfl
      | 8, _ => show _ = some (Value.int .i64 (intOf (cs.toList.getD 8 (.int .i64 0)))); rw [List.getD_eq_getElem?_getD, hx]; rfl
      | 9, _ => show _ = some (Value.int .i64 (intOf (cs.toList.getD 9 (.int .i64 0)))); rw [List.getD_eq_getElem?_getD, hx]; rfl
      | 10, _ => show _ = some (Value.int .i64 (intOf (cs.toList.getD 10 (.int .i64 0)))); rw [List.getD_eq_getElem?_getD, hx]; rfl
      | 11, _ => show _ = some (Value.int .i64 (intOf (cs.toList.getD 11 (.int .i64 0)))); rw [List.getD_eq_getElem?_getD, hx]; rfl
      | 12, _ => show _ = some (Value.int .i64 (intOf (cs.toList.getD 12 (.int .i64 0)))); rw [List.getD_eq_getElem?_getD, hx]; rfl
      | 13, _ => show _ = some (Value.int .i64 (intOf (cs.toList.getD 13 (.int .i64 0)))); rw [List.getD_eq_getElem?_getD, hx]; rfl
      | 14, _ => show _ = some (Value.int .i64 (intOf (cs.toList.getD 14 (.int .i64 0)))); rw [List.getD_eq_getElem?_getD, hx]; rfl
      | 15, _ => show _ = some (Value.int .i64 (intOf (cs.toList.getD 15 (.int .i64 0)))); rw [List.getD_eq_getElem?_getD, hx]; rfl
      | 16, _ => show _ = some (Value.int .i64 (intOf (cs.toList.getD 16 (.int .i64 0)))); rw [List.getD_eq_getElem?_getD, hx]; rfl
      | 17, _ => show _ = some (Value.int .i64 (intOf (cs.toList.getD 17 (.int .i64 0)))); rw [List.getD_eq_getElem?_getD, hx]; rfl
      | 18, _ => show _ = some (Value.int .i64 (intOf (cs.toList.getD 18 (.int .i64 0)))); rw [List.getD_eq_getElem?_getD, hx]; rfl
      | 19, _ => show _ = some (Value.int .i64 (intOf (cs.toList.getD 19 (.int .i64 0)))); rw [List.getD_eq_getElem?_getD, hx]; rfl
      | 20, _ => show _ = some (Value.int .i64 (intOf (cs.toList.getD 20 (.int .i64 0)))); rw [List.getD_eq_getElem?_getD, hx]; rfl
      | 21, _ => show _ = some (Value.int .i64 (intOf (cs.toList.getD 21 (.int .i64 0)))); rw [List.getD_eq_getElem?_getD, hx]; rfl
      | 22, _ => show _ = some (Value.int .i64 (intOf (cs.toList.getD 22 (.int .i64 0)))); rw [List.getD_eq_getElem?_getD, hx]; rfl
      | 23, _ => show _ = some (Value.int .i64 (intOf (cs.toList.getD 23 (.int .i64 0)))); rw [List.getD_eq_getElem?_getD, hx]; rfl
      | 24, _ => show _ = some (Value.int .i64 (intOf (cs.toList.getD 24 (.int .i64 0)))); rw [List.getD_eq_getElem?_getD, hx]; rfl
      | 25, _ => show _ = some (Value.int .i64 (intOf (cs.toList.getD 25 (.int .i64 0)))); rw [List.getD_eq_getElem?_getD, hx]; rfl
      | 26, _ => show _ = some (Value.int .i64 (intOf (cs.toList.getD 26 (.int .i64 0)))); rw [List.getD_eq_getElem?_getD, hx]; rfl
      | n + 27, h => exact absurd h (by omega)
    · rw [List.getElem?_eq_none (by simp; omega), List.getElem?_eq_none (by show 27 ≤ i; omega)]
  · show R64 (intOf (cs.toList.getD i (.int .i64 0)))
    rw [List.getD_eq_getElem?_getD]
    by_cases hi : i < 27
    · obtain ⟨x, hx, hr⟩ := key i hi
      rw [hx]
      exact hr
    · rw [List.getElem?_eq_none (by simp; omega)]
      exact (show R64 0 by unfold R64; omega)
end
end Opn
end Go.Proofs.YtebfokjgeknciabGreatDoor
