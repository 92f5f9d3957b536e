import Derived.Test.YtebfokjgeknciaaPc2
import Derived.WalkKit
import Derived.ProofKit
import Derived.OpenShut
import Derived.SizedLaws
import Derived.Lib.SmallJoins
import Derived.Test.YtebfokjgeknciaaRows
import Derived.Test.YtebfokjgeknciaaPkO
import Derived.Test.YtebfokjgeknciaaPr9
import Derived.ShutString
import Derived.Below
namespace Go.Proofs.Ytebfokjgeknciaa
namespace Opn
open Go.ChangeShapes Go.WideShapes Go.ChangeAt Go.RowKit Go.Joins Pcm
set_option linter.unusedVariables false
set_option maxRecDepth 100000

theorem own : ownKnob Try.prog.godebug = none := by kernel_rfl
theorem laidOut : laidOutB Try.prog = true := by kernel_rfl
theorem i64_wf {x : Int} (h : (Lit.int .i64 x).wf = true) : R64 x := by
  have h1 : IntKind.i64.min = -9223372036854775808 := rfl
  have h2 : IntKind.i64.max = 9223372036854775807 := rfl
  simp only [Lit.wf, Bool.and_eq_true, decide_eq_true_eq] at h
  unfold R64
  omega
section
variable {H : Type} {enc : TypeId × Value → H} {w : World} {base : Nat} {spare : Nat → Bool} {held : Bool} {r : Reach} {b0 : Nat}

theorem cellsC : Try.prog.cellsOf 23 = 27 := by kernel_rfl
theorem cellsInt : Try.prog.cellsOf 3 = 1 := by kernel_rfl
/-- An argument that is a configuration. -/
theorem cfg {v : Value} {d : DataW H} {p : List MemPlace} (hv : Value.okWide Try.prog w r b0 23 v) (h : DataW.Trod enc Try.prog w base spare held 23 v d p) :
    ∃ c : Cf, v = .agg (cfgA c) ∧ RC c := by
  obtain ⟨cs, rfl, hsz⟩ := okWide_struct Try.underlying23 hv
  rw [cellsC] at hsz
  obtain ⟨fuel, hf⟩ := h
  obtain ⟨xs, n, _, _, _, hlen, hfi⟩ := DataW.trod_struct Try.underlying23 hf
  have key : ∀ i, i < 27 → ∃ x, cs.toList[i]? = some (.int .i64 x) ∧ R64 x := by
    intro i hi
    have hx : ∃ y, DataW.trod enc Try.prog w base spare held n 3 ((cs.toList.drop i).take 1) = some y := by
      have hxi : ∃ y, xs[i]? = some y := ⟨_, List.getElem?_eq_getElem (by rw [hlen]; exact hi)⟩
      obtain ⟨y, hy⟩ := hxi
      refine ⟨y, ?_⟩
      rw [← hy]
      match i, hi with
      | 0, _ => exact hfi 0 _ rfl
      | 1, _ => exact hfi 1 _ rfl
      | 2, _ => exact hfi 2 _ rfl
      | 3, _ => exact hfi 3 _ rfl
      | 4, _ => exact hfi 4 _ rfl
      | 5, _ => exact hfi 5 _ rfl
      | 6, _ => exact hfi 6 _ rfl
      | 7, _ => exact hfi 7 _ rfl
      | 8, _ => exact hfi 8 _ rfl
      | 9, _ => exact hfi 9 _ rfl
      | 10, _ => exact hfi 10 _ rfl
      | 11, _ => exact hfi 11 _ rfl
      | 12, _ => exact hfi 12 _ rfl
      | 13, _ => exact hfi 13 _ rfl
      | 14, _ => exact hfi 14 _ rfl
      | 15, _ => exact hfi 15 _ rfl
      | 16, _ => exact hfi 16 _ rfl
      | 17, _ => exact hfi 17 _ rfl
      | 18, _ => exact hfi 18 _ rfl
      | 19, _ => exact hfi 19 _ rfl
      | 20, _ => exact hfi 20 _ rfl
      | 21, _ => exact hfi 21 _ rfl
      | 22, _ => exact hfi 22 _ rfl
      | 23, _ => exact hfi 23 _ rfl
      | 24, _ => exact hfi 24 _ rfl
      | 25, _ => exact hfi 25 _ rfl
      | 26, _ => exact hfi 26 _ rfl
      | n + 27, h => exact absurd h (by omega)
    obtain ⟨y, hy⟩ := hx
    obtain ⟨m, hm, _, hwf⟩ := DataW.trod_int Try.underlying3 hy
    refine ⟨m, ?_, i64_wf hwf⟩
    have := congrArg (fun l => l[0]?) hm
    simpa [List.getElem?_take, List.getElem?_drop] using this
  refine ⟨fun i => intOf (cs.toList.getD i (.int .i64 0)), ?_, fun i => ?_⟩
  · congr 1
    apply Array.ext'
    apply List.ext_getElem?
    intro i
    by_cases hi : i < 27
    · obtain ⟨x, hx, _⟩ := key i hi
      rw [hx]
      match i, hi with
      | 0, _ => show _ = some (Value.int .i64 (intOf (cs.toList.getD 0 (.int .i64 0)))); rw [List.getD_eq_getElem?_getD, hx]; rfl
      | 1, _ => show _ = some (Value.int .i64 (intOf (cs.toList.getD 1 (.int .i64 0)))); rw [List.getD_eq_getElem?_getD, hx]; rfl
      | 2, _ => show _ = some (Value.int .i64 (intOf (cs.toList.getD 2 (.int .i64 0)))); rw [List.getD_eq_getElem?_getD, hx]; rfl
      | 3, _ => show _ = some (Value.int .i64 (intOf (cs.toList.getD 3 (.int .i64 0)))); rw [List.getD_eq_getElem?_getD, hx]; rfl
      | 4, _ => show _ = some (Value.int .i64 (intOf (cs.toList.getD 4 (.int .i64 0)))); rw [List.getD_eq_getElem?_getD, hx]; rfl
      | 5, _ => show _ = some (Value.int .i64 (intOf (cs.toList.getD 5 (.int .i64 0)))); rw [List.getD_eq_getElem?_getD, hx]; rfl
      | 6, _ => show _ = some (Value.int .i64 (intOf (cs.toList.getD 6 (.int .i64 0)))); rw [List.getD_eq_getElem?_getD, hx]; rfl
      | 7, _ => show _ = some (Value.int .i64 (intOf (cs.toList.getD 7 (.int .i64 0)))); rw [List.getD_eq_getElem?_getD, hx]; rfl
      | 8, _ => show _ = some (Value.int .i64 (intOf (cs.toList.getD 8 (.int .i64 0)))); rw [List.getD_eq_getElem?_getD, hx]; rfl
      | 9, _ => show _ = some (Value.int .i64 (intOf (cs.toList.getD 9 (.int .i64 0)))); rw [List.getD_eq_getElem?_getD, hx]; rfl
      | 10, _ => show _ = some (Value.int .i64 (intOf (cs.toList.getD 10 (.int .i64 0)))); rw [List.getD_eq_getElem?_getD, hx]; rfl
      | 11, _ => show _ = some (Value.int .i64 (intOf (cs.toList.getD 11 (.int .i64 0)))); rw [List.getD_eq_getElem?_getD, hx]; rfl
      | 12, _ => show _ = some (Value.int .i64 (intOf (cs.toList.getD 12 (.int .i64 0)))); rw [List.getD_eq_getElem?_getD, hx]; rfl
      | 13, _ => show _ = some (Value.int .i64 (intOf (cs.toList.getD 13 (.int .i64 0)))); rw [List.getD_eq_getElem?_getD, hx]; rfl
      | 14, _ => show _ = some (Value.int .i64 (intOf (cs.toList.getD 14 (.int .i64 0)))); rw [List.getD_eq_getElem?_getD, hx]; rfl
      | 15, _ => show _ = some (Value.int .i64 (intOf (cs.toList.getD 15 (.int .i64 0)))); rw [List.getD_eq_getElem?_getD, hx]; rfl
      | 16, _ => show _ = some (Value.int .i64 (intOf (cs.toList.getD 16 (.int .i64 0)))); rw [List.getD_eq_getElem?_getD, hx]; rfl
      | 17, _ => show _ = some (Value.int .i64 (intOf (cs.toList.getD 17 (.int .i64 0)))); rw [List.getD_eq_getElem?_getD, hx]; rfl
      | 18, _ => show _ = some (Value.int .i64 (intOf (cs.toList.getD 18 (.int .i64 0)))); rw [List.getD_eq_getElem?_getD, hx]; rfl
      | 19, _ => show _ = some (Value.int .i64 (intOf (cs.toList.getD 19 (.int .i64 0)))); rw [List.getD_eq_getElem?_getD, hx]; rfl
      | 20, _ => show _ = some (Value.int .i64 (intOf (cs.toList.getD 20 (.int .i64 0)))); rw [List.getD_eq_getElem?_getD, hx]; rfl
      | 21, _ => show _ = some (Value.int .i64 (intOf (cs.toList.getD 21 (.int .i64 0)))); rw [List.getD_eq_getElem?_getD, hx]; rfl
      | 22, _ => show _ = some (Value.int .i64 (intOf (cs.toList.getD 22 (.int .i64 0)))); rw [List.getD_eq_getElem?_getD, hx]; rfl
      | 23, _ => show _ = some (Value.int .i64 (intOf (cs.toList.getD 23 (.int .i64 0)))); rw [List.getD_eq_getElem?_getD, hx]; rfl
      | 24, _ => show _ = some (Value.int .i64 (intOf (cs.toList.getD 24 (.int .i64 0)))); rw [List.getD_eq_getElem?_getD, hx]; rfl
      | 25, _ => show _ = some (Value.int .i64 (intOf (cs.toList.getD 25 (.int .i64 0)))); rw [List.getD_eq_getElem?_getD, hx]; rfl
      | 26, _ => show _ = some (Value.int .i64 (intOf (cs.toList.getD 26 (.int .i64 0)))); rw [List.getD_eq_getElem?_getD, hx]; rfl
      | n + 27, h => exact absurd h (by omega)
    · rw [List.getElem?_eq_none (by simp; omega), List.getElem?_eq_none (by show 27 ≤ i; omega)]
  · show R64 (intOf (cs.toList.getD i (.int .i64 0)))
    rw [List.getD_eq_getElem?_getD]
    by_cases hi : i < 27
    · obtain ⟨x, hx, hr⟩ := key i hi
      rw [hx]
      exact hr
    · rw [List.getElem?_eq_none (by simp; omega)]
      exact (show R64 0 by unfold R64; omega)
end
end Opn
end Go.Proofs.Ytebfokjgeknciaa
namespace Go.Proofs.Ytebfokjgeknciaa
namespace PaceCaps
open Go.ChangeShapes Go.WideShapes Go.ChangeAt Go.RowKit Pcm
open Go.ChangeMaps (open_string shut_string)
set_option linter.unusedVariables false
set_option maxRecDepth 100000

def lawOps : Array Oper := List.toArray ({ dst := some 9, op := Go.Op.load 23 (Go.Operand.tmp 2), type := 23, pos := "law.go:84", after := #[], guard := none } :: { dst := some 10, op := Go.Op.move (Go.Operand.tmp 1), type := 3, pos := "law.go:84", after := #[], guard := none } :: { dst := some 11, op := Go.Op.call { callee := Go.Callee.value (Go.Operand.func 16), args := #[Go.Operand.tmp 9, Go.Operand.tmp 10], argTypes := #[23, 3] }, type := 3, pos := "law.go:84", after := #[{ on := 0, ground := Go.Ground.data }, { on := 1, ground := Go.Ground.data }], guard := none } :: { dst := some 12, op := Go.Op.load 23 (Go.Operand.tmp 2), type := 23, pos := "law.go:84", after := #[], guard := none } :: { dst := some 13, op := Go.Op.move (Go.Operand.tmp 1), type := 3, pos := "law.go:84", after := #[], guard := none } :: { dst := some 14, op := Go.Op.call { callee := Go.Callee.value (Go.Operand.func 17), args := #[Go.Operand.tmp 12, Go.Operand.tmp 13], argTypes := #[23, 3] }, type := 3, pos := "law.go:84", after := #[{ on := 3, ground := Go.Ground.data }, { on := 4, ground := Go.Ground.data }, { on := 2, ground := Go.Ground.chain }], guard := none } :: { dst := some 15, op := Go.Op.binOp Go.BinOp.eql 3 (Go.Operand.tmp 11) (Go.Operand.tmp 14) 3, type := 4, pos := "law.go:84", after := #[{ on := 2, ground := Go.Ground.data }, { on := 5, ground := Go.Ground.data }], guard := none } :: { dst := some 16, op := Go.Op.move (Go.Operand.tmp 15), type := 4, pos := "law.go:84", after := #[{ on := 6, ground := Go.Ground.data }, { on := 5, ground := Go.Ground.chain }], guard := none } :: { dst := some 17, op := Go.Op.load 23 (Go.Operand.tmp 2), type := 23, pos := "law.go:84", after := #[{ on := 7, ground := Go.Ground.guard }], guard := some (7, true) } :: { dst := some 18, op := Go.Op.call { callee := Go.Callee.value (Go.Operand.func 18), args := #[Go.Operand.tmp 17], argTypes := #[23] }, type := 3, pos := "law.go:84", after := #[{ on := 8, ground := Go.Ground.data }, { on := 7, ground := Go.Ground.chain }, { on := 7, ground := Go.Ground.guard }], guard := some (7, true) } :: { dst := some 19, op := Go.Op.load 23 (Go.Operand.tmp 2), type := 23, pos := "law.go:84", after := #[{ on := 7, ground := Go.Ground.guard }], guard := some (7, true) } :: { dst := some 20, op := Go.Op.call { callee := Go.Callee.value (Go.Operand.func 19), args := #[Go.Operand.tmp 19], argTypes := #[23] }, type := 3, pos := "law.go:84", after := #[{ on := 10, ground := Go.Ground.data }, { on := 9, ground := Go.Ground.chain }, { on := 7, ground := Go.Ground.guard }], guard := some (7, true) } :: { dst := some 21, op := Go.Op.binOp Go.BinOp.eql 3 (Go.Operand.tmp 18) (Go.Operand.tmp 20) 3, type := 4, pos := "law.go:84", after := #[{ on := 9, ground := Go.Ground.data }, { on := 11, ground := Go.Ground.data }, { on := 7, ground := Go.Ground.guard }], guard := some (7, true) } :: { dst := some 22, op := Go.Op.pick (Go.Operand.tmp 16) (Go.Operand.tmp 21) (Go.Operand.const (Go.Value.bool false)), type := 4, pos := "law.go:84", after := #[{ on := 7, ground := Go.Ground.data }, { on := 12, ground := Go.Ground.data }], guard := none } :: { dst := some 23, op := Go.Op.move (Go.Operand.tmp 22), type := 4, pos := "law.go:84", after := #[{ on := 13, ground := Go.Ground.data }, { on := 11, ground := Go.Ground.chain }], guard := none } :: { dst := some 24, op := Go.Op.load 23 (Go.Operand.tmp 2), type := 23, pos := "law.go:84", after := #[{ on := 14, ground := Go.Ground.guard }], guard := some (14, true) } :: { dst := some 25, op := Go.Op.call { callee := Go.Callee.value (Go.Operand.func 20), args := #[Go.Operand.tmp 24], argTypes := #[23] }, type := 3, pos := "law.go:84", after := #[{ on := 15, ground := Go.Ground.data }, { on := 14, ground := Go.Ground.chain }, { on := 14, ground := Go.Ground.guard }], guard := some (14, true) } :: { dst := some 26, op := Go.Op.load 23 (Go.Operand.tmp 2), type := 23, pos := "law.go:84", after := #[{ on := 14, ground := Go.Ground.guard }], guard := some (14, true) } :: { dst := some 27, op := Go.Op.call { callee := Go.Callee.value (Go.Operand.func 21), args := #[Go.Operand.tmp 26], argTypes := #[23] }, type := 3, pos := "law.go:84", after := #[{ on := 17, ground := Go.Ground.data }, { on := 16, ground := Go.Ground.chain }, { on := 14, ground := Go.Ground.guard }], guard := some (14, true) } :: { dst := some 28, op := Go.Op.binOp Go.BinOp.eql 3 (Go.Operand.tmp 25) (Go.Operand.tmp 27) 3, type := 4, pos := "law.go:84", after := #[{ on := 16, ground := Go.Ground.data }, { on := 18, ground := Go.Ground.data }, { on := 14, ground := Go.Ground.guard }], guard := some (14, true) } :: { dst := some 29, op := Go.Op.pick (Go.Operand.tmp 23) (Go.Operand.tmp 28) (Go.Operand.const (Go.Value.bool false)), type := 4, pos := "law.go:84", after := #[{ on := 14, ground := Go.Ground.data }, { on := 19, ground := Go.Ground.data }], guard := none } :: { dst := some 30, op := Go.Op.move (Go.Operand.tmp 29), type := 4, pos := "law.go:84", after := #[{ on := 20, ground := Go.Ground.data }, { on := 18, ground := Go.Ground.chain }], guard := none } :: { dst := some 31, op := Go.Op.load 23 (Go.Operand.tmp 2), type := 23, pos := "law.go:84", after := #[{ on := 21, ground := Go.Ground.guard }], guard := some (21, true) } :: { dst := some 32, op := Go.Op.call { callee := Go.Callee.value (Go.Operand.func 22), args := #[Go.Operand.tmp 31], argTypes := #[23] }, type := 3, pos := "law.go:84", after := #[{ on := 22, ground := Go.Ground.data }, { on := 21, ground := Go.Ground.chain }, { on := 21, ground := Go.Ground.guard }], guard := some (21, true) } :: { dst := some 33, op := Go.Op.load 23 (Go.Operand.tmp 2), type := 23, pos := "law.go:84", after := #[{ on := 21, ground := Go.Ground.guard }], guard := some (21, true) } :: { dst := some 34, op := Go.Op.call { callee := Go.Callee.value (Go.Operand.func 23), args := #[Go.Operand.tmp 33], argTypes := #[23] }, type := 3, pos := "law.go:84", after := #[{ on := 24, ground := Go.Ground.data }, { on := 23, ground := Go.Ground.chain }, { on := 21, ground := Go.Ground.guard }], guard := some (21, true) } :: { dst := some 35, op := Go.Op.binOp Go.BinOp.eql 3 (Go.Operand.tmp 32) (Go.Operand.tmp 34) 3, type := 4, pos := "law.go:84", after := #[{ on := 23, ground := Go.Ground.data }, { on := 25, ground := Go.Ground.data }, { on := 21, ground := Go.Ground.guard }], guard := some (21, true) } :: { dst := some 36, op := Go.Op.pick (Go.Operand.tmp 30) (Go.Operand.tmp 35) (Go.Operand.const (Go.Value.bool false)), type := 4, pos := "law.go:84", after := #[{ on := 21, ground := Go.Ground.data }, { on := 26, ground := Go.Ground.data }], guard := none } :: { dst := some 37, op := Go.Op.move (Go.Operand.tmp 36), type := 4, pos := "law.go:84", after := #[{ on := 27, ground := Go.Ground.data }, { on := 25, ground := Go.Ground.chain }], guard := none } :: { dst := some 38, op := Go.Op.load 23 (Go.Operand.tmp 2), type := 23, pos := "law.go:84", after := #[{ on := 28, ground := Go.Ground.guard }], guard := some (28, true) } :: { dst := some 39, op := Go.Op.call { callee := Go.Callee.value (Go.Operand.func 24), args := #[Go.Operand.tmp 38], argTypes := #[23] }, type := 3, pos := "law.go:84", after := #[{ on := 29, ground := Go.Ground.data }, { on := 28, ground := Go.Ground.chain }, { on := 28, ground := Go.Ground.guard }], guard := some (28, true) } :: { dst := some 40, op := Go.Op.load 23 (Go.Operand.tmp 2), type := 23, pos := "law.go:84", after := #[{ on := 28, ground := Go.Ground.guard }], guard := some (28, true) } :: { dst := some 41, op := Go.Op.call { callee := Go.Callee.value (Go.Operand.func 25), args := #[Go.Operand.tmp 40], argTypes := #[23] }, type := 3, pos := "law.go:84", after := #[{ on := 31, ground := Go.Ground.data }, { on := 30, ground := Go.Ground.chain }, { on := 28, ground := Go.Ground.guard }], guard := some (28, true) } :: { dst := some 42, op := Go.Op.binOp Go.BinOp.eql 3 (Go.Operand.tmp 39) (Go.Operand.tmp 41) 3, type := 4, pos := "law.go:84", after := #[{ on := 30, ground := Go.Ground.data }, { on := 32, ground := Go.Ground.data }, { on := 28, ground := Go.Ground.guard }], guard := some (28, true) } :: { dst := some 43, op := Go.Op.pick (Go.Operand.tmp 37) (Go.Operand.tmp 42) (Go.Operand.const (Go.Value.bool false)), type := 4, pos := "law.go:84", after := #[{ on := 28, ground := Go.Ground.data }, { on := 33, ground := Go.Ground.data }], guard := none } :: { dst := some 4, op := Go.Op.assign (Go.Operand.tmp 43), type := 4, pos := "law.go:84", after := #[{ on := 34, ground := Go.Ground.data }, { on := 32, ground := Go.Ground.chain }, { on := 0, ground := Go.Ground.phase }, { on := 1, ground := Go.Ground.phase }, { on := 2, ground := Go.Ground.phase }, { on := 3, ground := Go.Ground.phase }, { on := 4, ground := Go.Ground.phase }, { on := 5, ground := Go.Ground.phase }, { on := 6, ground := Go.Ground.phase }, { on := 7, ground := Go.Ground.phase }, { on := 8, ground := Go.Ground.phase }, { on := 9, ground := Go.Ground.phase }, { on := 10, ground := Go.Ground.phase }, { on := 11, ground := Go.Ground.phase }, { on := 12, ground := Go.Ground.phase }, { on := 13, ground := Go.Ground.phase }, { on := 14, ground := Go.Ground.phase }, { on := 15, ground := Go.Ground.phase }, { on := 16, ground := Go.Ground.phase }, { on := 17, ground := Go.Ground.phase }, { on := 18, ground := Go.Ground.phase }, { on := 19, ground := Go.Ground.phase }, { on := 20, ground := Go.Ground.phase }, { on := 21, ground := Go.Ground.phase }, { on := 22, ground := Go.Ground.phase }, { on := 23, ground := Go.Ground.phase }, { on := 24, ground := Go.Ground.phase }, { on := 25, ground := Go.Ground.phase }, { on := 26, ground := Go.Ground.phase }, { on := 27, ground := Go.Ground.phase }, { on := 28, ground := Go.Ground.phase }, { on := 29, ground := Go.Ground.phase }, { on := 30, ground := Go.Ground.phase }, { on := 31, ground := Go.Ground.phase }, { on := 32, ground := Go.Ground.phase }, { on := 33, ground := Go.Ground.phase }, { on := 34, ground := Go.Ground.phase }], guard := none } :: [])
set_option maxHeartbeats 8000000 in
theorem walk (c : Cf) (hc : RC c) (l : Int) (hl : R64 l) (w : World) : Calls Try.prog 5 #[.agg (cfgA c), .int .i64 l] w fun e w' => e = .returned (.bool true) ∧ Below w.heap.size w w' := by
  obtain ⟨v1, hv1⟩ : ∃ v, rk c (plim c l) = v := ⟨_, rfl⟩
  obtain ⟨v2, hv2⟩ : ∃ v, rk c (plsum c) = v := ⟨_, rfl⟩
  obtain ⟨v3, hv3⟩ : ∃ v, rk c (pmem c) = v := ⟨_, rfl⟩
  obtain ⟨v4, hv4⟩ : ∃ v, rk c (pfile c) = v := ⟨_, rfl⟩
  obtain ⟨v5, hv5⟩ : ∃ v, rk c (pdebt c) = v := ⟨_, rfl⟩
  have C1 : ∀ V, Calls Try.prog 16 #[.agg (cfgA c), .int .i64 l] V fun e w' => e = .returned (.int .i64 v1) ∧ Below V.heap.size V w' := fun V => by rw [← hv1]; exact limitF_any c hc l hl V
  have R1 : ∀ V, Calls Try.prog 17 #[.agg (cfgA c), .int .i64 l] V fun e w' => e = .returned (.int .i64 v1) ∧ Below V.heap.size V w' := fun V => by rw [← hv1]; exact rlimit_any c hc l hl V
  have C2 : ∀ V, Calls Try.prog 18 #[.agg (cfgA c)] V fun e w' => e = .returned (.int .i64 v2) ∧ Below V.heap.size V w' := fun V => by rw [← hv2]; exact limitSumF_any c hc V
  have R2 : ∀ V, Calls Try.prog 19 #[.agg (cfgA c)] V fun e w' => e = .returned (.int .i64 v2) ∧ Below V.heap.size V w' := fun V => by rw [← hv2]; exact rlimitSum_any c hc V
  have C3 : ∀ V, Calls Try.prog 20 #[.agg (cfgA c)] V fun e w' => e = .returned (.int .i64 v3) ∧ Below V.heap.size V w' := fun V => by rw [← hv3]; exact memCapF_any c hc V
  have R3 : ∀ V, Calls Try.prog 21 #[.agg (cfgA c)] V fun e w' => e = .returned (.int .i64 v3) ∧ Below V.heap.size V w' := fun V => by rw [← hv3]; exact rmemCap_any c hc V
  have C4 : ∀ V, Calls Try.prog 22 #[.agg (cfgA c)] V fun e w' => e = .returned (.int .i64 v4) ∧ Below V.heap.size V w' := fun V => by rw [← hv4]; exact fileCapF_any c hc V
  have R4 : ∀ V, Calls Try.prog 23 #[.agg (cfgA c)] V fun e w' => e = .returned (.int .i64 v4) ∧ Below V.heap.size V w' := fun V => by rw [← hv4]; exact rfileCap_any c hc V
  have C5 : ∀ V, Calls Try.prog 24 #[.agg (cfgA c)] V fun e w' => e = .returned (.int .i64 v5) ∧ Below V.heap.size V w' := fun V => by rw [← hv5]; exact debtCapF_any c hc V
  have R5 : ∀ V, Calls Try.prog 25 #[.agg (cfgA c)] V fun e w' => e = .returned (.int .i64 v5) ∧ Below V.heap.size V w' := fun V => by rw [← hv5]; exact rdebtCap_any c hc V
  clear hc hl
  clear hv1 hv2 hv3 hv4 hv5
  have hL0 := lc_new w c 23
  have hz0 : w.heap.size < (w.alloc (.cells (cfgA c) 23)).heap.size := by simp
  have HB0 : Hid (Below w.heap.size w (w.alloc (.cells (cfgA c) 23))) := (Below.refl _ _).alloc (Nat.le_refl _) _
  go_enter Try.func5, Try.ntmps5
  go_upto_region 4 with ((go_at_call 9; go_loud (refine (known_any _).mono ?_; rintro e w1 ⟨rfl, hb1⟩; have HB1 : Hid (Below w.heap.size w w1) := HB0.out.trans (hb1.mono HB0.out.size); have hL1 := hL0.keep hz0 hb1; have hz1 : w.heap.size < w1.heap.size := Nat.lt_of_lt_of_le hz0 hb1.size; clear hb1)))
  clear hL0 hz0
  have hF := hL1
  have hz := hz1
  generalize w1 = W at *
  change Code.wp _ (Code.region 4 lawOps true) _ _ _
  have hns : Region.noSelect lawOps = true := by kernel_rfl
  refine startL (S := (Sf W w.heap.size c)) 36 (List.toArray (false :: false :: false :: false :: false :: false :: false :: false :: false :: false :: false :: false :: false :: false :: false :: false :: false :: false :: false :: false :: false :: false :: false :: false :: false :: false :: false :: false :: false :: false :: false :: false :: false :: false :: false :: false :: [])) (by kernel_rfl) (by kernel_rfl) (by rfl) ?_ (fun hHeld => ?_)
  · exact Sf.mk hF hz (Below.refl _ _).drew
  refine takeL (i := 0) (oi := { dst := some 9, op := Go.Op.load 23 (Go.Operand.tmp 2), type := 23, pos := "law.go:84", after := #[], guard := none }) (List.toArray (true :: false :: false :: false :: false :: false :: false :: false :: false :: false :: false :: false :: false :: false :: false :: false :: false :: false :: false :: false :: false :: false :: false :: false :: false :: false :: false :: false :: false :: false :: false :: false :: false :: false :: false :: false :: [])) hns (by kernel_rfl) (by kernel_rfl) (by kernel_rfl) (by rfl) (fun _ _ _ h => h) (yl_cfg (by rfl) _ (by rfl) (by rfl) (fun V h => h.1)) hHeld ?_
  try simp only [Act.put, List.setIfInBounds_toArray, List.set_cons_zero, List.set_cons_succ]
  refine takeL (i := 1) (oi := { dst := some 10, op := Go.Op.move (Go.Operand.tmp 1), type := 3, pos := "law.go:84", after := #[], guard := none }) (v := ?_) (List.toArray (true :: true :: false :: false :: false :: false :: false :: false :: false :: false :: false :: false :: false :: false :: false :: false :: false :: false :: false :: false :: false :: false :: false :: false :: false :: false :: false :: false :: false :: false :: false :: false :: false :: false :: false :: false :: [])) hns (by kernel_rfl) (by kernel_rfl) (by kernel_rfl) (by rfl) (fun _ _ _ h => h) (Or.inl ⟨by rfl, ?_⟩) hHeld ?_
  rotate_left
  · (intro wq hSw; (try dsimp only at hSw); go_simp; try (with_reducible rfl))
  try simp only [Act.put, List.setIfInBounds_toArray, List.set_cons_zero, List.set_cons_succ]
  refine takeL (i := 3) (oi := { dst := some 12, op := Go.Op.load 23 (Go.Operand.tmp 2), type := 23, pos := "law.go:84", after := #[], guard := none }) (List.toArray (true :: true :: false :: true :: false :: false :: false :: false :: false :: false :: false :: false :: false :: false :: false :: false :: false :: false :: false :: false :: false :: false :: false :: false :: false :: false :: false :: false :: false :: false :: false :: false :: false :: false :: false :: false :: [])) hns (by kernel_rfl) (by kernel_rfl) (by kernel_rfl) (by rfl) (fun _ _ _ h => h) (yl_cfg (by rfl) _ (by rfl) (by rfl) (fun V h => h.1)) hHeld ?_
  try simp only [Act.put, List.setIfInBounds_toArray, List.set_cons_zero, List.set_cons_succ]
  refine takeL (i := 4) (oi := { dst := some 13, op := Go.Op.move (Go.Operand.tmp 1), type := 3, pos := "law.go:84", after := #[], guard := none }) (v := ?_) (List.toArray (true :: true :: false :: true :: true :: false :: false :: false :: false :: false :: false :: false :: false :: false :: false :: false :: false :: false :: false :: false :: false :: false :: false :: false :: false :: false :: false :: false :: false :: false :: false :: false :: false :: false :: false :: false :: [])) hns (by kernel_rfl) (by kernel_rfl) (by kernel_rfl) (by rfl) (fun _ _ _ h => h) (Or.inl ⟨by rfl, ?_⟩) hHeld ?_
  rotate_left
  · (intro wq hSw; (try dsimp only at hSw); go_simp; try (with_reducible rfl))
  try simp only [Act.put, List.setIfInBounds_toArray, List.set_cons_zero, List.set_cons_succ]
  refine stepL (i := 2) (o := { dst := some 11, op := Go.Op.call { callee := Go.Callee.value (Go.Operand.func 16), args := #[Go.Operand.tmp 9, Go.Operand.tmp 10], argTypes := #[23, 3] }, type := 3, pos := "law.go:84", after := #[{ on := 0, ground := Go.Ground.data }, { on := 1, ground := Go.Ground.data }], guard := none }) (List.toArray (true :: true :: true :: true :: true :: false :: false :: false :: false :: false :: false :: false :: false :: false :: false :: false :: false :: false :: false :: false :: false :: false :: false :: false :: false :: false :: false :: false :: false :: false :: false :: false :: false :: false :: false :: false :: [])) (by kernel_rfl) (by rfl) (by kernel_rfl) (fun K hK => ?_)
  go_simp
  refine (C1 _).mono ?_
  rintro e w9 ⟨rfl, hb9⟩
  try dsimp only
  refine hK.out _ _ ?_ (fun hHeld => ?_)
  · exact Sf.mk hF hz ((Sf.below hHeld).trans (hb9.mono (Sf.below hHeld).size))
  clear hK K
  try simp only [Act.put, List.setIfInBounds_toArray, List.set_cons_zero, List.set_cons_succ]
  refine stepL (i := 5) (o := { dst := some 14, op := Go.Op.call { callee := Go.Callee.value (Go.Operand.func 17), args := #[Go.Operand.tmp 12, Go.Operand.tmp 13], argTypes := #[23, 3] }, type := 3, pos := "law.go:84", after := #[{ on := 3, ground := Go.Ground.data }, { on := 4, ground := Go.Ground.data }, { on := 2, ground := Go.Ground.chain }], guard := none }) (List.toArray (true :: true :: true :: true :: true :: true :: false :: false :: false :: false :: false :: false :: false :: false :: false :: false :: false :: false :: false :: false :: false :: false :: false :: false :: false :: false :: false :: false :: false :: false :: false :: false :: false :: false :: false :: false :: [])) (by kernel_rfl) (by rfl) (by kernel_rfl) (fun K hK => ?_)
  go_simp
  refine (R1 _).mono ?_
  rintro e w9 ⟨rfl, hb9⟩
  try dsimp only
  refine hK.out _ _ ?_ (fun hHeld => ?_)
  · exact Sf.mk hF hz ((Sf.below hHeld).trans (hb9.mono (Sf.below hHeld).size))
  clear hK K
  try simp only [Act.put, List.setIfInBounds_toArray, List.set_cons_zero, List.set_cons_succ]
  refine takeL (i := 6) (oi := { dst := some 15, op := Go.Op.binOp Go.BinOp.eql 3 (Go.Operand.tmp 11) (Go.Operand.tmp 14) 3, type := 4, pos := "law.go:84", after := #[{ on := 2, ground := Go.Ground.data }, { on := 5, ground := Go.Ground.data }], guard := none }) (v := ?_) (List.toArray (true :: true :: true :: true :: true :: true :: true :: false :: false :: false :: false :: false :: false :: false :: false :: false :: false :: false :: false :: false :: false :: false :: false :: false :: false :: false :: false :: false :: false :: false :: false :: false :: false :: false :: false :: false :: [])) hns (by kernel_rfl) (by kernel_rfl) (by kernel_rfl) (by rfl) (fun _ _ _ h => h) (Or.inl ⟨by rfl, ?_⟩) hHeld ?_
  rotate_left
  · (intro wq hSw; (try dsimp only at hSw); go_simp; try (with_reducible rfl))
  try simp only [Act.put, List.setIfInBounds_toArray, List.set_cons_zero, List.set_cons_succ]
  refine takeL (i := 7) (oi := { dst := some 16, op := Go.Op.move (Go.Operand.tmp 15), type := 4, pos := "law.go:84", after := #[{ on := 6, ground := Go.Ground.data }, { on := 5, ground := Go.Ground.chain }], guard := none }) (v := ?_) (List.toArray (true :: true :: true :: true :: true :: true :: true :: true :: false :: false :: false :: false :: false :: false :: false :: false :: false :: false :: false :: false :: false :: false :: false :: false :: false :: false :: false :: false :: false :: false :: false :: false :: false :: false :: false :: false :: [])) hns (by kernel_rfl) (by kernel_rfl) (by kernel_rfl) (by rfl) (fun _ _ _ h => h) (Or.inl ⟨by rfl, ?_⟩) hHeld ?_
  rotate_left
  · (intro wq hSw; (try dsimp only at hSw); go_simp; try (with_reducible rfl))
  try simp only [Act.put, List.setIfInBounds_toArray, List.set_cons_zero, List.set_cons_succ]
  refine takeL (i := 8) (oi := { dst := some 17, op := Go.Op.load 23 (Go.Operand.tmp 2), type := 23, pos := "law.go:84", after := #[{ on := 7, ground := Go.Ground.guard }], guard := some (7, true) }) (List.toArray (true :: true :: true :: true :: true :: true :: true :: true :: true :: false :: false :: false :: false :: false :: false :: false :: false :: false :: false :: false :: false :: false :: false :: false :: false :: false :: false :: false :: false :: false :: false :: false :: false :: false :: false :: false :: [])) hns (by kernel_rfl) (by kernel_rfl) (by kernel_rfl) (by rfl) (fun _ _ _ h => h) (yl_cfg (by rfl) _ (by rfl) (by rfl) (fun V h => h.1)) hHeld ?_
  try simp only [Act.put, List.setIfInBounds_toArray, List.set_cons_zero, List.set_cons_succ]
  refine takeL (i := 10) (oi := { dst := some 19, op := Go.Op.load 23 (Go.Operand.tmp 2), type := 23, pos := "law.go:84", after := #[{ on := 7, ground := Go.Ground.guard }], guard := some (7, true) }) (List.toArray (true :: true :: true :: true :: true :: true :: true :: true :: true :: false :: true :: false :: false :: false :: false :: false :: false :: false :: false :: false :: false :: false :: false :: false :: false :: false :: false :: false :: false :: false :: false :: false :: false :: false :: false :: false :: [])) hns (by kernel_rfl) (by kernel_rfl) (by kernel_rfl) (by rfl) (fun _ _ _ h => h) (yl_cfg (by rfl) _ (by rfl) (by rfl) (fun V h => h.1)) hHeld ?_
  try simp only [Act.put, List.setIfInBounds_toArray, List.set_cons_zero, List.set_cons_succ]
  refine stepL (i := 9) (o := { dst := some 18, op := Go.Op.call { callee := Go.Callee.value (Go.Operand.func 18), args := #[Go.Operand.tmp 17], argTypes := #[23] }, type := 3, pos := "law.go:84", after := #[{ on := 8, ground := Go.Ground.data }, { on := 7, ground := Go.Ground.chain }, { on := 7, ground := Go.Ground.guard }], guard := some (7, true) }) (List.toArray (true :: true :: true :: true :: true :: true :: true :: true :: true :: true :: true :: false :: false :: false :: false :: false :: false :: false :: false :: false :: false :: false :: false :: false :: false :: false :: false :: false :: false :: false :: false :: false :: false :: false :: false :: false :: [])) (by kernel_rfl) (by rfl) (by kernel_rfl) (fun K hK => ?_)
  go_simp
  refine (C2 _).mono ?_
  rintro e w9 ⟨rfl, hb9⟩
  try dsimp only
  refine hK.out _ _ ?_ (fun hHeld => ?_)
  · exact Sf.mk hF hz ((Sf.below hHeld).trans (hb9.mono (Sf.below hHeld).size))
  clear hK K
  try simp only [Act.put, List.setIfInBounds_toArray, List.set_cons_zero, List.set_cons_succ]
  refine stepL (i := 11) (o := { dst := some 20, op := Go.Op.call { callee := Go.Callee.value (Go.Operand.func 19), args := #[Go.Operand.tmp 19], argTypes := #[23] }, type := 3, pos := "law.go:84", after := #[{ on := 10, ground := Go.Ground.data }, { on := 9, ground := Go.Ground.chain }, { on := 7, ground := Go.Ground.guard }], guard := some (7, true) }) (List.toArray (true :: true :: true :: true :: true :: true :: true :: true :: true :: true :: true :: true :: false :: false :: false :: false :: false :: false :: false :: false :: false :: false :: false :: false :: false :: false :: false :: false :: false :: false :: false :: false :: false :: false :: false :: false :: [])) (by kernel_rfl) (by rfl) (by kernel_rfl) (fun K hK => ?_)
  go_simp
  refine (R2 _).mono ?_
  rintro e w9 ⟨rfl, hb9⟩
  try dsimp only
  refine hK.out _ _ ?_ (fun hHeld => ?_)
  · exact Sf.mk hF hz ((Sf.below hHeld).trans (hb9.mono (Sf.below hHeld).size))
  clear hK K
  try simp only [Act.put, List.setIfInBounds_toArray, List.set_cons_zero, List.set_cons_succ]
  refine takeL (i := 12) (oi := { dst := some 21, op := Go.Op.binOp Go.BinOp.eql 3 (Go.Operand.tmp 18) (Go.Operand.tmp 20) 3, type := 4, pos := "law.go:84", after := #[{ on := 9, ground := Go.Ground.data }, { on := 11, ground := Go.Ground.data }, { on := 7, ground := Go.Ground.guard }], guard := some (7, true) }) (v := ?_) (List.toArray (true :: true :: true :: true :: true :: true :: true :: true :: true :: true :: true :: true :: true :: false :: false :: false :: false :: false :: false :: false :: false :: false :: false :: false :: false :: false :: false :: false :: false :: false :: false :: false :: false :: false :: false :: false :: [])) hns (by kernel_rfl) (by kernel_rfl) (by kernel_rfl) (by rfl) (fun _ _ _ h => h) (Or.inl ⟨by rfl, ?_⟩) hHeld ?_
  rotate_left
  · (intro wq hSw; (try dsimp only at hSw); go_simp; try (with_reducible rfl))
  try simp only [Act.put, List.setIfInBounds_toArray, List.set_cons_zero, List.set_cons_succ]
  refine takeL (i := 13) (oi := { dst := some 22, op := Go.Op.pick (Go.Operand.tmp 16) (Go.Operand.tmp 21) (Go.Operand.const (Go.Value.bool false)), type := 4, pos := "law.go:84", after := #[{ on := 7, ground := Go.Ground.data }, { on := 12, ground := Go.Ground.data }], guard := none }) (v := ?_) (List.toArray (true :: true :: true :: true :: true :: true :: true :: true :: true :: true :: true :: true :: true :: true :: false :: false :: false :: false :: false :: false :: false :: false :: false :: false :: false :: false :: false :: false :: false :: false :: false :: false :: false :: false :: false :: false :: [])) hns (by kernel_rfl) (by kernel_rfl) (by kernel_rfl) (by rfl) (fun _ _ _ h => h) (Or.inl ⟨by rfl, ?_⟩) hHeld ?_
  rotate_left
  · (intro wq hSw; (try dsimp only at hSw); go_simp; try (with_reducible rfl))
  try simp only [Act.put, List.setIfInBounds_toArray, List.set_cons_zero, List.set_cons_succ]
  refine takeL (i := 14) (oi := { dst := some 23, op := Go.Op.move (Go.Operand.tmp 22), type := 4, pos := "law.go:84", after := #[{ on := 13, ground := Go.Ground.data }, { on := 11, ground := Go.Ground.chain }], guard := none }) (v := ?_) (List.toArray (true :: true :: true :: true :: true :: true :: true :: true :: true :: true :: true :: true :: true :: true :: true :: false :: false :: false :: false :: false :: false :: false :: false :: false :: false :: false :: false :: false :: false :: false :: false :: false :: false :: false :: false :: false :: [])) hns (by kernel_rfl) (by kernel_rfl) (by kernel_rfl) (by rfl) (fun _ _ _ h => h) (Or.inl ⟨by rfl, ?_⟩) hHeld ?_
  rotate_left
  · (intro wq hSw; (try dsimp only at hSw); go_simp; try (with_reducible rfl))
  try simp only [Act.put, List.setIfInBounds_toArray, List.set_cons_zero, List.set_cons_succ]
  refine takeL (i := 15) (oi := { dst := some 24, op := Go.Op.load 23 (Go.Operand.tmp 2), type := 23, pos := "law.go:84", after := #[{ on := 14, ground := Go.Ground.guard }], guard := some (14, true) }) (List.toArray (true :: true :: true :: true :: true :: true :: true :: true :: true :: true :: true :: true :: true :: true :: true :: true :: false :: false :: false :: false :: false :: false :: false :: false :: false :: false :: false :: false :: false :: false :: false :: false :: false :: false :: false :: false :: [])) hns (by kernel_rfl) (by kernel_rfl) (by kernel_rfl) (by rfl) (fun _ _ _ h => h) (yl_cfg (by rfl) _ (by rfl) (by rfl) (fun V h => h.1)) hHeld ?_
  try simp only [Act.put, List.setIfInBounds_toArray, List.set_cons_zero, List.set_cons_succ]
  refine takeL (i := 17) (oi := { dst := some 26, op := Go.Op.load 23 (Go.Operand.tmp 2), type := 23, pos := "law.go:84", after := #[{ on := 14, ground := Go.Ground.guard }], guard := some (14, true) }) (List.toArray (true :: true :: true :: true :: true :: true :: true :: true :: true :: true :: true :: true :: true :: true :: true :: true :: false :: true :: false :: false :: false :: false :: false :: false :: false :: false :: false :: false :: false :: false :: false :: false :: false :: false :: false :: false :: [])) hns (by kernel_rfl) (by kernel_rfl) (by kernel_rfl) (by rfl) (fun _ _ _ h => h) (yl_cfg (by rfl) _ (by rfl) (by rfl) (fun V h => h.1)) hHeld ?_
  try simp only [Act.put, List.setIfInBounds_toArray, List.set_cons_zero, List.set_cons_succ]
  refine stepL (i := 16) (o := { dst := some 25, op := Go.Op.call { callee := Go.Callee.value (Go.Operand.func 20), args := #[Go.Operand.tmp 24], argTypes := #[23] }, type := 3, pos := "law.go:84", after := #[{ on := 15, ground := Go.Ground.data }, { on := 14, ground := Go.Ground.chain }, { on := 14, ground := Go.Ground.guard }], guard := some (14, true) }) (List.toArray (true :: true :: true :: true :: true :: true :: true :: true :: true :: true :: true :: true :: true :: true :: true :: true :: true :: true :: false :: false :: false :: false :: false :: false :: false :: false :: false :: false :: false :: false :: false :: false :: false :: false :: false :: false :: [])) (by kernel_rfl) (by rfl) (by kernel_rfl) (fun K hK => ?_)
  go_simp
  refine (C3 _).mono ?_
  rintro e w9 ⟨rfl, hb9⟩
  try dsimp only
  refine hK.out _ _ ?_ (fun hHeld => ?_)
  · exact Sf.mk hF hz ((Sf.below hHeld).trans (hb9.mono (Sf.below hHeld).size))
  clear hK K
  try simp only [Act.put, List.setIfInBounds_toArray, List.set_cons_zero, List.set_cons_succ]
  refine stepL (i := 18) (o := { dst := some 27, op := Go.Op.call { callee := Go.Callee.value (Go.Operand.func 21), args := #[Go.Operand.tmp 26], argTypes := #[23] }, type := 3, pos := "law.go:84", after := #[{ on := 17, ground := Go.Ground.data }, { on := 16, ground := Go.Ground.chain }, { on := 14, ground := Go.Ground.guard }], guard := some (14, true) }) (List.toArray (true :: true :: true :: true :: true :: true :: true :: true :: true :: true :: true :: true :: true :: true :: true :: true :: true :: true :: true :: false :: false :: false :: false :: false :: false :: false :: false :: false :: false :: false :: false :: false :: false :: false :: false :: false :: [])) (by kernel_rfl) (by rfl) (by kernel_rfl) (fun K hK => ?_)
  go_simp
  refine (R3 _).mono ?_
  rintro e w9 ⟨rfl, hb9⟩
  try dsimp only
  refine hK.out _ _ ?_ (fun hHeld => ?_)
  · exact Sf.mk hF hz ((Sf.below hHeld).trans (hb9.mono (Sf.below hHeld).size))
  clear hK K
  try simp only [Act.put, List.setIfInBounds_toArray, List.set_cons_zero, List.set_cons_succ]
  refine takeL (i := 19) (oi := { dst := some 28, op := Go.Op.binOp Go.BinOp.eql 3 (Go.Operand.tmp 25) (Go.Operand.tmp 27) 3, type := 4, pos := "law.go:84", after := #[{ on := 16, ground := Go.Ground.data }, { on := 18, ground := Go.Ground.data }, { on := 14, ground := Go.Ground.guard }], guard := some (14, true) }) (v := ?_) (List.toArray (true :: true :: true :: true :: true :: true :: true :: true :: true :: true :: true :: true :: true :: true :: true :: true :: true :: true :: true :: true :: false :: false :: false :: false :: false :: false :: false :: false :: false :: false :: false :: false :: false :: false :: false :: false :: [])) hns (by kernel_rfl) (by kernel_rfl) (by kernel_rfl) (by rfl) (fun _ _ _ h => h) (Or.inl ⟨by rfl, ?_⟩) hHeld ?_
  rotate_left
  · (intro wq hSw; (try dsimp only at hSw); go_simp; try (with_reducible rfl))
  try simp only [Act.put, List.setIfInBounds_toArray, List.set_cons_zero, List.set_cons_succ]
  refine takeL (i := 20) (oi := { dst := some 29, op := Go.Op.pick (Go.Operand.tmp 23) (Go.Operand.tmp 28) (Go.Operand.const (Go.Value.bool false)), type := 4, pos := "law.go:84", after := #[{ on := 14, ground := Go.Ground.data }, { on := 19, ground := Go.Ground.data }], guard := none }) (v := ?_) (List.toArray (true :: true :: true :: true :: true :: true :: true :: true :: true :: true :: true :: true :: true :: true :: true :: true :: true :: true :: true :: true :: true :: false :: false :: false :: false :: false :: false :: false :: false :: false :: false :: false :: false :: false :: false :: false :: [])) hns (by kernel_rfl) (by kernel_rfl) (by kernel_rfl) (by rfl) (fun _ _ _ h => h) (Or.inl ⟨by rfl, ?_⟩) hHeld ?_
  rotate_left
  · (intro wq hSw; (try dsimp only at hSw); go_simp; try (with_reducible rfl))
  try simp only [Act.put, List.setIfInBounds_toArray, List.set_cons_zero, List.set_cons_succ]
  refine takeL (i := 21) (oi := { dst := some 30, op := Go.Op.move (Go.Operand.tmp 29), type := 4, pos := "law.go:84", after := #[{ on := 20, ground := Go.Ground.data }, { on := 18, ground := Go.Ground.chain }], guard := none }) (v := ?_) (List.toArray (true :: true :: true :: true :: true :: true :: true :: true :: true :: true :: true :: true :: true :: true :: true :: true :: true :: true :: true :: true :: true :: true :: false :: false :: false :: false :: false :: false :: false :: false :: false :: false :: false :: false :: false :: false :: [])) hns (by kernel_rfl) (by kernel_rfl) (by kernel_rfl) (by rfl) (fun _ _ _ h => h) (Or.inl ⟨by rfl, ?_⟩) hHeld ?_
  rotate_left
  · (intro wq hSw; (try dsimp only at hSw); go_simp; try (with_reducible rfl))
  try simp only [Act.put, List.setIfInBounds_toArray, List.set_cons_zero, List.set_cons_succ]
  refine takeL (i := 22) (oi := { dst := some 31, op := Go.Op.load 23 (Go.Operand.tmp 2), type := 23, pos := "law.go:84", after := #[{ on := 21, ground := Go.Ground.guard }], guard := some (21, true) }) (List.toArray (true :: true :: true :: true :: true :: true :: true :: true :: true :: true :: true :: true :: true :: true :: true :: true :: true :: true :: true :: true :: true :: true :: true :: false :: false :: false :: false :: false :: false :: false :: false :: false :: false :: false :: false :: false :: [])) hns (by kernel_rfl) (by kernel_rfl) (by kernel_rfl) (by rfl) (fun _ _ _ h => h) (yl_cfg (by rfl) _ (by rfl) (by rfl) (fun V h => h.1)) hHeld ?_
  try simp only [Act.put, List.setIfInBounds_toArray, List.set_cons_zero, List.set_cons_succ]
  refine takeL (i := 24) (oi := { dst := some 33, op := Go.Op.load 23 (Go.Operand.tmp 2), type := 23, pos := "law.go:84", after := #[{ on := 21, ground := Go.Ground.guard }], guard := some (21, true) }) (List.toArray (true :: true :: true :: true :: true :: true :: true :: true :: true :: true :: true :: true :: true :: true :: true :: true :: true :: true :: true :: true :: true :: true :: true :: false :: true :: false :: false :: false :: false :: false :: false :: false :: false :: false :: false :: false :: [])) hns (by kernel_rfl) (by kernel_rfl) (by kernel_rfl) (by rfl) (fun _ _ _ h => h) (yl_cfg (by rfl) _ (by rfl) (by rfl) (fun V h => h.1)) hHeld ?_
  try simp only [Act.put, List.setIfInBounds_toArray, List.set_cons_zero, List.set_cons_succ]
  refine stepL (i := 23) (o := { dst := some 32, op := Go.Op.call { callee := Go.Callee.value (Go.Operand.func 22), args := #[Go.Operand.tmp 31], argTypes := #[23] }, type := 3, pos := "law.go:84", after := #[{ on := 22, ground := Go.Ground.data }, { on := 21, ground := Go.Ground.chain }, { on := 21, ground := Go.Ground.guard }], guard := some (21, true) }) (List.toArray (true :: true :: true :: true :: true :: true :: true :: true :: true :: true :: true :: true :: true :: true :: true :: true :: true :: true :: true :: true :: true :: true :: true :: true :: true :: false :: false :: false :: false :: false :: false :: false :: false :: false :: false :: false :: [])) (by kernel_rfl) (by rfl) (by kernel_rfl) (fun K hK => ?_)
  go_simp
  refine (C4 _).mono ?_
  rintro e w9 ⟨rfl, hb9⟩
  try dsimp only
  refine hK.out _ _ ?_ (fun hHeld => ?_)
  · exact Sf.mk hF hz ((Sf.below hHeld).trans (hb9.mono (Sf.below hHeld).size))
  clear hK K
  try simp only [Act.put, List.setIfInBounds_toArray, List.set_cons_zero, List.set_cons_succ]
  refine stepL (i := 25) (o := { dst := some 34, op := Go.Op.call { callee := Go.Callee.value (Go.Operand.func 23), args := #[Go.Operand.tmp 33], argTypes := #[23] }, type := 3, pos := "law.go:84", after := #[{ on := 24, ground := Go.Ground.data }, { on := 23, ground := Go.Ground.chain }, { on := 21, ground := Go.Ground.guard }], guard := some (21, true) }) (List.toArray (true :: true :: true :: true :: true :: true :: true :: true :: true :: true :: true :: true :: true :: true :: true :: true :: true :: true :: true :: true :: true :: true :: true :: true :: true :: true :: false :: false :: false :: false :: false :: false :: false :: false :: false :: false :: [])) (by kernel_rfl) (by rfl) (by kernel_rfl) (fun K hK => ?_)
  go_simp
  refine (R4 _).mono ?_
  rintro e w9 ⟨rfl, hb9⟩
  try dsimp only
  refine hK.out _ _ ?_ (fun hHeld => ?_)
  · exact Sf.mk hF hz ((Sf.below hHeld).trans (hb9.mono (Sf.below hHeld).size))
  clear hK K
  try simp only [Act.put, List.setIfInBounds_toArray, List.set_cons_zero, List.set_cons_succ]
  refine takeL (i := 26) (oi := { dst := some 35, op := Go.Op.binOp Go.BinOp.eql 3 (Go.Operand.tmp 32) (Go.Operand.tmp 34) 3, type := 4, pos := "law.go:84", after := #[{ on := 23, ground := Go.Ground.data }, { on := 25, ground := Go.Ground.data }, { on := 21, ground := Go.Ground.guard }], guard := some (21, true) }) (v := ?_) (List.toArray (true :: true :: true :: true :: true :: true :: true :: true :: true :: true :: true :: true :: true :: true :: true :: true :: true :: true :: true :: true :: true :: true :: true :: true :: true :: true :: true :: false :: false :: false :: false :: false :: false :: false :: false :: false :: [])) hns (by kernel_rfl) (by kernel_rfl) (by kernel_rfl) (by rfl) (fun _ _ _ h => h) (Or.inl ⟨by rfl, ?_⟩) hHeld ?_
  rotate_left
  · (intro wq hSw; (try dsimp only at hSw); go_simp; try (with_reducible rfl))
  try simp only [Act.put, List.setIfInBounds_toArray, List.set_cons_zero, List.set_cons_succ]
  refine takeL (i := 27) (oi := { dst := some 36, op := Go.Op.pick (Go.Operand.tmp 30) (Go.Operand.tmp 35) (Go.Operand.const (Go.Value.bool false)), type := 4, pos := "law.go:84", after := #[{ on := 21, ground := Go.Ground.data }, { on := 26, ground := Go.Ground.data }], guard := none }) (v := ?_) (List.toArray (true :: true :: true :: true :: true :: true :: true :: true :: true :: true :: true :: true :: true :: true :: true :: true :: true :: true :: true :: true :: true :: true :: true :: true :: true :: true :: true :: true :: false :: false :: false :: false :: false :: false :: false :: false :: [])) hns (by kernel_rfl) (by kernel_rfl) (by kernel_rfl) (by rfl) (fun _ _ _ h => h) (Or.inl ⟨by rfl, ?_⟩) hHeld ?_
  rotate_left
  · (intro wq hSw; (try dsimp only at hSw); go_simp; try (with_reducible rfl))
  try simp only [Act.put, List.setIfInBounds_toArray, List.set_cons_zero, List.set_cons_succ]
  refine takeL (i := 28) (oi := { dst := some 37, op := Go.Op.move (Go.Operand.tmp 36), type := 4, pos := "law.go:84", after := #[{ on := 27, ground := Go.Ground.data }, { on := 25, ground := Go.Ground.chain }], guard := none }) (v := ?_) (List.toArray (true :: true :: true :: true :: true :: true :: true :: true :: true :: true :: true :: true :: true :: true :: true :: true :: true :: true :: true :: true :: true :: true :: true :: true :: true :: true :: true :: true :: true :: false :: false :: false :: false :: false :: false :: false :: [])) hns (by kernel_rfl) (by kernel_rfl) (by kernel_rfl) (by rfl) (fun _ _ _ h => h) (Or.inl ⟨by rfl, ?_⟩) hHeld ?_
  rotate_left
  · (intro wq hSw; (try dsimp only at hSw); go_simp; try (with_reducible rfl))
  try simp only [Act.put, List.setIfInBounds_toArray, List.set_cons_zero, List.set_cons_succ]
  refine takeL (i := 29) (oi := { dst := some 38, op := Go.Op.load 23 (Go.Operand.tmp 2), type := 23, pos := "law.go:84", after := #[{ on := 28, ground := Go.Ground.guard }], guard := some (28, true) }) (List.toArray (true :: true :: true :: true :: true :: true :: true :: true :: true :: true :: true :: true :: true :: true :: true :: true :: true :: true :: true :: true :: true :: true :: true :: true :: true :: true :: true :: true :: true :: true :: false :: false :: false :: false :: false :: false :: [])) hns (by kernel_rfl) (by kernel_rfl) (by kernel_rfl) (by rfl) (fun _ _ _ h => h) (yl_cfg (by rfl) _ (by rfl) (by rfl) (fun V h => h.1)) hHeld ?_
  try simp only [Act.put, List.setIfInBounds_toArray, List.set_cons_zero, List.set_cons_succ]
  refine takeL (i := 31) (oi := { dst := some 40, op := Go.Op.load 23 (Go.Operand.tmp 2), type := 23, pos := "law.go:84", after := #[{ on := 28, ground := Go.Ground.guard }], guard := some (28, true) }) (List.toArray (true :: true :: true :: true :: true :: true :: true :: true :: true :: true :: true :: true :: true :: true :: true :: true :: true :: true :: true :: true :: true :: true :: true :: true :: true :: true :: true :: true :: true :: true :: false :: true :: false :: false :: false :: false :: [])) hns (by kernel_rfl) (by kernel_rfl) (by kernel_rfl) (by rfl) (fun _ _ _ h => h) (yl_cfg (by rfl) _ (by rfl) (by rfl) (fun V h => h.1)) hHeld ?_
  try simp only [Act.put, List.setIfInBounds_toArray, List.set_cons_zero, List.set_cons_succ]
  refine stepL (i := 30) (o := { dst := some 39, op := Go.Op.call { callee := Go.Callee.value (Go.Operand.func 24), args := #[Go.Operand.tmp 38], argTypes := #[23] }, type := 3, pos := "law.go:84", after := #[{ on := 29, ground := Go.Ground.data }, { on := 28, ground := Go.Ground.chain }, { on := 28, ground := Go.Ground.guard }], guard := some (28, true) }) (List.toArray (true :: true :: true :: true :: true :: true :: true :: true :: true :: true :: true :: true :: true :: true :: true :: true :: true :: true :: true :: true :: true :: true :: true :: true :: true :: true :: true :: true :: true :: true :: true :: true :: false :: false :: false :: false :: [])) (by kernel_rfl) (by rfl) (by kernel_rfl) (fun K hK => ?_)
  go_simp
  refine (C5 _).mono ?_
  rintro e w9 ⟨rfl, hb9⟩
  try dsimp only
  refine hK.out _ _ ?_ (fun hHeld => ?_)
  · exact Sf.mk hF hz ((Sf.below hHeld).trans (hb9.mono (Sf.below hHeld).size))
  clear hK K
  try simp only [Act.put, List.setIfInBounds_toArray, List.set_cons_zero, List.set_cons_succ]
  refine stepL (i := 32) (o := { dst := some 41, op := Go.Op.call { callee := Go.Callee.value (Go.Operand.func 25), args := #[Go.Operand.tmp 40], argTypes := #[23] }, type := 3, pos := "law.go:84", after := #[{ on := 31, ground := Go.Ground.data }, { on := 30, ground := Go.Ground.chain }, { on := 28, ground := Go.Ground.guard }], guard := some (28, true) }) (List.toArray (true :: true :: true :: true :: true :: true :: true :: true :: true :: true :: true :: true :: true :: true :: true :: true :: true :: true :: true :: true :: true :: true :: true :: true :: true :: true :: true :: true :: true :: true :: true :: true :: true :: false :: false :: false :: [])) (by kernel_rfl) (by rfl) (by kernel_rfl) (fun K hK => ?_)
  go_simp
  refine (R5 _).mono ?_
  rintro e w9 ⟨rfl, hb9⟩
  try dsimp only
  refine hK.out _ _ ?_ (fun hHeld => ?_)
  · exact Sf.mk hF hz ((Sf.below hHeld).trans (hb9.mono (Sf.below hHeld).size))
  clear hK K
  try simp only [Act.put, List.setIfInBounds_toArray, List.set_cons_zero, List.set_cons_succ]
  refine takeL (i := 33) (oi := { dst := some 42, op := Go.Op.binOp Go.BinOp.eql 3 (Go.Operand.tmp 39) (Go.Operand.tmp 41) 3, type := 4, pos := "law.go:84", after := #[{ on := 30, ground := Go.Ground.data }, { on := 32, ground := Go.Ground.data }, { on := 28, ground := Go.Ground.guard }], guard := some (28, true) }) (v := ?_) (List.toArray (true :: true :: true :: true :: true :: true :: true :: true :: true :: true :: true :: true :: true :: true :: true :: true :: true :: true :: true :: true :: true :: true :: true :: true :: true :: true :: true :: true :: true :: true :: true :: true :: true :: true :: false :: false :: [])) hns (by kernel_rfl) (by kernel_rfl) (by kernel_rfl) (by rfl) (fun _ _ _ h => h) (Or.inl ⟨by rfl, ?_⟩) hHeld ?_
  rotate_left
  · (intro wq hSw; (try dsimp only at hSw); go_simp; try (with_reducible rfl))
  try simp only [Act.put, List.setIfInBounds_toArray, List.set_cons_zero, List.set_cons_succ]
  refine takeL (i := 34) (oi := { dst := some 43, op := Go.Op.pick (Go.Operand.tmp 37) (Go.Operand.tmp 42) (Go.Operand.const (Go.Value.bool false)), type := 4, pos := "law.go:84", after := #[{ on := 28, ground := Go.Ground.data }, { on := 33, ground := Go.Ground.data }], guard := none }) (v := ?_) (List.toArray (true :: true :: true :: true :: true :: true :: true :: true :: true :: true :: true :: true :: true :: true :: true :: true :: true :: true :: true :: true :: true :: true :: true :: true :: true :: true :: true :: true :: true :: true :: true :: true :: true :: true :: true :: false :: [])) hns (by kernel_rfl) (by kernel_rfl) (by kernel_rfl) (by rfl) (fun _ _ _ h => h) (Or.inl ⟨by rfl, ?_⟩) hHeld ?_
  rotate_left
  · (intro wq hSw; (try dsimp only at hSw); go_simp; try (with_reducible rfl))
  try simp only [Act.put, List.setIfInBounds_toArray, List.set_cons_zero, List.set_cons_succ]
  refine takeL (i := 35) (oi := { dst := some 4, op := Go.Op.assign (Go.Operand.tmp 43), type := 4, pos := "law.go:84", after := #[{ on := 34, ground := Go.Ground.data }, { on := 32, ground := Go.Ground.chain }, { on := 0, ground := Go.Ground.phase }, { on := 1, ground := Go.Ground.phase }, { on := 2, ground := Go.Ground.phase }, { on := 3, ground := Go.Ground.phase }, { on := 4, ground := Go.Ground.phase }, { on := 5, ground := Go.Ground.phase }, { on := 6, ground := Go.Ground.phase }, { on := 7, ground := Go.Ground.phase }, { on := 8, ground := Go.Ground.phase }, { on := 9, ground := Go.Ground.phase }, { on := 10, ground := Go.Ground.phase }, { on := 11, ground := Go.Ground.phase }, { on := 12, ground := Go.Ground.phase }, { on := 13, ground := Go.Ground.phase }, { on := 14, ground := Go.Ground.phase }, { on := 15, ground := Go.Ground.phase }, { on := 16, ground := Go.Ground.phase }, { on := 17, ground := Go.Ground.phase }, { on := 18, ground := Go.Ground.phase }, { on := 19, ground := Go.Ground.phase }, { on := 20, ground := Go.Ground.phase }, { on := 21, ground := Go.Ground.phase }, { on := 22, ground := Go.Ground.phase }, { on := 23, ground := Go.Ground.phase }, { on := 24, ground := Go.Ground.phase }, { on := 25, ground := Go.Ground.phase }, { on := 26, ground := Go.Ground.phase }, { on := 27, ground := Go.Ground.phase }, { on := 28, ground := Go.Ground.phase }, { on := 29, ground := Go.Ground.phase }, { on := 30, ground := Go.Ground.phase }, { on := 31, ground := Go.Ground.phase }, { on := 32, ground := Go.Ground.phase }, { on := 33, ground := Go.Ground.phase }, { on := 34, ground := Go.Ground.phase }], guard := none }) (v := ?_) (List.toArray (true :: true :: true :: true :: true :: true :: true :: true :: true :: true :: true :: true :: true :: true :: true :: true :: true :: true :: true :: true :: true :: true :: true :: true :: true :: true :: true :: true :: true :: true :: true :: true :: true :: true :: true :: true :: [])) hns (by kernel_rfl) (by kernel_rfl) (by kernel_rfl) (by rfl) (fun _ _ _ h => h) (Or.inl ⟨by rfl, ?_⟩) hHeld ?_
  rotate_left
  · (intro wq hSw; (try dsimp only at hSw); go_simp; try (with_reducible rfl))
  try simp only [Act.put, List.setIfInBounds_toArray, List.set_cons_zero, List.set_cons_succ]
  refine wpAnyH_done (by kernel_rfl) ?_ _
  have HBZ := hid (Sf.below hHeld)
  clear hHeld
  go_wp2
  go_ret
  exact ⟨rfl, HB1.out.trans (HBZ.out.mono HB1.out.size)⟩

set_option maxRecDepth 100000 in
set_option maxHeartbeats 1000000 in
theorem lifted (os : Os) (started : os.Started) (H : Type) (enc : TypeId × Value → H) :
    ReturnsInHanded {} Try.checked os 5 .any (Rows.paceCapsSpec.pre6 enc Try.prog Try.f5 Rows.paceCapsRow.domain false) (Rows.paceCapsSpec.post enc Try.prog Try.f5 false true false false) := by
  refine returnsInHanded_of_change_sized (C := Try.checked) Opn.own started (by kernel_rfl) Try.func5
    (ChangeSpec.witness6 (enc := enc) (C := Try.checked) false ⟨#[], #[.agg #[.int .i64 0, .int .i64 0, .int .i64 0, .int .i64 0, .int .i64 0, .int .i64 0, .int .i64 0, .int .i64 0, .int .i64 0, .int .i64 0, .int .i64 0, .int .i64 0, .int .i64 0, .int .i64 0, .int .i64 0, .int .i64 0, .int .i64 0, .int .i64 0, .int .i64 0, .int .i64 0, .int .i64 0, .int .i64 0, .int .i64 0, .int .i64 0, .int .i64 0, .int .i64 0, .int .i64 0], .int .i64 0], []⟩ 8 (by kernel_rfl) (by kernel_rfl) (by kernel_rfl) (by kernel_rfl)) ?_
  intro W base args ds gs before hval0 hW _ hsz0 _
  have hsz : (DataW.weightsEach Try.prog (Try.f5.params.toList ++ Rows.paceCapsSpec.plain.varTypes Try.prog) (ds ++ gs)).all (· ≤ reachBytes) = true := hsz0
  clear hsz0
  have hval : ∀ (j : Nat) t v, Try.f5.params[j]? = some t → args[j]? = some v → Value.okWide Try.prog W .any base t v := hval0
  have hW' := hW
  obtain ⟨p, q, hA0, hV, rfl, hfz, hnd⟩ := hW
  have hA : DataW.TrodAll enc Try.prog W 0 (fun _ => true) true Try.f5.params.toList args.toList ds p := hA0
  rw [Try.params5] at hA hval hsz
  obtain ⟨v0, vs0, d0, ds0, p0, q0, hargs, rfl, rfl, h0, r0⟩ := trodAll_cons hA
  obtain ⟨v1, vs1, d1, ds1, p1, q1, rfl, rfl, rfl, h1, r1⟩ := trodAll_cons r0
  obtain ⟨rfl, rfl, rfl⟩ := trodAll_nil r1
  obtain rfl : args = #[v0, v1] := by cases args; simp_all
  obtain ⟨rfl, rfl⟩ := trodVars_none hV
  have lt0 : ∀ x ∈ p0, x.block < W.heap.size := by obtain ⟨m, hm⟩ := h0; exact DataW.trod_lt m _ _ _ hm
  obtain ⟨c0, rfl, rc0⟩ := Opn.cfg (hval 0 23 v0 rfl rfl) h0
  obtain ⟨n1, rfl, rfl, rfl, wf1⟩ := open_int Try.underlying3 (hval 1 3 v1 rfl rfl) h1
  clear hA0 hval0
  refine (walk c0 rc0 n1 (Opn.i64_wf wf1) W).mono fun e W' ⟨he, bel⟩ => ?_
  subst he
  exact ⟨_, rfl, _, _, _, [], _, [], hW', trodAll_mk1 (shut_bool Try.underlying4 _), (trodAll_cons_mk (Below.trod Opn.laidOut (by kernel_rfl) (of_decide_eq_true (by kernel_rfl)) h0 bel lt0) (trodAll_cons_mk (shut_int Try.underlying3 wf1) trodAll_mk0)), rfl, bel.frame _, fun h => by cases h⟩
end PaceCaps

theorem paceCaps_holds : Rows.PaceCapsSaid :=
  OpenClaim.holds_of_wide 5 Try.f5 rfl rfl rfl rfl rfl rfl rfl ⟨rfl, rfl, rfl, rfl, rfl⟩ rfl rfl rfl rfl rfl (by kernel_rfl) Try.func5 (by kernel_rfl)
    (of_decide_eq_true (by kernel_rfl)) (by unfold Func.isWrapper; first | (rw [if_pos (by decide +kernel)]; kernel_rfl) | (rw [if_neg (by decide +kernel)]; exact ⟨rfl, rfl⟩))
    (fun os started H enc _ => PaceCaps.lifted os started H enc)
end Go.Proofs.Ytebfokjgeknciaa
