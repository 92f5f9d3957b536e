import Derived.Test.YtebfokjgeknciabGreatDoorPc9
import Derived.Deep.MidRow
namespace Go.Proofs.YtebfokjgeknciabGreatDoor
namespace Pcm
open Go.RowKit Laws Irw
set_option linter.unusedVariables false
set_option linter.unusedSimpArgs false
set_option maxRecDepth 20000

/-- the figures lie in a block -/
def Lf (V : World) (B : Nat) (c : Cf) : Prop := V.rangeAt B 0 (figA c).toList
theorem figA_len (c : Cf) : (figA c).toList.length = 16 := rfl
theorem Lf.keep {W W' : World} {B : Nat} {c : Cf} (h : Lf W B c) (hz : B < W.heap.size) (hb : Below W.heap.size W W') : Lf W' B c := fun j v hv => (hb.cell (p := ⟨B, 0 + j, none⟩) hz).trans (h j v hv)
theorem lf_new (w : World) (c : Cf) (T : TypeId) : Lf (w.alloc (.cells (figA c) T)) w.heap.size c := fun j v hv => by
  rw [World.cell?_alloc_at _ _ _ _ rfl, Nat.zero_add, ← Array.getElem?_toList]
  exact hv
theorem Lf.cell {V : World} {B : Nat} {c : Cf} (h : Lf V B c) (k : Nat) {v : Value} (hv : (figA c).toList[k]? = some v) : V.cell? ⟨B, k, none⟩ = some v := by have := h k v hv; rwa [Nat.zero_add] at this
theorem Lf.info (c : Cf) : (Tryz.prog.info? 91).map (·.size) = some (figA c).toList.length := by rw [figA_len]; kernel_rfl
theorem toF (c : Cf) : (figA c).toList.toArray = figA c := Array.toArray_toList
theorem wpList_fig {ops : Array Oper} {rest : List Oper} {op : Oper} {a : Act} {w : World} {Q : Exit → Act → World → Prop} {c : Cf} {b : Nat} (hgd : op.guard = none) (x : Operand) (ho : op.op = .load 91 x) (hx : a.eval x = .pointer (some ⟨b, 0, none⟩)) (hc : Lf w b c)
    (h : wpList Tryz.prog ops Q rest (a.put op.dst (.agg (figA c))) w) : wpList Tryz.prog ops Q (op :: rest) a w :=
  wpList_load_mid hgd _ x ho b 0 hx (figA c).toList _ hc Tryz.underlying91 rfl (Lf.info c) (by rw [toF]; exact h)
theorem yl_fig {ops : Array Oper} {S : World → Prop} {op : Oper} {a : Act} {c : Cf} {b : Nat} (hw : Region.wanted op (yielded ops a.tmps) = true) (x : Operand) (ho : op.op = .load 91 x) (hx : a.eval x = .pointer (some ⟨b, 0, none⟩)) (hS : ∀ w, S w → Lf w b c) : YieldsIf Tryz.prog ops S op (.agg (figA c)) a := by
  have := yieldsIf_load_mid (P := Tryz.prog) hw _ x ho b 0 hx (figA c).toList _ hS Tryz.underlying91 rfl (Lf.info c)
  rwa [toF] at this
/-- a configuration lies in a block -/
def Lc (V : World) (B : Nat) (c : Cf) : Prop := V.rangeAt B 0 (cfgA c).toList
theorem cfgA_len (c : Cf) : (cfgA c).toList.length = 27 := rfl
theorem Lc.keep {W W' : World} {B : Nat} {c : Cf} (h : Lc W B c) (hz : B < W.heap.size) (hb : Below W.heap.size W W') : Lc W' B c := fun j v hv => (hb.cell (p := ⟨B, 0 + j, none⟩) hz).trans (h j v hv)
theorem lc_new (w : World) (c : Cf) (T : TypeId) : Lc (w.alloc (.cells (cfgA c) T)) w.heap.size c := fun j v hv => by
  rw [World.cell?_alloc_at _ _ _ _ rfl, Nat.zero_add, ← Array.getElem?_toList]
  exact hv
theorem Lc.cell {V : World} {B : Nat} {c : Cf} (h : Lc V B c) (k : Nat) {v : Value} (hv : (cfgA c).toList[k]? = some v) : V.cell? ⟨B, k, none⟩ = some v := by have := h k v hv; rwa [Nat.zero_add] at this
theorem Lc.info (c : Cf) : (Tryz.prog.info? 65).map (·.size) = some (cfgA c).toList.length := by rw [cfgA_len]; kernel_rfl
theorem toC (c : Cf) : (cfgA c).toList.toArray = cfgA c := Array.toArray_toList
theorem wpList_cfg {ops : Array Oper} {rest : List Oper} {op : Oper} {a : Act} {w : World} {Q : Exit → Act → World → Prop} {c : Cf} {b : Nat} (hgd : op.guard = none) (x : Operand) (ho : op.op = .load 65 x) (hx : a.eval x = .pointer (some ⟨b, 0, none⟩)) (hc : Lc w b c)
    (h : wpList Tryz.prog ops Q rest (a.put op.dst (.agg (cfgA c))) w) : wpList Tryz.prog ops Q (op :: rest) a w :=
  wpList_load_mid hgd _ x ho b 0 hx (cfgA c).toList _ hc Tryz.underlying65 rfl (Lc.info c) (by rw [toC]; exact h)
theorem yl_cfg {ops : Array Oper} {S : World → Prop} {op : Oper} {a : Act} {c : Cf} {b : Nat} (hw : Region.wanted op (yielded ops a.tmps) = true) (x : Operand) (ho : op.op = .load 65 x) (hx : a.eval x = .pointer (some ⟨b, 0, none⟩)) (hS : ∀ w, S w → Lc w b c) : YieldsIf Tryz.prog ops S op (.agg (cfgA c)) a := by
  have := yieldsIf_load_mid (P := Tryz.prog) hw _ x ho b 0 hx (cfgA c).toList _ hS Tryz.underlying65 rfl (Lc.info c)
  rwa [toC] at this

end Pcm
end Go.Proofs.YtebfokjgeknciabGreatDoor
