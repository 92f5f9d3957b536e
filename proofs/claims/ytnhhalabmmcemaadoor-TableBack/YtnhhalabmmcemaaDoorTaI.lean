import Derived.Test.YtnhhalabmmcemaaDoorTaH
import Derived.Test.YtnhhalabmmcemaaDoorQgM
import Derived.Deep.WholeRow
import Derived.Laws.Tables
namespace Go.Proofs.YtnhhalabmmcemaaDoor
namespace Tbl
open Go.RowKit CMath Byt Laws Irw Crw Cod Qb
set_option linter.unusedVariables false
set_option linter.unusedSimpArgs false
set_option maxRecDepth 20000

def cfF (bb r bits : Int) (i : Nat) : Int := if i = 13 then bb else if i = 14 then r else if i = 15 then bits else if i = 8 then 77 else if i = 16 then -1 else if i = 11 then 1 else 0
def CfIs (bb r bits : Int) (w : World) (e : Ending) (w' : World) : Prop := ∃ f, e = .returned (.agg (cfgA f)) ∧ f 13 = bb ∧ f 14 = r ∧ f 15 = bits ∧ Below w.heap.size w w'
theorem cfA (bb r bits : Int) : cfgA (cfF bb r bits) = #[.int .i64 0, .int .i64 0, .int .i64 0, .int .i64 0, .int .i64 0, .int .i64 0, .int .i64 0, .int .i64 0, .int .i64 77, .int .i64 0, .int .i64 0, .int .i64 1, .int .i64 0, .int .i64 bb, .int .i64 r, .int .i64 bits, .int .i64 (-1), .int .i64 0, .int .i64 0, .int .i64 0, .int .i64 0, .int .i64 0, .int .i64 0, .int .i64 0, .int .i64 0, .int .i64 0, .int .i64 0] := by
  simp [cfgA, cfF]
/-- A step of a region by its own run. -/
theorem wpList_value {P : Program} {ops : Array Oper} {rest : List Oper} {o : Oper} {a : Act} {Q : Exit → Act → World → Prop} {w w' : World} (v : Value) (hgd : o.guard = none) (hr : (execOp a.eval o).run P w = .ok (.value v) w') (h : wpList P ops Q rest (a.put o.dst v) w') : wpList P ops Q (o :: rest) a w :=
  wpList_plain hgd fun _ hK => by
    unfold Oper.wp
    rw [hr]
    exact hK _ _ h
theorem wpList_skip {P : Program} {ops : Array Oper} {rest : List Oper} {o : Oper} {a : Act} {Q : Exit → Act → World → Prop} {w w' : World} (hgd : o.guard = none) (hr : (execOp a.eval o).run P w = .ok .skip w') (h : wpList P ops Q rest (a.put o.dst undef) w') : wpList P ops Q (o :: rest) a w :=
  wpList_plain hgd fun _ hK => by
    unfold Oper.wp
    rw [hr]
    exact hK _ _ h
theorem run_value {P : Program} {s : Sem Value} {v : Value} {w w' : World} (h : s.run P w = .ok v w') : (do pure (Next.value (← s)) : Sem Next).run P w = .ok (.value v) w' := by
  rw [Sem.run_bind, h]
  rfl
theorem run_skip {P : Program} {s : Sem Unit} {w w' : World} (h : s.run P w = .ok () w') : (do s; pure Next.skip : Sem Next).run P w = .ok .skip w' := by
  rw [Sem.run_bind, h]
  rfl
theorem run_build_op {P : Program} {ρ : Operand → Value} {o : Oper} {t : TypeId} {parts : Array (Nat × Operand)} {vals : Array (Nat × Value)} {V : Array Value} {w : World} (ho : o.op = .build t parts) (hp : parts.map (fun x => (x.1, ρ x.2)) = vals) (h : (Instr.build t vals).run P w = .ok (.agg V) w) : (execOp ρ o).run P w = .ok (.value (.agg V)) w := by
  unfold execOp
  rw [ho]
  show (do pure (Next.value (← Instr.build t (parts.map (fun x => (x.1, ρ x.2))))) : Sem Next).run P w = _
  rw [hp]
  exact run_value h
theorem infoCf : (Tryd.prog.info? 32).map (·.size) = some 27 := by kernel_rfl
theorem isAggC (w : World) : (isAgg 32).run Tryd.prog w = .ok true w := by simp [go_sem]
theorem sizeC (w : World) : (sizeOf 32).run Tryd.prog w = .ok 27 w := by simp [go_sem]
theorem loadVarC {V : Array Value} {w W : World} {n : Nat} (h : (loadCellsFrom ⟨n, 0, none⟩ 0 27 #[]).run Tryd.prog W = .ok V W) : (loadVar 32 ⟨n, 0, none⟩).run Tryd.prog W = .ok (.agg V) W := by
  unfold loadVar
  rw [Sem.run_bind, isAggC]
  simp only [Result.andThen, if_true, Sem.run_bind, sizeC, loadCells, h]
  rfl
theorem bltC (bb r bits : Int) : Tryd.prog.built 32 [(13, .int .i64 bb), (14, .int .i64 r), (15, .int .i64 bits), (8, .int .i64 77), (16, .int .i64 (-1)), (11, .int .i64 1)] = some #[.int .i64 0, .int .i64 0, .int .i64 0, .int .i64 0, .int .i64 0, .int .i64 0, .int .i64 0, .int .i64 0, .int .i64 77, .int .i64 0, .int .i64 0, .int .i64 1, .int .i64 0, .int .i64 bb, .int .i64 r, .int .i64 bits, .int .i64 (-1), .int .i64 0, .int .i64 0, .int .i64 0, .int .i64 0, .int .i64 0, .int .i64 0, .int .i64 0, .int .i64 0, .int .i64 0, .int .i64 0] := by kernel_rfl
set_option maxHeartbeats 2000000 in
theorem config_any (bb r bits : Int) (w : World) :
    Calls Tryd.prog 9 #[.int .i64 bb, .int .i64 r, .int .i64 bits] w fun e w' => CfIs bb r bits w e w' := by
  obtain ⟨V, hV⟩ : ∃ V : Array Value, V = #[.int .i64 0, .int .i64 0, .int .i64 0, .int .i64 0, .int .i64 0, .int .i64 0, .int .i64 0, .int .i64 0, .int .i64 77, .int .i64 0, .int .i64 0, .int .i64 1, .int .i64 0, .int .i64 bb, .int .i64 r, .int .i64 bits, .int .i64 (-1), .int .i64 0, .int .i64 0, .int .i64 0, .int .i64 0, .int .i64 0, .int .i64 0, .int .i64 0, .int .i64 0, .int .i64 0, .int .i64 0] := ⟨_, rfl⟩
  obtain ⟨Z, hZ⟩ : ∃ Z : Array Value, Z = #[.int .i64 0, .int .i64 0, .int .i64 0, .int .i64 0, .int .i64 0, .int .i64 0, .int .i64 0, .int .i64 0, .int .i64 0, .int .i64 0, .int .i64 0, .int .i64 0, .int .i64 0, .int .i64 0, .int .i64 0, .int .i64 0, .int .i64 0, .int .i64 0, .int .i64 0, .int .i64 0, .int .i64 0, .int .i64 0, .int .i64 0, .int .i64 0, .int .i64 0, .int .i64 0, .int .i64 0] := ⟨_, rfl⟩
  have hst : (Instr.storeAt 32 (.pointer (some ⟨w.heap.size, 0, none⟩)) (.agg V)).run Tryd.prog (w.alloc (.cells Z 32)) = .ok () (w.alloc (.cells V 32)) := run_storeAt_new w 32 Z V (by rw [hV]; exact infoCf) (by rw [hV, hZ]; rfl) (by rw [hV]; simp [Value.oneCell'])
  have hlc : (loadCellsFrom ⟨w.heap.size, 0, none⟩ 0 27 #[]).run Tryd.prog (w.alloc (.cells V 32)) = .ok V (w.alloc (.cells V 32)) := run_loadCellsFrom_new (P := Tryd.prog) w 32 V 27 (by rw [hV]; rfl)
  have hbd : ∀ W, (Instr.build 32 #[(13, .int .i64 bb), (14, .int .i64 r), (15, .int .i64 bits), (8, .int .i64 77), (16, .int .i64 (-1)), (11, .int .i64 1)]).run Tryd.prog W = .ok (.agg V) W := fun W => by rw [hV]; exact run_build W _ _ _ (bltC bb r bits)
  have HV : Hid (V = cfgA (cfF bb r bits)) := by rw [hV, cfA]; exact Qb.hid rfl
  go_enter Tryd.func9, Tryd.ntmps9
  go_upto_region 1 with (fail)
  rw [← hZ]
  clear hZ hV
  refine wp_region_lit ?_
  refine wpList_value (.int .i64 bb) rfl rfl ?_
  refine wpList_value (.int .i64 r) rfl rfl ?_
  refine wpList_value (.int .i64 bits) rfl rfl ?_
  refine wpList_value (.agg V) rfl (run_build_op rfl (by simp [Act.eval, Act.put]) (hbd _)) ?_
  refine wpList_skip rfl (run_skip (s := Instr.storeAt 32 (.pointer (some ⟨w.heap.size, 0, none⟩)) (.agg V)) hst) ?_
  refine wpList_nil ?_
  clear hst hbd
  simp only [Act.put, Exit.then]
  go_wp2
  refine bodyPost_ret (v := .agg V) ?_ rfl ⟨cfF bb r bits, by rw [HV.out], rfl, rfl, rfl, ?_⟩
  · have hld := loadVarC (w := w) hlc
    simp only [results, Tryd.results9]
    simp [Sem.run_bind, Result.andThen, asAddr, hld]
  · exact (Below.refl _ _).alloc (Nat.le_refl _) _
theorem layR_iff {R : Nat} {bits : Int} {S : Ts} {css : List (List En)} {c : List En} (h : Inv R bits S css c) (e : En) : layR S e = 0 ↔ adds (lastE ⟨#[]⟩ (css.flatten ++ c)) e = 0 := by
  have hmt := h.mt
  constructor
  · intro hR
    obtain ⟨h1, h2, h3⟩ := layR_zero hR
    unfold adds
    rw [if_neg (by rw [h2]; simp), if_pos]
    rw [hmt] at h1
    exact h1
  · intro ha
    obtain ⟨h1, h2⟩ := adds_ok ha
    unfold layR
    rw [if_pos (by rw [hmt]; exact h2)]
    unfold adds
    rw [if_neg (by rw [h1]; simp), if_pos]
    rw [h.cur, pushes_lastE]
    by_cases hc : c = []
    · subst hc
      have hk := (fault_ok h1).k1
      show Op.bytesLess (⟨#[]⟩ : ByteArray).data.toList e.1.data.toList = true
      cases hd : e.1.data.toList with
      | nil => rw [ByteArray.size, ← Array.length_toList, hd] at hk; simp at hk
      | cons x xs => rfl
    · rw [lastE_app, lastE_any hc _ ⟨#[]⟩] at h2
      exact h2
theorem mdStep_no {R : Nat} {bits : Int} {S : Ts} {css : List (List En)} {c : List En} (h : Inv R bits S css c) {e : En} (hR : layR S e ≠ 0) : mdStep (css.flatten ++ c) e = css.flatten ++ c := by
  unfold mdStep
  rw [if_neg (fun h' => hR ((layR_iff h e).2 h'))]
theorem mdStep_yes {R : Nat} {bits : Int} {S : Ts} {css : List (List En)} {c : List En} (h : Inv R bits S css c) {e : En} (hR : layR S e = 0) : mdStep (css.flatten ++ c) e = css.flatten ++ c ++ [e] := by
  unfold mdStep
  rw [if_pos ((layR_iff h e).1 hR)]

end Tbl
end Go.Proofs.YtnhhalabmmcemaaDoor
