import Derived.Test.YtebfokjgeknciabGreatDoorPcK
import Derived.Test.YtebfokjgeknciabGreatDoorPk2
import Derived.Test.YtebfokjgeknciabGreatDoorPk3
import Derived.Deep.WholeRow
import Derived.Laws.Tables
namespace Go.Proofs.YtebfokjgeknciabGreatDoor
namespace Pcm
open Go.RowKit Laws Irw
set_option linter.unusedVariables false
set_option linter.unusedSimpArgs false
set_option maxRecDepth 20000

/-- chapter 15's example, and the same with a DebtStop that is too low -/
def exC : Cf := fun i => ([1, 1, 1, 4096, 1, 1, 1, 2, 3, 4096, 2, 2048, 1, 64, 1, 0, 1088, 1, 1088, 1, 17408, 1088, 17408, 86013, 0, 1, 4096] : List Int).getD i 0
def exD : Cf := fun i => if i = 23 then 86012 else exC i
theorem exC_r : RC exC := fun i => by
  unfold exC
  rw [List.getD_eq_getElem?_getD]
  cases h : ([1, 1, 1, 4096, 1, 1, 1, 2, 3, 4096, 2, 2048, 1, 64, 1, 0, 1088, 1, 1088, 1, 17408, 1088, 17408, 86013, 0, 1, 4096] : List Int)[i]? with
  | none => exact (show R64 0 by unfold R64; omega)
  | some x =>
    have hm := List.mem_of_getElem? h
    have hall : ∀ x ∈ ([1, 1, 1, 4096, 1, 1, 1, 2, 3, 4096, 2, 2048, 1, 64, 1, 0, 1088, 1, 1088, 1, 17408, 1088, 17408, 86013, 0, 1, 4096] : List Int), 0 ≤ x ∧ x ≤ 100000 := by decide
    have := hall x hm
    exact (show R64 x by unfold R64; omega)
theorem exD_r : RC exD := fun i => by
  unfold exD
  split
  · unfold R64; omega
  · exact exC_r i
theorem exC_ok : bad exC = none := by kernel_rfl
theorem exD_bad : bad exD = some 23 := by kernel_rfl
theorem exC_mem : pmem exC = 21503 := by kernel_rfl
theorem exC_sum : plsum exC = 4096 := by kernel_rfl
theorem exC_file : pfile exC = 3135 := by kernel_rfl
theorem exC_debt : pdebt exC = 103420 := by kernel_rfl
theorem exA : cfgA exC = #[.int .i64 1, .int .i64 1, .int .i64 1, .int .i64 4096, .int .i64 1, .int .i64 1, .int .i64 1, .int .i64 2, .int .i64 3, .int .i64 4096, .int .i64 2, .int .i64 2048, .int .i64 1, .int .i64 64, .int .i64 1, .int .i64 0, .int .i64 1088, .int .i64 1, .int .i64 1088, .int .i64 1, .int .i64 17408, .int .i64 1088, .int .i64 17408, .int .i64 86013, .int .i64 0, .int .i64 1, .int .i64 4096] := rfl
/-- A step of a region by its own run. -/
theorem wpList_valueR {P : Program} {ops : Array Oper} {rest : List Oper} {o : Oper} {a : Act} {Q : Exit → Act → World → Prop} {w w' : World} (v : Value) (hgd : o.guard = none) (hr : (execOp a.eval o).run P w = .ok (.value v) w') (h : wpList P ops Q rest (a.put o.dst v) w') : wpList P ops Q (o :: rest) a w :=
  wpList_plain hgd fun _ hK => by
    unfold Oper.wp
    rw [hr]
    exact hK _ _ h
theorem wpList_skipR {P : Program} {ops : Array Oper} {rest : List Oper} {o : Oper} {a : Act} {Q : Exit → Act → World → Prop} {w w' : World} (hgd : o.guard = none) (hr : (execOp a.eval o).run P w = .ok .skip w') (h : wpList P ops Q rest (a.put o.dst undef) w') : wpList P ops Q (o :: rest) a w :=
  wpList_plain hgd fun _ hK => by
    unfold Oper.wp
    rw [hr]
    exact hK _ _ h
theorem run_valueR {P : Program} {s : Sem Value} {v : Value} {w w' : World} (h : s.run P w = .ok v w') : (do pure (Next.value (← s)) : Sem Next).run P w = .ok (.value v) w' := by
  rw [Sem.run_bind, h]
  rfl
theorem run_skipR {P : Program} {s : Sem Unit} {w w' : World} (h : s.run P w = .ok () w') : (do s; pure Next.skip : Sem Next).run P w = .ok .skip w' := by
  rw [Sem.run_bind, h]
  rfl
theorem run_buildR {P : Program} {ρ : Operand → Value} {o : Oper} {t : TypeId} {parts : Array (Nat × Operand)} {vals : Array (Nat × Value)} {V : Array Value} {w : World} (ho : o.op = .build t parts) (hp : parts.map (fun x => (x.1, ρ x.2)) = vals) (h : (Instr.build t vals).run P w = .ok (.agg V) w) : (execOp ρ o).run P w = .ok (.value (.agg V)) w := by
  unfold execOp
  rw [ho]
  show (do pure (Next.value (← Instr.build t (parts.map (fun x => (x.1, ρ x.2))))) : Sem Next).run P w = _
  rw [hp]
  exact run_valueR h
theorem infoCfg : (Tryz.prog.info? 65).map (·.size) = some 27 := by kernel_rfl
theorem isAggCfg (w : World) : (isAgg 65).run Tryz.prog w = .ok true w := by simp [go_sem]
theorem sizeCfg (w : World) : (sizeOf 65).run Tryz.prog w = .ok 27 w := by simp [go_sem]
theorem loadVarCfg {V : Array Value} {W : World} {n : Nat} (h : (loadCellsFrom ⟨n, 0, none⟩ 0 27 #[]).run Tryz.prog W = .ok V W) : (loadVar 65 ⟨n, 0, none⟩).run Tryz.prog W = .ok (.agg V) W := by
  unfold loadVar
  rw [Sem.run_bind, isAggCfg]
  simp only [Result.andThen, if_true, Sem.run_bind, sizeCfg, loadCells, h]
  rfl
theorem bltEx : Tryz.prog.built 65 [(0, .int .i64 1), (1, .int .i64 1), (2, .int .i64 1), (3, .int .i64 4096), (4, .int .i64 1), (5, .int .i64 1), (6, .int .i64 1), (7, .int .i64 2), (8, .int .i64 3), (9, .int .i64 4096), (10, .int .i64 2), (11, .int .i64 2048), (12, .int .i64 1), (13, .int .i64 64), (14, .int .i64 1), (15, .int .i64 0), (16, .int .i64 1088), (17, .int .i64 1), (18, .int .i64 1088), (19, .int .i64 1), (20, .int .i64 17408), (21, .int .i64 1088), (22, .int .i64 17408), (23, .int .i64 86013), (24, .int .i64 0), (25, .int .i64 1), (26, .int .i64 4096)] = some #[.int .i64 1, .int .i64 1, .int .i64 1, .int .i64 4096, .int .i64 1, .int .i64 1, .int .i64 1, .int .i64 2, .int .i64 3, .int .i64 4096, .int .i64 2, .int .i64 2048, .int .i64 1, .int .i64 64, .int .i64 1, .int .i64 0, .int .i64 1088, .int .i64 1, .int .i64 1088, .int .i64 1, .int .i64 17408, .int .i64 1088, .int .i64 17408, .int .i64 86013, .int .i64 0, .int .i64 1, .int .i64 4096] := by kernel_rfl
set_option maxHeartbeats 2000000 in
theorem example_any (w : World) :
    Calls Tryz.prog 14 #[] w fun e w' => e = .returned (.agg (cfgA exC)) ∧ Below w.heap.size w w' := by
  obtain ⟨V, hV⟩ : ∃ V : Array Value, V = #[.int .i64 1, .int .i64 1, .int .i64 1, .int .i64 4096, .int .i64 1, .int .i64 1, .int .i64 1, .int .i64 2, .int .i64 3, .int .i64 4096, .int .i64 2, .int .i64 2048, .int .i64 1, .int .i64 64, .int .i64 1, .int .i64 0, .int .i64 1088, .int .i64 1, .int .i64 1088, .int .i64 1, .int .i64 17408, .int .i64 1088, .int .i64 17408, .int .i64 86013, .int .i64 0, .int .i64 1, .int .i64 4096] := ⟨_, rfl⟩
  obtain ⟨Z, hZ⟩ : ∃ Z : Array Value, Z = #[.int .i64 0, .int .i64 0, .int .i64 0, .int .i64 0, .int .i64 0, .int .i64 0, .int .i64 0, .int .i64 0, .int .i64 0, .int .i64 0, .int .i64 0, .int .i64 0, .int .i64 0, .int .i64 0, .int .i64 0, .int .i64 0, .int .i64 0, .int .i64 0, .int .i64 0, .int .i64 0, .int .i64 0, .int .i64 0, .int .i64 0, .int .i64 0, .int .i64 0, .int .i64 0, .int .i64 0] := ⟨_, rfl⟩
  have hst : (Instr.storeAt 65 (.pointer (some ⟨w.heap.size, 0, none⟩)) (.agg V)).run Tryz.prog (w.alloc (.cells Z 65)) = .ok () (w.alloc (.cells V 65)) := run_storeAt_new w 65 Z V (by rw [hV]; exact infoCfg) (by rw [hV, hZ]; rfl) (by rw [hV]; simp [Value.oneCell'])
  have hlc : (loadCellsFrom ⟨w.heap.size, 0, none⟩ 0 27 #[]).run Tryz.prog (w.alloc (.cells V 65)) = .ok V (w.alloc (.cells V 65)) := run_loadCellsFrom_new (P := Tryz.prog) w 65 V 27 (by rw [hV]; rfl)
  have hbd : ∀ W, (Instr.build 65 #[(0, .int .i64 1), (1, .int .i64 1), (2, .int .i64 1), (3, .int .i64 4096), (4, .int .i64 1), (5, .int .i64 1), (6, .int .i64 1), (7, .int .i64 2), (8, .int .i64 3), (9, .int .i64 4096), (10, .int .i64 2), (11, .int .i64 2048), (12, .int .i64 1), (13, .int .i64 64), (14, .int .i64 1), (15, .int .i64 0), (16, .int .i64 1088), (17, .int .i64 1), (18, .int .i64 1088), (19, .int .i64 1), (20, .int .i64 17408), (21, .int .i64 1088), (22, .int .i64 17408), (23, .int .i64 86013), (24, .int .i64 0), (25, .int .i64 1), (26, .int .i64 4096)]).run Tryz.prog W = .ok (.agg V) W := fun W => by rw [hV]; exact run_build W _ _ _ bltEx
  have HV : Hid (V = cfgA exC) := by rw [hV, exA]; exact hid rfl
  go_enter Tryz.func14, Tryz.ntmps14
  go_upto_region 1 with (fail)
  rw [← hZ]
  clear hZ hV
  refine wp_region_lit ?_
  refine wpList_valueR (.agg V) rfl (run_buildR rfl (by simp [Act.eval]) (hbd _)) ?_
  refine wpList_skipR rfl (run_skipR (s := Instr.storeAt 65 (.pointer (some ⟨w.heap.size, 0, none⟩)) (.agg V)) hst) ?_
  refine wpList_nil ?_
  clear hst hbd
  simp only [Act.put, Exit.then]
  go_wp2
  refine bodyPost_ret (v := .agg V) ?_ rfl ⟨by rw [HV.out], ?_⟩
  · have hld := loadVarCfg hlc
    simp only [results, Tryz.results14]
    simp [Sem.run_bind, Result.andThen, asAddr, hld]
  · exact (Below.refl _ _).alloc (Nat.le_refl _) _

end Pcm
end Go.Proofs.YtebfokjgeknciabGreatDoor
