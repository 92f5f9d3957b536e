import Derived.Test.YtebfokjgeknciabGreatDoorPcG1
import Derived.Test.YtebfokjgeknciabGreatDoorPcG2
import Derived.Test.YtebfokjgeknciabGreatDoorPcG3
import Derived.Test.YtebfokjgeknciabGreatDoorPcG4
import Derived.Test.YtebfokjgeknciabGreatDoorPcG5
import Derived.Test.YtebfokjgeknciabGreatDoorPcG6
import Derived.Test.YtebfokjgeknciabGreatDoorPcG7
import Derived.Test.YtebfokjgeknciabGreatDoorPcG8
import Derived.Test.YtebfokjgeknciabGreatDoorPcG100
namespace Go.Proofs.YtebfokjgeknciabGreatDoor
namespace Pcm
open Go.RowKit Laws Irw
set_option linter.unusedVariables false
set_option linter.unusedSimpArgs false
set_option maxRecDepth 20000

set_option maxHeartbeats 8000000 in
theorem fields_any (c : Cf) (hc : RC c) (w : World) :
    Calls Tryz.prog 53 #[.agg (cfgA c)] w fun e w' => FdIs c w e w' := by
  have HC := hid hc
  clear hc
  have hL0 := lc_new w c 65
  have hz0 : w.heap.size < (w.alloc (.cells (cfgA c) 65)).heap.size := by simp
  have HB0 : Hid (Below w.heap.size w (w.alloc (.cells (cfgA c) 65))) := (Below.refl _ _).alloc (Nat.le_refl _) _
  go_enter Tryz.func53, Tryz.ntmps53
  go_wp2
  generalize (w.alloc (.cells (cfgA c) 65)) = W at *
  change Code.wp _ (Code.region 1 fieldsOps true) _ _ _
  refine startL (S := (Sf W w.heap.size c)) 95 (List.toArray (false :: false :: false :: false :: false :: false :: false :: false :: false :: false :: false :: false :: false :: false :: false :: false :: false :: false :: false :: false :: false :: false :: false :: false :: false :: false :: false :: false :: false :: false :: false :: false :: false :: false :: false :: false :: false :: false :: false :: false :: false :: false :: false :: false :: false :: false :: false :: false :: false :: false :: false :: false :: false :: false :: false :: false :: false :: false :: false :: false :: false :: false :: false :: false :: false :: false :: false :: false :: false :: false :: false :: false :: false :: false :: false :: false :: false :: false :: false :: false :: false :: false :: false :: false :: false :: false :: false :: false :: false :: false :: false :: false :: false :: false :: false :: [])) (by kernel_rfl) (by kernel_rfl) (by rfl) ?_ (fun hHeld => ?_)
  · exact Sf.mk hL0 hz0 (Below.refl _ _).drew
  refine fk1 c W _ _ _ (fun _ _ _ _ _ h => h) hHeld ?_
  refine fk2 c W _ _ _ (fun _ _ _ _ _ h => h) hHeld ?_
  refine fk3 c W _ _ _ (fun _ _ _ _ _ h => h) hHeld ?_
  refine fk4 c W _ _ _ (fun _ _ _ _ _ h => h) hHeld ?_
  refine fk5 c W _ _ _ (fun _ _ _ _ _ h => h) hHeld ?_
  refine fk6 c W _ _ _ (fun _ _ _ _ _ h => h) hHeld ?_
  refine fk7 c W _ _ _ (fun _ _ _ _ _ h => h) hHeld ?_
  refine fk8 c W _ _ _ (fun _ _ _ _ _ h => h) hHeld ?_
  refine stepL (i := 82) (o := { dst := some 85, op := Go.Op.call { callee := Go.Callee.value (Go.Operand.func 84), args := #[Go.Operand.tmp 84], argTypes := #[65] }, type := 3, pos := "check.go:44", after := #[{ on := 81, ground := Go.Ground.data }], guard := none }) (List.toArray (true :: true :: true :: true :: true :: true :: true :: true :: true :: true :: true :: true :: true :: true :: true :: true :: true :: true :: true :: true :: true :: true :: true :: true :: true :: true :: true :: true :: true :: true :: true :: true :: true :: true :: true :: true :: true :: true :: true :: true :: true :: true :: true :: true :: true :: true :: true :: true :: true :: true :: true :: true :: true :: true :: true :: true :: true :: true :: true :: true :: true :: true :: true :: true :: true :: true :: true :: true :: true :: true :: true :: true :: true :: true :: true :: true :: true :: true :: true :: true :: true :: true :: true :: false :: true :: true :: true :: true :: true :: true :: true :: true :: true :: false :: false :: [])) (by kernel_rfl) (by rfl) (by kernel_rfl) (fun K hK => ?_)
  go_simp
  refine (leastDebtStop_any c HC.out _).mono ?_
  rintro e w9 ⟨rfl, hb9⟩
  try dsimp only
  refine hK.out _ _ ?_ (fun hHeld => ?_)
  · exact Sf.mk hL0 hz0 ((Sf.below hHeld).trans (hb9.mono (Sf.below hHeld).size))
  clear hK K
  try simp only [Act.put, List.setIfInBounds_toArray, List.set_cons_zero, List.set_cons_succ]
  rename_i hHeld0
  refine fk100 c W _ _ _ (fun _ _ _ _ _ h => h) hHeld _ ?_
  refine stepL (i := 93) (o := { dst := some 96, op := Go.Op.buildSlice 83 27 #[(0, Go.Operand.tmp 5), (1, Go.Operand.tmp 8), (2, Go.Operand.tmp 11), (3, Go.Operand.tmp 14), (4, Go.Operand.tmp 17), (5, Go.Operand.tmp 20), (6, Go.Operand.tmp 25), (7, Go.Operand.tmp 34), (8, Go.Operand.tmp 37), (9, Go.Operand.tmp 40), (10, Go.Operand.tmp 43), (11, Go.Operand.tmp 46), (12, Go.Operand.tmp 49), (13, Go.Operand.tmp 52), (14, Go.Operand.tmp 55), (15, Go.Operand.tmp 58), (16, Go.Operand.tmp 61), (17, Go.Operand.tmp 64), (18, Go.Operand.tmp 69), (19, Go.Operand.tmp 72), (20, Go.Operand.tmp 75), (21, Go.Operand.tmp 78), (22, Go.Operand.tmp 81), (23, Go.Operand.tmp 86), (24, Go.Operand.tmp 89), (25, Go.Operand.tmp 92), (26, Go.Operand.tmp 95)], type := 83, pos := "check.go:20", after := #[{ on := 2, ground := Go.Ground.data }, { on := 5, ground := Go.Ground.data }, { on := 8, ground := Go.Ground.data }, { on := 11, ground := Go.Ground.data }, { on := 14, ground := Go.Ground.data }, { on := 17, ground := Go.Ground.data }, { on := 22, ground := Go.Ground.data }, { on := 31, ground := Go.Ground.data }, { on := 34, ground := Go.Ground.data }, { on := 37, ground := Go.Ground.data }, { on := 40, ground := Go.Ground.data }, { on := 43, ground := Go.Ground.data }, { on := 46, ground := Go.Ground.data }, { on := 49, ground := Go.Ground.data }, { on := 52, ground := Go.Ground.data }, { on := 55, ground := Go.Ground.data }, { on := 58, ground := Go.Ground.data }, { on := 61, ground := Go.Ground.data }, { on := 66, ground := Go.Ground.data }, { on := 69, ground := Go.Ground.data }, { on := 72, ground := Go.Ground.data }, { on := 75, ground := Go.Ground.data }, { on := 78, ground := Go.Ground.data }, { on := 83, ground := Go.Ground.data }, { on := 86, ground := Go.Ground.data }, { on := 89, ground := Go.Ground.data }, { on := 92, ground := Go.Ground.data }], guard := none }) (List.toArray (true :: true :: true :: true :: true :: true :: true :: true :: true :: true :: true :: true :: true :: true :: true :: true :: true :: true :: true :: true :: true :: true :: true :: true :: true :: true :: true :: true :: true :: true :: true :: true :: true :: true :: true :: true :: true :: true :: true :: true :: true :: true :: true :: true :: true :: true :: true :: true :: true :: true :: true :: true :: true :: true :: true :: true :: true :: true :: true :: true :: true :: true :: true :: true :: true :: true :: true :: true :: true :: true :: true :: true :: true :: true :: true :: true :: true :: true :: true :: true :: true :: true :: true :: true :: true :: true :: true :: true :: true :: true :: true :: true :: true :: true :: false :: [])) (by kernel_rfl) (by rfl) (by kernel_rfl) (fun K hK => ?_)
  go_simp
  refine hK.out _ _ ?_ (fun hHeld => ?_)
  · exact Sf.mk hL0 hz0 ((Sf.below hHeld).alloc (Sf.below hHeld).size _)
  clear hK K
  try simp only [Act.put, List.setIfInBounds_toArray, List.set_cons_zero, List.set_cons_succ]
  refine takeL (i := 94) (oi := { dst := some 2, op := Go.Op.assign (Go.Operand.tmp 96), type := 83, pos := "check.go:20", after := ([{ on := 93, ground := Go.Ground.data }, { on := 82, ground := Go.Ground.chain }, { on := 0, ground := Go.Ground.phase }, { on := 1, ground := Go.Ground.phase }, { on := 2, ground := Go.Ground.phase }, { on := 3, ground := Go.Ground.phase }, { on := 4, ground := Go.Ground.phase }, { on := 5, ground := Go.Ground.phase }, { on := 6, ground := Go.Ground.phase }, { on := 7, ground := Go.Ground.phase }, { on := 8, ground := Go.Ground.phase }, { on := 9, ground := Go.Ground.phase }, { on := 10, ground := Go.Ground.phase }, { on := 11, ground := Go.Ground.phase }, { on := 12, ground := Go.Ground.phase }, { on := 13, ground := Go.Ground.phase }, { on := 14, ground := Go.Ground.phase }, { on := 15, ground := Go.Ground.phase }, { on := 16, ground := Go.Ground.phase }, { on := 17, ground := Go.Ground.phase }, { on := 18, ground := Go.Ground.phase }, { on := 19, ground := Go.Ground.phase }, { on := 20, ground := Go.Ground.phase }, { on := 21, ground := Go.Ground.phase }, { on := 22, ground := Go.Ground.phase }, { on := 23, ground := Go.Ground.phase }, { on := 24, ground := Go.Ground.phase }, { on := 25, ground := Go.Ground.phase }, { on := 26, ground := Go.Ground.phase }, { on := 27, ground := Go.Ground.phase }, { on := 28, ground := Go.Ground.phase }, { on := 29, ground := Go.Ground.phase }, { on := 30, ground := Go.Ground.phase }, { on := 31, ground := Go.Ground.phase }, { on := 32, ground := Go.Ground.phase }, { on := 33, ground := Go.Ground.phase }, { on := 34, ground := Go.Ground.phase }, { on := 35, ground := Go.Ground.phase }, { on := 36, ground := Go.Ground.phase }, { on := 37, ground := Go.Ground.phase }, { on := 38, ground := Go.Ground.phase }, { on := 39, ground := Go.Ground.phase }, { on := 40, ground := Go.Ground.phase }, { on := 41, ground := Go.Ground.phase }, { on := 42, ground := Go.Ground.phase }, { on := 43, ground := Go.Ground.phase }, { on := 44, ground := Go.Ground.phase }, { on := 45, ground := Go.Ground.phase }].append [{ on := 46, ground := Go.Ground.phase }, { on := 47, ground := Go.Ground.phase }, { on := 48, ground := Go.Ground.phase }, { on := 49, ground := Go.Ground.phase }, { on := 50, ground := Go.Ground.phase }, { on := 51, ground := Go.Ground.phase }, { on := 52, ground := Go.Ground.phase }, { on := 53, ground := Go.Ground.phase }, { on := 54, ground := Go.Ground.phase }, { on := 55, ground := Go.Ground.phase }, { on := 56, ground := Go.Ground.phase }, { on := 57, ground := Go.Ground.phase }, { on := 58, ground := Go.Ground.phase }, { on := 59, ground := Go.Ground.phase }, { on := 60, ground := Go.Ground.phase }, { on := 61, ground := Go.Ground.phase }, { on := 62, ground := Go.Ground.phase }, { on := 63, ground := Go.Ground.phase }, { on := 64, ground := Go.Ground.phase }, { on := 65, ground := Go.Ground.phase }, { on := 66, ground := Go.Ground.phase }, { on := 67, ground := Go.Ground.phase }, { on := 68, ground := Go.Ground.phase }, { on := 69, ground := Go.Ground.phase }, { on := 70, ground := Go.Ground.phase }, { on := 71, ground := Go.Ground.phase }, { on := 72, ground := Go.Ground.phase }, { on := 73, ground := Go.Ground.phase }, { on := 74, ground := Go.Ground.phase }, { on := 75, ground := Go.Ground.phase }, { on := 76, ground := Go.Ground.phase }, { on := 77, ground := Go.Ground.phase }, { on := 78, ground := Go.Ground.phase }, { on := 79, ground := Go.Ground.phase }, { on := 80, ground := Go.Ground.phase }, { on := 81, ground := Go.Ground.phase }, { on := 82, ground := Go.Ground.phase }, { on := 83, ground := Go.Ground.phase }, { on := 84, ground := Go.Ground.phase }, { on := 85, ground := Go.Ground.phase }, { on := 86, ground := Go.Ground.phase }, { on := 87, ground := Go.Ground.phase }, { on := 88, ground := Go.Ground.phase }, { on := 89, ground := Go.Ground.phase }, { on := 90, ground := Go.Ground.phase }, { on := 91, ground := Go.Ground.phase }, { on := 92, ground := Go.Ground.phase }, { on := 93, ground := Go.Ground.phase }]).toArray, guard := none }) (v := ?_) (List.toArray (true :: true :: true :: true :: true :: true :: true :: true :: true :: true :: true :: true :: true :: true :: true :: true :: true :: true :: true :: true :: true :: true :: true :: true :: true :: true :: true :: true :: true :: true :: true :: true :: true :: true :: true :: true :: true :: true :: true :: true :: true :: true :: true :: true :: true :: true :: true :: true :: true :: true :: true :: true :: true :: true :: true :: true :: true :: true :: true :: true :: true :: true :: true :: true :: true :: true :: true :: true :: true :: true :: true :: true :: true :: true :: true :: true :: true :: true :: true :: true :: true :: true :: true :: true :: true :: true :: true :: true :: true :: true :: true :: true :: true :: true :: true :: [])) fields_ns (by kernel_rfl) (by kernel_rfl) (by kernel_rfl) (by rfl) (fun _ _ _ h => h) (Or.inl ⟨by rfl, ?_⟩) hHeld ?_
  rotate_left
  · (intro wq hSw; go_simp; try (with_reducible rfl))
  try simp only [Act.put, List.setIfInBounds_toArray, List.set_cons_zero, List.set_cons_succ]
  refine wpAnyH_done (by kernel_rfl) ?_ _
  have HBZ := hid (Sf.below hHeld)
  clear hHeld
  go_wp2
  go_ret
  exact ⟨_, rfl, frow_new w9 (flds c (pX c)) _ _ (by rw [wrapEq]; rfl), HB0.out.trans (HBZ.out.mono HB0.out.size)⟩

end Pcm
end Go.Proofs.YtebfokjgeknciabGreatDoor
