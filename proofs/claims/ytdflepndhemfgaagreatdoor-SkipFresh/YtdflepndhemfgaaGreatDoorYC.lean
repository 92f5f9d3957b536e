import Derived.Test.YtdflepndhemfgaaGreatDoorProg
import Derived.WalkKit
import Derived.WalkSpells
import Derived.WalkLawsBesides
namespace Go.Proofs.YtdflepndhemfgaaGreatDoor
namespace BookB
open Go.RowKit
set_option linter.unusedVariables false

set_option maxRecDepth 100000 in
set_option maxHeartbeats 400000 in
theorem growInts_nil (K : Nat) (w : World) (h : w.cell? ⟨K, 17, none⟩ = some (.slice none 0 0)) (h2 : w.cell? ⟨K, 20, none⟩ = some (.slice none 0 0)) (f : w.frozen? ⟨K, 17, none⟩ = false) (f2 : w.frozen? ⟨K, 20, none⟩ = false) :
    Calls Tryz.prog 90 #[.pointer (some ⟨K, 0, none⟩)] w fun e w' => e = .returned (.tuple #[]) ∧ w' = (w.setCell ⟨K, 17, none⟩ (.slice none 0 0)).setCell ⟨K, 20, none⟩ (.slice none 0 0) := by
  go_enter Tryz.func90, Tryz.ntmps90
  go_wp2
  refine wp_loop_rounds 1 ?_
  rw [rounds_succ]
  go_wp2
  go_end0
  exact ⟨rfl, rfl⟩

set_option maxRecDepth 100000 in
set_option maxHeartbeats 400000 in
theorem growNums_nil (K : Nat) (w : World) (h : w.cell? ⟨K, 26, none⟩ = some (.slice none 0 0)) (h2 : w.cell? ⟨K, 29, none⟩ = some (.slice none 0 0)) (f : w.frozen? ⟨K, 26, none⟩ = false) (f2 : w.frozen? ⟨K, 29, none⟩ = false) :
    Calls Tryz.prog 91 #[.pointer (some ⟨K, 0, none⟩)] w fun e w' => e = .returned (.tuple #[]) ∧ w' = (w.setCell ⟨K, 26, none⟩ (.slice none 0 0)).setCell ⟨K, 29, none⟩ (.slice none 0 0) := by
  go_enter Tryz.func91, Tryz.ntmps91
  go_wp2
  refine wp_loop_rounds 1 ?_
  rw [rounds_succ]
  go_wp2
  go_end0
  exact ⟨rfl, rfl⟩

set_option maxRecDepth 100000 in
set_option maxHeartbeats 400000 in
theorem growTexts_nil (K : Nat) (w : World) (h : w.cell? ⟨K, 35, none⟩ = some (.slice none 0 0)) (h2 : w.cell? ⟨K, 38, none⟩ = some (.slice none 0 0)) (f : w.frozen? ⟨K, 35, none⟩ = false) (f2 : w.frozen? ⟨K, 38, none⟩ = false) :
    Calls Tryz.prog 92 #[.pointer (some ⟨K, 0, none⟩)] w fun e w' => e = .returned (.tuple #[]) ∧ w' = (w.setCell ⟨K, 35, none⟩ (.slice none 0 0)).setCell ⟨K, 38, none⟩ (.slice none 0 0) := by
  go_enter Tryz.func92, Tryz.ntmps92
  go_wp2
  refine wp_loop_rounds 1 ?_
  rw [rounds_succ]
  go_wp2
  go_end0
  exact ⟨rfl, rfl⟩

set_option maxRecDepth 100000 in
set_option maxHeartbeats 400000 in
theorem growEntries_nil (K : Nat) (w : World) (h : w.cell? ⟨K, 44, none⟩ = some (.slice none 0 0)) (h2 : w.cell? ⟨K, 47, none⟩ = some (.slice none 0 0)) (f : w.frozen? ⟨K, 44, none⟩ = false) (f2 : w.frozen? ⟨K, 47, none⟩ = false) :
    Calls Tryz.prog 93 #[.pointer (some ⟨K, 0, none⟩)] w fun e w' => e = .returned (.tuple #[]) ∧ w' = (w.setCell ⟨K, 44, none⟩ (.slice none 0 0)).setCell ⟨K, 47, none⟩ (.slice none 0 0) := by
  go_enter Tryz.func93, Tryz.ntmps93
  go_wp2
  refine wp_loop_rounds 1 ?_
  rw [rounds_succ]
  go_wp2
  go_end0
  exact ⟨rfl, rfl⟩

set_option maxRecDepth 100000 in
set_option maxHeartbeats 400000 in
theorem growPairs_nil (K : Nat) (w : World) (h : w.cell? ⟨K, 53, none⟩ = some (.slice none 0 0)) (h2 : w.cell? ⟨K, 56, none⟩ = some (.slice none 0 0)) (f : w.frozen? ⟨K, 53, none⟩ = false) (f2 : w.frozen? ⟨K, 56, none⟩ = false) :
    Calls Tryz.prog 94 #[.pointer (some ⟨K, 0, none⟩)] w fun e w' => e = .returned (.tuple #[]) ∧ w' = (w.setCell ⟨K, 53, none⟩ (.slice none 0 0)).setCell ⟨K, 56, none⟩ (.slice none 0 0) := by
  go_enter Tryz.func94, Tryz.ntmps94
  go_wp2
  refine wp_loop_rounds 1 ?_
  rw [rounds_succ]
  go_wp2
  go_end0
  exact ⟨rfl, rfl⟩

set_option maxRecDepth 100000 in
set_option maxHeartbeats 400000 in
theorem growWrites_nil (K : Nat) (w : World) (h : w.cell? ⟨K, 62, none⟩ = some (.slice none 0 0)) (h2 : w.cell? ⟨K, 65, none⟩ = some (.slice none 0 0)) (f : w.frozen? ⟨K, 62, none⟩ = false) (f2 : w.frozen? ⟨K, 65, none⟩ = false) :
    Calls Tryz.prog 95 #[.pointer (some ⟨K, 0, none⟩)] w fun e w' => e = .returned (.tuple #[]) ∧ w' = (w.setCell ⟨K, 62, none⟩ (.slice none 0 0)).setCell ⟨K, 65, none⟩ (.slice none 0 0) := by
  go_enter Tryz.func95, Tryz.ntmps95
  go_wp2
  refine wp_loop_rounds 1 ?_
  rw [rounds_succ]
  go_wp2
  go_end0
  exact ⟨rfl, rfl⟩

set_option maxRecDepth 100000 in
set_option maxHeartbeats 400000 in
theorem growTables_nil (K : Nat) (w : World) (h : w.cell? ⟨K, 71, none⟩ = some (.slice none 0 0)) (h2 : w.cell? ⟨K, 74, none⟩ = some (.slice none 0 0)) (f : w.frozen? ⟨K, 71, none⟩ = false) (f2 : w.frozen? ⟨K, 74, none⟩ = false) :
    Calls Tryz.prog 96 #[.pointer (some ⟨K, 0, none⟩)] w fun e w' => e = .returned (.tuple #[]) ∧ w' = (w.setCell ⟨K, 71, none⟩ (.slice none 0 0)).setCell ⟨K, 74, none⟩ (.slice none 0 0) := by
  go_enter Tryz.func96, Tryz.ntmps96
  go_wp2
  refine wp_loop_rounds 1 ?_
  rw [rounds_succ]
  go_wp2
  go_end0
  exact ⟨rfl, rfl⟩

set_option maxRecDepth 100000 in
set_option maxHeartbeats 400000 in
theorem growPlaces_nil (K : Nat) (w : World) (h : w.cell? ⟨K, 80, none⟩ = some (.slice none 0 0)) (h2 : w.cell? ⟨K, 83, none⟩ = some (.slice none 0 0)) (f : w.frozen? ⟨K, 80, none⟩ = false) (f2 : w.frozen? ⟨K, 83, none⟩ = false) :
    Calls Tryz.prog 97 #[.pointer (some ⟨K, 0, none⟩)] w fun e w' => e = .returned (.tuple #[]) ∧ w' = (w.setCell ⟨K, 80, none⟩ (.slice none 0 0)).setCell ⟨K, 83, none⟩ (.slice none 0 0) := by
  go_enter Tryz.func97, Tryz.ntmps97
  go_wp2
  refine wp_loop_rounds 1 ?_
  rw [rounds_succ]
  go_wp2
  go_end0
  exact ⟨rfl, rfl⟩

set_option maxRecDepth 100000 in
set_option maxHeartbeats 400000 in
theorem growPlaceds_nil (K : Nat) (w : World) (h : w.cell? ⟨K, 89, none⟩ = some (.slice none 0 0)) (h2 : w.cell? ⟨K, 92, none⟩ = some (.slice none 0 0)) (f : w.frozen? ⟨K, 89, none⟩ = false) (f2 : w.frozen? ⟨K, 92, none⟩ = false) :
    Calls Tryz.prog 98 #[.pointer (some ⟨K, 0, none⟩)] w fun e w' => e = .returned (.tuple #[]) ∧ w' = (w.setCell ⟨K, 89, none⟩ (.slice none 0 0)).setCell ⟨K, 92, none⟩ (.slice none 0 0) := by
  go_enter Tryz.func98, Tryz.ntmps98
  go_wp2
  refine wp_loop_rounds 1 ?_
  rw [rounds_succ]
  go_wp2
  go_end0
  exact ⟨rfl, rfl⟩

set_option maxRecDepth 100000 in
set_option maxHeartbeats 400000 in
theorem growFaults_nil (K : Nat) (w : World) (h : w.cell? ⟨K, 98, none⟩ = some (.slice none 0 0)) (h2 : w.cell? ⟨K, 101, none⟩ = some (.slice none 0 0)) (f : w.frozen? ⟨K, 98, none⟩ = false) (f2 : w.frozen? ⟨K, 101, none⟩ = false) :
    Calls Tryz.prog 99 #[.pointer (some ⟨K, 0, none⟩)] w fun e w' => e = .returned (.tuple #[]) ∧ w' = (w.setCell ⟨K, 98, none⟩ (.slice none 0 0)).setCell ⟨K, 101, none⟩ (.slice none 0 0) := by
  go_enter Tryz.func99, Tryz.ntmps99
  go_wp2
  refine wp_loop_rounds 1 ?_
  rw [rounds_succ]
  go_wp2
  go_end0
  exact ⟨rfl, rfl⟩

set_option maxRecDepth 100000 in
set_option maxHeartbeats 400000 in
theorem growChunks_nil (K : Nat) (w : World) (h : w.cell? ⟨K, 107, none⟩ = some (.slice none 0 0)) (h2 : w.cell? ⟨K, 110, none⟩ = some (.slice none 0 0)) (f : w.frozen? ⟨K, 107, none⟩ = false) (f2 : w.frozen? ⟨K, 110, none⟩ = false) :
    Calls Tryz.prog 100 #[.pointer (some ⟨K, 0, none⟩)] w fun e w' => e = .returned (.tuple #[]) ∧ w' = (w.setCell ⟨K, 107, none⟩ (.slice none 0 0)).setCell ⟨K, 110, none⟩ (.slice none 0 0) := by
  go_enter Tryz.func100, Tryz.ntmps100
  go_wp2
  refine wp_loop_rounds 1 ?_
  rw [rounds_succ]
  go_wp2
  go_end0
  exact ⟨rfl, rfl⟩

set_option maxRecDepth 100000 in
set_option maxHeartbeats 400000 in
theorem growGroups_nil (K : Nat) (w : World) (h : w.cell? ⟨K, 116, none⟩ = some (.slice none 0 0)) (h2 : w.cell? ⟨K, 119, none⟩ = some (.slice none 0 0)) (f : w.frozen? ⟨K, 116, none⟩ = false) (f2 : w.frozen? ⟨K, 119, none⟩ = false) :
    Calls Tryz.prog 101 #[.pointer (some ⟨K, 0, none⟩)] w fun e w' => e = .returned (.tuple #[]) ∧ w' = (w.setCell ⟨K, 116, none⟩ (.slice none 0 0)).setCell ⟨K, 119, none⟩ (.slice none 0 0) := by
  go_enter Tryz.func101, Tryz.ntmps101
  go_wp2
  refine wp_loop_rounds 1 ?_
  rw [rounds_succ]
  go_wp2
  go_end0
  exact ⟨rfl, rfl⟩

set_option maxRecDepth 100000 in
set_option maxHeartbeats 400000 in
theorem growRuns_nil (K : Nat) (w : World) (h : w.cell? ⟨K, 125, none⟩ = some (.slice none 0 0)) (h2 : w.cell? ⟨K, 128, none⟩ = some (.slice none 0 0)) (f : w.frozen? ⟨K, 125, none⟩ = false) (f2 : w.frozen? ⟨K, 128, none⟩ = false) :
    Calls Tryz.prog 102 #[.pointer (some ⟨K, 0, none⟩)] w fun e w' => e = .returned (.tuple #[]) ∧ w' = (w.setCell ⟨K, 125, none⟩ (.slice none 0 0)).setCell ⟨K, 128, none⟩ (.slice none 0 0) := by
  go_enter Tryz.func102, Tryz.ntmps102
  go_wp2
  refine wp_loop_rounds 1 ?_
  rw [rounds_succ]
  go_wp2
  go_end0
  exact ⟨rfl, rfl⟩

set_option maxRecDepth 100000 in
set_option maxHeartbeats 400000 in
theorem growLevels_nil (K : Nat) (w : World) (h : w.cell? ⟨K, 134, none⟩ = some (.slice none 0 0)) (h2 : w.cell? ⟨K, 137, none⟩ = some (.slice none 0 0)) (f : w.frozen? ⟨K, 134, none⟩ = false) (f2 : w.frozen? ⟨K, 137, none⟩ = false) :
    Calls Tryz.prog 103 #[.pointer (some ⟨K, 0, none⟩)] w fun e w' => e = .returned (.tuple #[]) ∧ w' = (w.setCell ⟨K, 134, none⟩ (.slice none 0 0)).setCell ⟨K, 137, none⟩ (.slice none 0 0) := by
  go_enter Tryz.func103, Tryz.ntmps103
  go_wp2
  refine wp_loop_rounds 1 ?_
  rw [rounds_succ]
  go_wp2
  go_end0
  exact ⟨rfl, rfl⟩

set_option maxRecDepth 100000 in
set_option maxHeartbeats 400000 in
theorem growFiles_nil (K : Nat) (w : World) (h : w.cell? ⟨K, 143, none⟩ = some (.slice none 0 0)) (h2 : w.cell? ⟨K, 146, none⟩ = some (.slice none 0 0)) (f : w.frozen? ⟨K, 143, none⟩ = false) (f2 : w.frozen? ⟨K, 146, none⟩ = false) :
    Calls Tryz.prog 104 #[.pointer (some ⟨K, 0, none⟩)] w fun e w' => e = .returned (.tuple #[]) ∧ w' = (w.setCell ⟨K, 143, none⟩ (.slice none 0 0)).setCell ⟨K, 146, none⟩ (.slice none 0 0) := by
  go_enter Tryz.func104, Tryz.ntmps104
  go_wp2
  refine wp_loop_rounds 1 ?_
  rw [rounds_succ]
  go_wp2
  go_end0
  exact ⟨rfl, rfl⟩

set_option maxRecDepth 100000 in
set_option maxHeartbeats 400000 in
theorem growJobs_nil (K : Nat) (w : World) (h : w.cell? ⟨K, 152, none⟩ = some (.slice none 0 0)) (h2 : w.cell? ⟨K, 155, none⟩ = some (.slice none 0 0)) (f : w.frozen? ⟨K, 152, none⟩ = false) (f2 : w.frozen? ⟨K, 155, none⟩ = false) :
    Calls Tryz.prog 105 #[.pointer (some ⟨K, 0, none⟩)] w fun e w' => e = .returned (.tuple #[]) ∧ w' = (w.setCell ⟨K, 152, none⟩ (.slice none 0 0)).setCell ⟨K, 155, none⟩ (.slice none 0 0) := by
  go_enter Tryz.func105, Tryz.ntmps105
  go_wp2
  refine wp_loop_rounds 1 ?_
  rw [rounds_succ]
  go_wp2
  go_end0
  exact ⟨rfl, rfl⟩

set_option maxRecDepth 100000 in
set_option maxHeartbeats 400000 in
theorem growEdits_nil (K : Nat) (w : World) (h : w.cell? ⟨K, 161, none⟩ = some (.slice none 0 0)) (h2 : w.cell? ⟨K, 164, none⟩ = some (.slice none 0 0)) (f : w.frozen? ⟨K, 161, none⟩ = false) (f2 : w.frozen? ⟨K, 164, none⟩ = false) :
    Calls Tryz.prog 106 #[.pointer (some ⟨K, 0, none⟩)] w fun e w' => e = .returned (.tuple #[]) ∧ w' = (w.setCell ⟨K, 161, none⟩ (.slice none 0 0)).setCell ⟨K, 164, none⟩ (.slice none 0 0) := by
  go_enter Tryz.func106, Tryz.ntmps106
  go_wp2
  refine wp_loop_rounds 1 ?_
  rw [rounds_succ]
  go_wp2
  go_end0
  exact ⟨rfl, rfl⟩

set_option maxRecDepth 100000 in
set_option maxHeartbeats 400000 in
theorem growSteps_nil (K : Nat) (w : World) (h : w.cell? ⟨K, 170, none⟩ = some (.slice none 0 0)) (h2 : w.cell? ⟨K, 173, none⟩ = some (.slice none 0 0)) (f : w.frozen? ⟨K, 170, none⟩ = false) (f2 : w.frozen? ⟨K, 173, none⟩ = false) :
    Calls Tryz.prog 107 #[.pointer (some ⟨K, 0, none⟩)] w fun e w' => e = .returned (.tuple #[]) ∧ w' = (w.setCell ⟨K, 170, none⟩ (.slice none 0 0)).setCell ⟨K, 173, none⟩ (.slice none 0 0) := by
  go_enter Tryz.func107, Tryz.ntmps107
  go_wp2
  refine wp_loop_rounds 1 ?_
  rw [rounds_succ]
  go_wp2
  go_end0
  exact ⟨rfl, rfl⟩

end BookB
end Go.Proofs.YtdflepndhemfgaaGreatDoor
