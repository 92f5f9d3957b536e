import Derived.Test.YtebfokjgeknciabGreatDoorProg
import Derived.WalkKit
import Derived.WalkSpells
import Derived.WalkLawsBesides
namespace Go.Proofs.YtebfokjgeknciabGreatDoor
namespace BookB
open Go.RowKit
set_option linter.unusedVariables false

set_option maxRecDepth 100000 in
set_option maxHeartbeats 400000 in
theorem markInts_nil (K : Nat) (w : World) (h15 : w.cell? ⟨K, 15, none⟩ = some (.slice none 0 0)) (h16 : w.cell? ⟨K, 16, none⟩ = some (.slice none 0 0)) (h18 : w.cell? ⟨K, 18, none⟩ = some (.slice none 0 0)) (h19 : w.cell? ⟨K, 19, none⟩ = some (.slice none 0 0)) :
    Calls Tryz.prog 92 #[.pointer (some ⟨K, 0, none⟩)] w fun e w' => e = .returned (.tuple #[]) ∧ w' = w := by
  go_enter Tryz.func92, Tryz.ntmps92
  go_wp2
  exact bodyPost_ret (results_none Tryz.results92 _ _ _) rfl ⟨rfl, rfl⟩

set_option maxRecDepth 100000 in
set_option maxHeartbeats 400000 in
theorem markNums_nil (K : Nat) (w : World) (h24 : w.cell? ⟨K, 24, none⟩ = some (.slice none 0 0)) (h25 : w.cell? ⟨K, 25, none⟩ = some (.slice none 0 0)) (h27 : w.cell? ⟨K, 27, none⟩ = some (.slice none 0 0)) (h28 : w.cell? ⟨K, 28, none⟩ = some (.slice none 0 0)) :
    Calls Tryz.prog 93 #[.pointer (some ⟨K, 0, none⟩)] w fun e w' => e = .returned (.tuple #[]) ∧ w' = w := by
  go_enter Tryz.func93, Tryz.ntmps93
  go_wp2
  exact bodyPost_ret (results_none Tryz.results93 _ _ _) rfl ⟨rfl, rfl⟩

set_option maxRecDepth 100000 in
set_option maxHeartbeats 400000 in
theorem markTexts_nil (K : Nat) (w : World) (h33 : w.cell? ⟨K, 33, none⟩ = some (.slice none 0 0)) (h34 : w.cell? ⟨K, 34, none⟩ = some (.slice none 0 0)) (h36 : w.cell? ⟨K, 36, none⟩ = some (.slice none 0 0)) (h37 : w.cell? ⟨K, 37, none⟩ = some (.slice none 0 0)) :
    Calls Tryz.prog 94 #[.pointer (some ⟨K, 0, none⟩)] w fun e w' => e = .returned (.tuple #[]) ∧ w' = w := by
  go_enter Tryz.func94, Tryz.ntmps94
  go_wp2
  exact bodyPost_ret (results_none Tryz.results94 _ _ _) rfl ⟨rfl, rfl⟩

set_option maxRecDepth 100000 in
set_option maxHeartbeats 400000 in
theorem markEntries_nil (K : Nat) (w : World) (h42 : w.cell? ⟨K, 42, none⟩ = some (.slice none 0 0)) (h43 : w.cell? ⟨K, 43, none⟩ = some (.slice none 0 0)) (h45 : w.cell? ⟨K, 45, none⟩ = some (.slice none 0 0)) (h46 : w.cell? ⟨K, 46, none⟩ = some (.slice none 0 0)) :
    Calls Tryz.prog 95 #[.pointer (some ⟨K, 0, none⟩)] w fun e w' => e = .returned (.tuple #[]) ∧ w' = w := by
  go_enter Tryz.func95, Tryz.ntmps95
  go_wp2
  exact bodyPost_ret (results_none Tryz.results95 _ _ _) rfl ⟨rfl, rfl⟩

set_option maxRecDepth 100000 in
set_option maxHeartbeats 400000 in
theorem markPairs_nil (K : Nat) (w : World) (h51 : w.cell? ⟨K, 51, none⟩ = some (.slice none 0 0)) (h52 : w.cell? ⟨K, 52, none⟩ = some (.slice none 0 0)) (h54 : w.cell? ⟨K, 54, none⟩ = some (.slice none 0 0)) (h55 : w.cell? ⟨K, 55, none⟩ = some (.slice none 0 0)) :
    Calls Tryz.prog 96 #[.pointer (some ⟨K, 0, none⟩)] w fun e w' => e = .returned (.tuple #[]) ∧ w' = w := by
  go_enter Tryz.func96, Tryz.ntmps96
  go_wp2
  exact bodyPost_ret (results_none Tryz.results96 _ _ _) rfl ⟨rfl, rfl⟩

set_option maxRecDepth 100000 in
set_option maxHeartbeats 400000 in
theorem markWrites_nil (K : Nat) (w : World) (h60 : w.cell? ⟨K, 60, none⟩ = some (.slice none 0 0)) (h61 : w.cell? ⟨K, 61, none⟩ = some (.slice none 0 0)) (h63 : w.cell? ⟨K, 63, none⟩ = some (.slice none 0 0)) (h64 : w.cell? ⟨K, 64, none⟩ = some (.slice none 0 0)) :
    Calls Tryz.prog 97 #[.pointer (some ⟨K, 0, none⟩)] w fun e w' => e = .returned (.tuple #[]) ∧ w' = w := by
  go_enter Tryz.func97, Tryz.ntmps97
  go_wp2
  exact bodyPost_ret (results_none Tryz.results97 _ _ _) rfl ⟨rfl, rfl⟩

set_option maxRecDepth 100000 in
set_option maxHeartbeats 400000 in
theorem markTables_nil (K : Nat) (w : World) (h69 : w.cell? ⟨K, 69, none⟩ = some (.slice none 0 0)) (h70 : w.cell? ⟨K, 70, none⟩ = some (.slice none 0 0)) (h72 : w.cell? ⟨K, 72, none⟩ = some (.slice none 0 0)) (h73 : w.cell? ⟨K, 73, none⟩ = some (.slice none 0 0)) :
    Calls Tryz.prog 98 #[.pointer (some ⟨K, 0, none⟩)] w fun e w' => e = .returned (.tuple #[]) ∧ w' = w := by
  go_enter Tryz.func98, Tryz.ntmps98
  go_wp2
  exact bodyPost_ret (results_none Tryz.results98 _ _ _) rfl ⟨rfl, rfl⟩

set_option maxRecDepth 100000 in
set_option maxHeartbeats 400000 in
theorem markPlaces_nil (K : Nat) (w : World) (h78 : w.cell? ⟨K, 78, none⟩ = some (.slice none 0 0)) (h79 : w.cell? ⟨K, 79, none⟩ = some (.slice none 0 0)) (h81 : w.cell? ⟨K, 81, none⟩ = some (.slice none 0 0)) (h82 : w.cell? ⟨K, 82, none⟩ = some (.slice none 0 0)) :
    Calls Tryz.prog 99 #[.pointer (some ⟨K, 0, none⟩)] w fun e w' => e = .returned (.tuple #[]) ∧ w' = w := by
  go_enter Tryz.func99, Tryz.ntmps99
  go_wp2
  exact bodyPost_ret (results_none Tryz.results99 _ _ _) rfl ⟨rfl, rfl⟩

set_option maxRecDepth 100000 in
set_option maxHeartbeats 400000 in
theorem markPlaceds_nil (K : Nat) (w : World) (h87 : w.cell? ⟨K, 87, none⟩ = some (.slice none 0 0)) (h88 : w.cell? ⟨K, 88, none⟩ = some (.slice none 0 0)) (h90 : w.cell? ⟨K, 90, none⟩ = some (.slice none 0 0)) (h91 : w.cell? ⟨K, 91, none⟩ = some (.slice none 0 0)) :
    Calls Tryz.prog 100 #[.pointer (some ⟨K, 0, none⟩)] w fun e w' => e = .returned (.tuple #[]) ∧ w' = w := by
  go_enter Tryz.func100, Tryz.ntmps100
  go_wp2
  exact bodyPost_ret (results_none Tryz.results100 _ _ _) rfl ⟨rfl, rfl⟩

set_option maxRecDepth 100000 in
set_option maxHeartbeats 400000 in
theorem markFaults_nil (K : Nat) (w : World) (h96 : w.cell? ⟨K, 96, none⟩ = some (.slice none 0 0)) (h97 : w.cell? ⟨K, 97, none⟩ = some (.slice none 0 0)) (h99 : w.cell? ⟨K, 99, none⟩ = some (.slice none 0 0)) (h100 : w.cell? ⟨K, 100, none⟩ = some (.slice none 0 0)) :
    Calls Tryz.prog 101 #[.pointer (some ⟨K, 0, none⟩)] w fun e w' => e = .returned (.tuple #[]) ∧ w' = w := by
  go_enter Tryz.func101, Tryz.ntmps101
  go_wp2
  exact bodyPost_ret (results_none Tryz.results101 _ _ _) rfl ⟨rfl, rfl⟩

set_option maxRecDepth 100000 in
set_option maxHeartbeats 400000 in
theorem markChunks_nil (K : Nat) (w : World) (h105 : w.cell? ⟨K, 105, none⟩ = some (.slice none 0 0)) (h106 : w.cell? ⟨K, 106, none⟩ = some (.slice none 0 0)) (h108 : w.cell? ⟨K, 108, none⟩ = some (.slice none 0 0)) (h109 : w.cell? ⟨K, 109, none⟩ = some (.slice none 0 0)) :
    Calls Tryz.prog 102 #[.pointer (some ⟨K, 0, none⟩)] w fun e w' => e = .returned (.tuple #[]) ∧ w' = w := by
  go_enter Tryz.func102, Tryz.ntmps102
  go_wp2
  exact bodyPost_ret (results_none Tryz.results102 _ _ _) rfl ⟨rfl, rfl⟩

set_option maxRecDepth 100000 in
set_option maxHeartbeats 400000 in
theorem markGroups_nil (K : Nat) (w : World) (h114 : w.cell? ⟨K, 114, none⟩ = some (.slice none 0 0)) (h115 : w.cell? ⟨K, 115, none⟩ = some (.slice none 0 0)) (h117 : w.cell? ⟨K, 117, none⟩ = some (.slice none 0 0)) (h118 : w.cell? ⟨K, 118, none⟩ = some (.slice none 0 0)) :
    Calls Tryz.prog 103 #[.pointer (some ⟨K, 0, none⟩)] w fun e w' => e = .returned (.tuple #[]) ∧ w' = w := by
  go_enter Tryz.func103, Tryz.ntmps103
  go_wp2
  exact bodyPost_ret (results_none Tryz.results103 _ _ _) rfl ⟨rfl, rfl⟩

set_option maxRecDepth 100000 in
set_option maxHeartbeats 400000 in
theorem markRuns_nil (K : Nat) (w : World) (h123 : w.cell? ⟨K, 123, none⟩ = some (.slice none 0 0)) (h124 : w.cell? ⟨K, 124, none⟩ = some (.slice none 0 0)) (h126 : w.cell? ⟨K, 126, none⟩ = some (.slice none 0 0)) (h127 : w.cell? ⟨K, 127, none⟩ = some (.slice none 0 0)) :
    Calls Tryz.prog 104 #[.pointer (some ⟨K, 0, none⟩)] w fun e w' => e = .returned (.tuple #[]) ∧ w' = w := by
  go_enter Tryz.func104, Tryz.ntmps104
  go_wp2
  exact bodyPost_ret (results_none Tryz.results104 _ _ _) rfl ⟨rfl, rfl⟩

set_option maxRecDepth 100000 in
set_option maxHeartbeats 400000 in
theorem markLevels_nil (K : Nat) (w : World) (h132 : w.cell? ⟨K, 132, none⟩ = some (.slice none 0 0)) (h133 : w.cell? ⟨K, 133, none⟩ = some (.slice none 0 0)) (h135 : w.cell? ⟨K, 135, none⟩ = some (.slice none 0 0)) (h136 : w.cell? ⟨K, 136, none⟩ = some (.slice none 0 0)) :
    Calls Tryz.prog 105 #[.pointer (some ⟨K, 0, none⟩)] w fun e w' => e = .returned (.tuple #[]) ∧ w' = w := by
  go_enter Tryz.func105, Tryz.ntmps105
  go_wp2
  exact bodyPost_ret (results_none Tryz.results105 _ _ _) rfl ⟨rfl, rfl⟩

set_option maxRecDepth 100000 in
set_option maxHeartbeats 400000 in
theorem markFiles_nil (K : Nat) (w : World) (h141 : w.cell? ⟨K, 141, none⟩ = some (.slice none 0 0)) (h142 : w.cell? ⟨K, 142, none⟩ = some (.slice none 0 0)) (h144 : w.cell? ⟨K, 144, none⟩ = some (.slice none 0 0)) (h145 : w.cell? ⟨K, 145, none⟩ = some (.slice none 0 0)) :
    Calls Tryz.prog 106 #[.pointer (some ⟨K, 0, none⟩)] w fun e w' => e = .returned (.tuple #[]) ∧ w' = w := by
  go_enter Tryz.func106, Tryz.ntmps106
  go_wp2
  exact bodyPost_ret (results_none Tryz.results106 _ _ _) rfl ⟨rfl, rfl⟩

set_option maxRecDepth 100000 in
set_option maxHeartbeats 400000 in
theorem markJobs_nil (K : Nat) (w : World) (h150 : w.cell? ⟨K, 150, none⟩ = some (.slice none 0 0)) (h151 : w.cell? ⟨K, 151, none⟩ = some (.slice none 0 0)) (h153 : w.cell? ⟨K, 153, none⟩ = some (.slice none 0 0)) (h154 : w.cell? ⟨K, 154, none⟩ = some (.slice none 0 0)) :
    Calls Tryz.prog 107 #[.pointer (some ⟨K, 0, none⟩)] w fun e w' => e = .returned (.tuple #[]) ∧ w' = w := by
  go_enter Tryz.func107, Tryz.ntmps107
  go_wp2
  exact bodyPost_ret (results_none Tryz.results107 _ _ _) rfl ⟨rfl, rfl⟩

set_option maxRecDepth 100000 in
set_option maxHeartbeats 400000 in
theorem markEdits_nil (K : Nat) (w : World) (h159 : w.cell? ⟨K, 159, none⟩ = some (.slice none 0 0)) (h160 : w.cell? ⟨K, 160, none⟩ = some (.slice none 0 0)) (h162 : w.cell? ⟨K, 162, none⟩ = some (.slice none 0 0)) (h163 : w.cell? ⟨K, 163, none⟩ = some (.slice none 0 0)) :
    Calls Tryz.prog 108 #[.pointer (some ⟨K, 0, none⟩)] w fun e w' => e = .returned (.tuple #[]) ∧ w' = w := by
  go_enter Tryz.func108, Tryz.ntmps108
  go_wp2
  exact bodyPost_ret (results_none Tryz.results108 _ _ _) rfl ⟨rfl, rfl⟩

set_option maxRecDepth 100000 in
set_option maxHeartbeats 400000 in
theorem markSteps_nil (K : Nat) (w : World) (h168 : w.cell? ⟨K, 168, none⟩ = some (.slice none 0 0)) (h169 : w.cell? ⟨K, 169, none⟩ = some (.slice none 0 0)) (h171 : w.cell? ⟨K, 171, none⟩ = some (.slice none 0 0)) (h172 : w.cell? ⟨K, 172, none⟩ = some (.slice none 0 0)) :
    Calls Tryz.prog 109 #[.pointer (some ⟨K, 0, none⟩)] w fun e w' => e = .returned (.tuple #[]) ∧ w' = w := by
  go_enter Tryz.func109, Tryz.ntmps109
  go_wp2
  exact bodyPost_ret (results_none Tryz.results109 _ _ _) rfl ⟨rfl, rfl⟩

end BookB
end Go.Proofs.YtebfokjgeknciabGreatDoor
namespace Go.Proofs.YtebfokjgeknciabGreatDoor
namespace BookB
open Go.RowKit
set_option linter.unusedVariables false

set_option maxRecDepth 100000 in
set_option maxHeartbeats 400000 in
theorem growInts_nil (K : Nat) (w : World) (h : w.cell? ⟨K, 17, none⟩ = some (.slice none 0 0)) (h2 : w.cell? ⟨K, 20, none⟩ = some (.slice none 0 0)) (f : w.frozen? ⟨K, 17, none⟩ = false) (f2 : w.frozen? ⟨K, 20, none⟩ = false) :
    Calls Tryz.prog 111 #[.pointer (some ⟨K, 0, none⟩)] w fun e w' => e = .returned (.tuple #[]) ∧ w' = (w.setCell ⟨K, 17, none⟩ (.slice none 0 0)).setCell ⟨K, 20, none⟩ (.slice none 0 0) := by
  go_enter Tryz.func111, Tryz.ntmps111
  go_wp2
  refine wp_loop_rounds 1 ?_
  rw [rounds_succ]
  go_wp2
  go_end0
  exact ⟨rfl, rfl⟩

set_option maxRecDepth 100000 in
set_option maxHeartbeats 400000 in
theorem growNums_nil (K : Nat) (w : World) (h : w.cell? ⟨K, 26, none⟩ = some (.slice none 0 0)) (h2 : w.cell? ⟨K, 29, none⟩ = some (.slice none 0 0)) (f : w.frozen? ⟨K, 26, none⟩ = false) (f2 : w.frozen? ⟨K, 29, none⟩ = false) :
    Calls Tryz.prog 112 #[.pointer (some ⟨K, 0, none⟩)] w fun e w' => e = .returned (.tuple #[]) ∧ w' = (w.setCell ⟨K, 26, none⟩ (.slice none 0 0)).setCell ⟨K, 29, none⟩ (.slice none 0 0) := by
  go_enter Tryz.func112, Tryz.ntmps112
  go_wp2
  refine wp_loop_rounds 1 ?_
  rw [rounds_succ]
  go_wp2
  go_end0
  exact ⟨rfl, rfl⟩

set_option maxRecDepth 100000 in
set_option maxHeartbeats 400000 in
theorem growTexts_nil (K : Nat) (w : World) (h : w.cell? ⟨K, 35, none⟩ = some (.slice none 0 0)) (h2 : w.cell? ⟨K, 38, none⟩ = some (.slice none 0 0)) (f : w.frozen? ⟨K, 35, none⟩ = false) (f2 : w.frozen? ⟨K, 38, none⟩ = false) :
    Calls Tryz.prog 113 #[.pointer (some ⟨K, 0, none⟩)] w fun e w' => e = .returned (.tuple #[]) ∧ w' = (w.setCell ⟨K, 35, none⟩ (.slice none 0 0)).setCell ⟨K, 38, none⟩ (.slice none 0 0) := by
  go_enter Tryz.func113, Tryz.ntmps113
  go_wp2
  refine wp_loop_rounds 1 ?_
  rw [rounds_succ]
  go_wp2
  go_end0
  exact ⟨rfl, rfl⟩

set_option maxRecDepth 100000 in
set_option maxHeartbeats 400000 in
theorem growEntries_nil (K : Nat) (w : World) (h : w.cell? ⟨K, 44, none⟩ = some (.slice none 0 0)) (h2 : w.cell? ⟨K, 47, none⟩ = some (.slice none 0 0)) (f : w.frozen? ⟨K, 44, none⟩ = false) (f2 : w.frozen? ⟨K, 47, none⟩ = false) :
    Calls Tryz.prog 114 #[.pointer (some ⟨K, 0, none⟩)] w fun e w' => e = .returned (.tuple #[]) ∧ w' = (w.setCell ⟨K, 44, none⟩ (.slice none 0 0)).setCell ⟨K, 47, none⟩ (.slice none 0 0) := by
  go_enter Tryz.func114, Tryz.ntmps114
  go_wp2
  refine wp_loop_rounds 1 ?_
  rw [rounds_succ]
  go_wp2
  go_end0
  exact ⟨rfl, rfl⟩

set_option maxRecDepth 100000 in
set_option maxHeartbeats 400000 in
theorem growPairs_nil (K : Nat) (w : World) (h : w.cell? ⟨K, 53, none⟩ = some (.slice none 0 0)) (h2 : w.cell? ⟨K, 56, none⟩ = some (.slice none 0 0)) (f : w.frozen? ⟨K, 53, none⟩ = false) (f2 : w.frozen? ⟨K, 56, none⟩ = false) :
    Calls Tryz.prog 115 #[.pointer (some ⟨K, 0, none⟩)] w fun e w' => e = .returned (.tuple #[]) ∧ w' = (w.setCell ⟨K, 53, none⟩ (.slice none 0 0)).setCell ⟨K, 56, none⟩ (.slice none 0 0) := by
  go_enter Tryz.func115, Tryz.ntmps115
  go_wp2
  refine wp_loop_rounds 1 ?_
  rw [rounds_succ]
  go_wp2
  go_end0
  exact ⟨rfl, rfl⟩

set_option maxRecDepth 100000 in
set_option maxHeartbeats 400000 in
theorem growWrites_nil (K : Nat) (w : World) (h : w.cell? ⟨K, 62, none⟩ = some (.slice none 0 0)) (h2 : w.cell? ⟨K, 65, none⟩ = some (.slice none 0 0)) (f : w.frozen? ⟨K, 62, none⟩ = false) (f2 : w.frozen? ⟨K, 65, none⟩ = false) :
    Calls Tryz.prog 116 #[.pointer (some ⟨K, 0, none⟩)] w fun e w' => e = .returned (.tuple #[]) ∧ w' = (w.setCell ⟨K, 62, none⟩ (.slice none 0 0)).setCell ⟨K, 65, none⟩ (.slice none 0 0) := by
  go_enter Tryz.func116, Tryz.ntmps116
  go_wp2
  refine wp_loop_rounds 1 ?_
  rw [rounds_succ]
  go_wp2
  go_end0
  exact ⟨rfl, rfl⟩

set_option maxRecDepth 100000 in
set_option maxHeartbeats 400000 in
theorem growTables_nil (K : Nat) (w : World) (h : w.cell? ⟨K, 71, none⟩ = some (.slice none 0 0)) (h2 : w.cell? ⟨K, 74, none⟩ = some (.slice none 0 0)) (f : w.frozen? ⟨K, 71, none⟩ = false) (f2 : w.frozen? ⟨K, 74, none⟩ = false) :
    Calls Tryz.prog 117 #[.pointer (some ⟨K, 0, none⟩)] w fun e w' => e = .returned (.tuple #[]) ∧ w' = (w.setCell ⟨K, 71, none⟩ (.slice none 0 0)).setCell ⟨K, 74, none⟩ (.slice none 0 0) := by
  go_enter Tryz.func117, Tryz.ntmps117
  go_wp2
  refine wp_loop_rounds 1 ?_
  rw [rounds_succ]
  go_wp2
  go_end0
  exact ⟨rfl, rfl⟩

set_option maxRecDepth 100000 in
set_option maxHeartbeats 400000 in
theorem growPlaces_nil (K : Nat) (w : World) (h : w.cell? ⟨K, 80, none⟩ = some (.slice none 0 0)) (h2 : w.cell? ⟨K, 83, none⟩ = some (.slice none 0 0)) (f : w.frozen? ⟨K, 80, none⟩ = false) (f2 : w.frozen? ⟨K, 83, none⟩ = false) :
    Calls Tryz.prog 118 #[.pointer (some ⟨K, 0, none⟩)] w fun e w' => e = .returned (.tuple #[]) ∧ w' = (w.setCell ⟨K, 80, none⟩ (.slice none 0 0)).setCell ⟨K, 83, none⟩ (.slice none 0 0) := by
  go_enter Tryz.func118, Tryz.ntmps118
  go_wp2
  refine wp_loop_rounds 1 ?_
  rw [rounds_succ]
  go_wp2
  go_end0
  exact ⟨rfl, rfl⟩

set_option maxRecDepth 100000 in
set_option maxHeartbeats 400000 in
theorem growPlaceds_nil (K : Nat) (w : World) (h : w.cell? ⟨K, 89, none⟩ = some (.slice none 0 0)) (h2 : w.cell? ⟨K, 92, none⟩ = some (.slice none 0 0)) (f : w.frozen? ⟨K, 89, none⟩ = false) (f2 : w.frozen? ⟨K, 92, none⟩ = false) :
    Calls Tryz.prog 119 #[.pointer (some ⟨K, 0, none⟩)] w fun e w' => e = .returned (.tuple #[]) ∧ w' = (w.setCell ⟨K, 89, none⟩ (.slice none 0 0)).setCell ⟨K, 92, none⟩ (.slice none 0 0) := by
  go_enter Tryz.func119, Tryz.ntmps119
  go_wp2
  refine wp_loop_rounds 1 ?_
  rw [rounds_succ]
  go_wp2
  go_end0
  exact ⟨rfl, rfl⟩

set_option maxRecDepth 100000 in
set_option maxHeartbeats 400000 in
theorem growFaults_nil (K : Nat) (w : World) (h : w.cell? ⟨K, 98, none⟩ = some (.slice none 0 0)) (h2 : w.cell? ⟨K, 101, none⟩ = some (.slice none 0 0)) (f : w.frozen? ⟨K, 98, none⟩ = false) (f2 : w.frozen? ⟨K, 101, none⟩ = false) :
    Calls Tryz.prog 120 #[.pointer (some ⟨K, 0, none⟩)] w fun e w' => e = .returned (.tuple #[]) ∧ w' = (w.setCell ⟨K, 98, none⟩ (.slice none 0 0)).setCell ⟨K, 101, none⟩ (.slice none 0 0) := by
  go_enter Tryz.func120, Tryz.ntmps120
  go_wp2
  refine wp_loop_rounds 1 ?_
  rw [rounds_succ]
  go_wp2
  go_end0
  exact ⟨rfl, rfl⟩

set_option maxRecDepth 100000 in
set_option maxHeartbeats 400000 in
theorem growChunks_nil (K : Nat) (w : World) (h : w.cell? ⟨K, 107, none⟩ = some (.slice none 0 0)) (h2 : w.cell? ⟨K, 110, none⟩ = some (.slice none 0 0)) (f : w.frozen? ⟨K, 107, none⟩ = false) (f2 : w.frozen? ⟨K, 110, none⟩ = false) :
    Calls Tryz.prog 121 #[.pointer (some ⟨K, 0, none⟩)] w fun e w' => e = .returned (.tuple #[]) ∧ w' = (w.setCell ⟨K, 107, none⟩ (.slice none 0 0)).setCell ⟨K, 110, none⟩ (.slice none 0 0) := by
  go_enter Tryz.func121, Tryz.ntmps121
  go_wp2
  refine wp_loop_rounds 1 ?_
  rw [rounds_succ]
  go_wp2
  go_end0
  exact ⟨rfl, rfl⟩

set_option maxRecDepth 100000 in
set_option maxHeartbeats 400000 in
theorem growGroups_nil (K : Nat) (w : World) (h : w.cell? ⟨K, 116, none⟩ = some (.slice none 0 0)) (h2 : w.cell? ⟨K, 119, none⟩ = some (.slice none 0 0)) (f : w.frozen? ⟨K, 116, none⟩ = false) (f2 : w.frozen? ⟨K, 119, none⟩ = false) :
    Calls Tryz.prog 122 #[.pointer (some ⟨K, 0, none⟩)] w fun e w' => e = .returned (.tuple #[]) ∧ w' = (w.setCell ⟨K, 116, none⟩ (.slice none 0 0)).setCell ⟨K, 119, none⟩ (.slice none 0 0) := by
  go_enter Tryz.func122, Tryz.ntmps122
  go_wp2
  refine wp_loop_rounds 1 ?_
  rw [rounds_succ]
  go_wp2
  go_end0
  exact ⟨rfl, rfl⟩

set_option maxRecDepth 100000 in
set_option maxHeartbeats 400000 in
theorem growRuns_nil (K : Nat) (w : World) (h : w.cell? ⟨K, 125, none⟩ = some (.slice none 0 0)) (h2 : w.cell? ⟨K, 128, none⟩ = some (.slice none 0 0)) (f : w.frozen? ⟨K, 125, none⟩ = false) (f2 : w.frozen? ⟨K, 128, none⟩ = false) :
    Calls Tryz.prog 123 #[.pointer (some ⟨K, 0, none⟩)] w fun e w' => e = .returned (.tuple #[]) ∧ w' = (w.setCell ⟨K, 125, none⟩ (.slice none 0 0)).setCell ⟨K, 128, none⟩ (.slice none 0 0) := by
  go_enter Tryz.func123, Tryz.ntmps123
  go_wp2
  refine wp_loop_rounds 1 ?_
  rw [rounds_succ]
  go_wp2
  go_end0
  exact ⟨rfl, rfl⟩

set_option maxRecDepth 100000 in
set_option maxHeartbeats 400000 in
theorem growLevels_nil (K : Nat) (w : World) (h : w.cell? ⟨K, 134, none⟩ = some (.slice none 0 0)) (h2 : w.cell? ⟨K, 137, none⟩ = some (.slice none 0 0)) (f : w.frozen? ⟨K, 134, none⟩ = false) (f2 : w.frozen? ⟨K, 137, none⟩ = false) :
    Calls Tryz.prog 124 #[.pointer (some ⟨K, 0, none⟩)] w fun e w' => e = .returned (.tuple #[]) ∧ w' = (w.setCell ⟨K, 134, none⟩ (.slice none 0 0)).setCell ⟨K, 137, none⟩ (.slice none 0 0) := by
  go_enter Tryz.func124, Tryz.ntmps124
  go_wp2
  refine wp_loop_rounds 1 ?_
  rw [rounds_succ]
  go_wp2
  go_end0
  exact ⟨rfl, rfl⟩

set_option maxRecDepth 100000 in
set_option maxHeartbeats 400000 in
theorem growFiles_nil (K : Nat) (w : World) (h : w.cell? ⟨K, 143, none⟩ = some (.slice none 0 0)) (h2 : w.cell? ⟨K, 146, none⟩ = some (.slice none 0 0)) (f : w.frozen? ⟨K, 143, none⟩ = false) (f2 : w.frozen? ⟨K, 146, none⟩ = false) :
    Calls Tryz.prog 125 #[.pointer (some ⟨K, 0, none⟩)] w fun e w' => e = .returned (.tuple #[]) ∧ w' = (w.setCell ⟨K, 143, none⟩ (.slice none 0 0)).setCell ⟨K, 146, none⟩ (.slice none 0 0) := by
  go_enter Tryz.func125, Tryz.ntmps125
  go_wp2
  refine wp_loop_rounds 1 ?_
  rw [rounds_succ]
  go_wp2
  go_end0
  exact ⟨rfl, rfl⟩

set_option maxRecDepth 100000 in
set_option maxHeartbeats 400000 in
theorem growJobs_nil (K : Nat) (w : World) (h : w.cell? ⟨K, 152, none⟩ = some (.slice none 0 0)) (h2 : w.cell? ⟨K, 155, none⟩ = some (.slice none 0 0)) (f : w.frozen? ⟨K, 152, none⟩ = false) (f2 : w.frozen? ⟨K, 155, none⟩ = false) :
    Calls Tryz.prog 126 #[.pointer (some ⟨K, 0, none⟩)] w fun e w' => e = .returned (.tuple #[]) ∧ w' = (w.setCell ⟨K, 152, none⟩ (.slice none 0 0)).setCell ⟨K, 155, none⟩ (.slice none 0 0) := by
  go_enter Tryz.func126, Tryz.ntmps126
  go_wp2
  refine wp_loop_rounds 1 ?_
  rw [rounds_succ]
  go_wp2
  go_end0
  exact ⟨rfl, rfl⟩

set_option maxRecDepth 100000 in
set_option maxHeartbeats 400000 in
theorem growEdits_nil (K : Nat) (w : World) (h : w.cell? ⟨K, 161, none⟩ = some (.slice none 0 0)) (h2 : w.cell? ⟨K, 164, none⟩ = some (.slice none 0 0)) (f : w.frozen? ⟨K, 161, none⟩ = false) (f2 : w.frozen? ⟨K, 164, none⟩ = false) :
    Calls Tryz.prog 127 #[.pointer (some ⟨K, 0, none⟩)] w fun e w' => e = .returned (.tuple #[]) ∧ w' = (w.setCell ⟨K, 161, none⟩ (.slice none 0 0)).setCell ⟨K, 164, none⟩ (.slice none 0 0) := by
  go_enter Tryz.func127, Tryz.ntmps127
  go_wp2
  refine wp_loop_rounds 1 ?_
  rw [rounds_succ]
  go_wp2
  go_end0
  exact ⟨rfl, rfl⟩

set_option maxRecDepth 100000 in
set_option maxHeartbeats 400000 in
theorem growSteps_nil (K : Nat) (w : World) (h : w.cell? ⟨K, 170, none⟩ = some (.slice none 0 0)) (h2 : w.cell? ⟨K, 173, none⟩ = some (.slice none 0 0)) (f : w.frozen? ⟨K, 170, none⟩ = false) (f2 : w.frozen? ⟨K, 173, none⟩ = false) :
    Calls Tryz.prog 128 #[.pointer (some ⟨K, 0, none⟩)] w fun e w' => e = .returned (.tuple #[]) ∧ w' = (w.setCell ⟨K, 170, none⟩ (.slice none 0 0)).setCell ⟨K, 173, none⟩ (.slice none 0 0) := by
  go_enter Tryz.func128, Tryz.ntmps128
  go_wp2
  refine wp_loop_rounds 1 ?_
  rw [rounds_succ]
  go_wp2
  go_end0
  exact ⟨rfl, rfl⟩

end BookB
end Go.Proofs.YtebfokjgeknciabGreatDoor
