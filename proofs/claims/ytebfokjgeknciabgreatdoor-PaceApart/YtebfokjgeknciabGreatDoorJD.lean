import Derived.Test.YtebfokjgeknciabGreatDoorProg
import Derived.Test.YtebfokjgeknciabGreatDoorJP
import Derived.Test.YtebfokjgeknciabGreatDoorYC
import Derived.WalkKit
import Derived.WalkSpells
import Derived.WalkLawsBesides
namespace Go.Proofs.YtebfokjgeknciabGreatDoor
namespace BookI
open Go.RowKit Laws Irw
set_option linter.unusedVariables false
attribute [local go_sem ↓] Go.wp_at_zero Go.wp_at_succ

/-- The fields of the kinds that are not in use. -/
def Rest (f : Nat → Value) : Prop := ∀ j, 4 ≤ j → j < 175 → ¬ (13 ≤ j ∧ j < 22) → f j = f0 j
theorem Rest.nil {f : Nat → Value} (h : Rest f) (j : Nat) (h1 : 4 ≤ j) (h2 : j < 175) (h3 : ¬ (13 ≤ j ∧ j < 22)) (h4 : (j - 4) % 9 ≠ 8) : f j = .slice none 0 0 := by
  rw [h j h1 h2 h3]
  unfold f0
  rw [if_neg (by omega), if_neg (by omega), if_neg h4]
theorem Rest.cell {T : Nat → Nat} {w : World} {K : Nat} {f : Nat → Value} {L : Nat → List Value} (hC : Core T w K f L) (h : Rest f) (j : Nat) (h1 : 4 ≤ j) (h2 : j < 175) (h3 : ¬ (13 ≤ j ∧ j < 22)) (h4 : (j - 4) % 9 ≠ 8) : w.cell? ⟨K, j, none⟩ = some (.slice none 0 0) := by
  rw [(hC.fld.2 j h2).1, h.nil j h1 h2 h3 h4]
theorem upd_id {f : Nat → Value} {j : Nat} {v : Value} (h : f j = v) : upd f j v = f := by
  funext i
  by_cases e : i = j
  · subst e; rw [upd_same, h]
  · rw [upd_other _ _ e]
theorem Core.nil2 {T : Nat → Nat} {w : World} {K : Nat} {f : Nat → Value} {L : Nat → List Value} (h : Core T w K f L) (i j : Nat) (hi : i < 175) (hj : j < 175) (ni : ¬ (13 ≤ i ∧ i < 21)) (nj : ¬ (13 ≤ j ∧ j < 21)) (fi : f i = .slice none 0 0) (fj : f j = .slice none 0 0) :
    Core T ((w.setCell ⟨K, i, none⟩ (.slice none 0 0)).setCell ⟨K, j, none⟩ (.slice none 0 0)) K f L ∧ Past 21 T w T ((w.setCell ⟨K, i, none⟩ (.slice none 0 0)).setCell ⟨K, j, none⟩ (.slice none 0 0)) := by
  have h1 := h.field i hi ni (.slice none 0 0)
  rw [upd_id fi] at h1
  have h2 := h1.field j hj nj (.slice none 0 0)
  rw [upd_id fj] at h2
  exact ⟨h2, (Past.set h.tag (by omega) _ _).trans (Past.set h.tag (by omega) _ _)⟩
set_option maxRecDepth 100000 in
set_option maxHeartbeats 400000 in
theorem markBytes_nil (K : Nat) (w : World) (h15 : w.cell? ⟨K, 6, none⟩ = some (.slice none 0 0)) (h16 : w.cell? ⟨K, 7, none⟩ = some (.slice none 0 0)) (h18 : w.cell? ⟨K, 9, none⟩ = some (.slice none 0 0)) (h19 : w.cell? ⟨K, 10, none⟩ = some (.slice none 0 0)) :
    Calls Tryz.prog 91 #[.pointer (some ⟨K, 0, none⟩)] w fun e w' => e = .returned (.tuple #[]) ∧ w' = w := by
  go_enter Tryz.func91, Tryz.ntmps91
  go_wp2
  exact bodyPost_ret (results_none Tryz.results91 _ _ _) rfl ⟨rfl, rfl⟩
set_option maxRecDepth 100000 in
set_option maxHeartbeats 400000 in
theorem growBytes_nil (K : Nat) (w : World) (h : w.cell? ⟨K, 8, none⟩ = some (.slice none 0 0)) (h2 : w.cell? ⟨K, 11, none⟩ = some (.slice none 0 0)) (f : w.frozen? ⟨K, 8, none⟩ = false) (f2 : w.frozen? ⟨K, 11, none⟩ = false) :
    Calls Tryz.prog 110 #[.pointer (some ⟨K, 0, none⟩)] w fun e w' => e = .returned (.tuple #[]) ∧ w' = (w.setCell ⟨K, 8, none⟩ (.slice none 0 0)).setCell ⟨K, 11, none⟩ (.slice none 0 0) := by
  go_enter Tryz.func110, Tryz.ntmps110
  go_wp2
  refine wp_loop_rounds 1 ?_
  rw [rounds_succ]
  go_wp2
  go_end0
  exact ⟨rfl, rfl⟩
theorem markBytes_core {T : Nat → Nat} {w : World} {K : Nat} {f : Nat → Value} {L : Nat → List Value} (h : Core T w K f L) (hr : Rest f) : Calls Tryz.prog 91 #[.pointer (some ⟨K, 0, none⟩)] w fun e w' => e = .returned (.tuple #[]) ∧ w' = w :=
  markBytes_nil K w (hr.cell h 6 (by omega) (by omega) (by omega) (by decide)) (hr.cell h 7 (by omega) (by omega) (by omega) (by decide)) (hr.cell h 9 (by omega) (by omega) (by omega) (by decide)) (hr.cell h 10 (by omega) (by omega) (by omega) (by decide))
theorem growBytes_core {T : Nat → Nat} {w : World} {K : Nat} {f : Nat → Value} {L : Nat → List Value} (h : Core T w K f L) (hr : Rest f) : Calls Tryz.prog 110 #[.pointer (some ⟨K, 0, none⟩)] w fun e w' => e = .returned (.tuple #[]) ∧ Core T w' K f L ∧ Past 21 T w T w' :=
  (growBytes_nil K w (hr.cell h 8 (by omega) (by omega) (by omega) (by decide)) (hr.cell h 11 (by omega) (by omega) (by omega) (by decide)) (h.fld.2 8 (by omega)).2 (h.fld.2 11 (by omega)).2).mono (by rintro e w' ⟨rfl, rfl⟩; exact ⟨rfl, h.nil2 8 11 (by omega) (by omega) (by omega) (by omega) (hr.nil 8 (by omega) (by omega) (by omega) (by decide)) (hr.nil 11 (by omega) (by omega) (by omega) (by decide))⟩)
theorem markNums_core {T : Nat → Nat} {w : World} {K : Nat} {f : Nat → Value} {L : Nat → List Value} (h : Core T w K f L) (hr : Rest f) : Calls Tryz.prog 93 #[.pointer (some ⟨K, 0, none⟩)] w fun e w' => e = .returned (.tuple #[]) ∧ w' = w :=
  BookB.markNums_nil K w (hr.cell h 24 (by omega) (by omega) (by omega) (by decide)) (hr.cell h 25 (by omega) (by omega) (by omega) (by decide)) (hr.cell h 27 (by omega) (by omega) (by omega) (by decide)) (hr.cell h 28 (by omega) (by omega) (by omega) (by decide))
theorem growNums_core {T : Nat → Nat} {w : World} {K : Nat} {f : Nat → Value} {L : Nat → List Value} (h : Core T w K f L) (hr : Rest f) : Calls Tryz.prog 112 #[.pointer (some ⟨K, 0, none⟩)] w fun e w' => e = .returned (.tuple #[]) ∧ Core T w' K f L ∧ Past 21 T w T w' :=
  (BookB.growNums_nil K w (hr.cell h 26 (by omega) (by omega) (by omega) (by decide)) (hr.cell h 29 (by omega) (by omega) (by omega) (by decide)) (h.fld.2 26 (by omega)).2 (h.fld.2 29 (by omega)).2).mono (by rintro e w' ⟨rfl, rfl⟩; exact ⟨rfl, h.nil2 26 29 (by omega) (by omega) (by omega) (by omega) (hr.nil 26 (by omega) (by omega) (by omega) (by decide)) (hr.nil 29 (by omega) (by omega) (by omega) (by decide))⟩)
theorem markTexts_core {T : Nat → Nat} {w : World} {K : Nat} {f : Nat → Value} {L : Nat → List Value} (h : Core T w K f L) (hr : Rest f) : Calls Tryz.prog 94 #[.pointer (some ⟨K, 0, none⟩)] w fun e w' => e = .returned (.tuple #[]) ∧ w' = w :=
  BookB.markTexts_nil K w (hr.cell h 33 (by omega) (by omega) (by omega) (by decide)) (hr.cell h 34 (by omega) (by omega) (by omega) (by decide)) (hr.cell h 36 (by omega) (by omega) (by omega) (by decide)) (hr.cell h 37 (by omega) (by omega) (by omega) (by decide))
theorem growTexts_core {T : Nat → Nat} {w : World} {K : Nat} {f : Nat → Value} {L : Nat → List Value} (h : Core T w K f L) (hr : Rest f) : Calls Tryz.prog 113 #[.pointer (some ⟨K, 0, none⟩)] w fun e w' => e = .returned (.tuple #[]) ∧ Core T w' K f L ∧ Past 21 T w T w' :=
  (BookB.growTexts_nil K w (hr.cell h 35 (by omega) (by omega) (by omega) (by decide)) (hr.cell h 38 (by omega) (by omega) (by omega) (by decide)) (h.fld.2 35 (by omega)).2 (h.fld.2 38 (by omega)).2).mono (by rintro e w' ⟨rfl, rfl⟩; exact ⟨rfl, h.nil2 35 38 (by omega) (by omega) (by omega) (by omega) (hr.nil 35 (by omega) (by omega) (by omega) (by decide)) (hr.nil 38 (by omega) (by omega) (by omega) (by decide))⟩)
theorem markEntries_core {T : Nat → Nat} {w : World} {K : Nat} {f : Nat → Value} {L : Nat → List Value} (h : Core T w K f L) (hr : Rest f) : Calls Tryz.prog 95 #[.pointer (some ⟨K, 0, none⟩)] w fun e w' => e = .returned (.tuple #[]) ∧ w' = w :=
  BookB.markEntries_nil K w (hr.cell h 42 (by omega) (by omega) (by omega) (by decide)) (hr.cell h 43 (by omega) (by omega) (by omega) (by decide)) (hr.cell h 45 (by omega) (by omega) (by omega) (by decide)) (hr.cell h 46 (by omega) (by omega) (by omega) (by decide))
theorem growEntries_core {T : Nat → Nat} {w : World} {K : Nat} {f : Nat → Value} {L : Nat → List Value} (h : Core T w K f L) (hr : Rest f) : Calls Tryz.prog 114 #[.pointer (some ⟨K, 0, none⟩)] w fun e w' => e = .returned (.tuple #[]) ∧ Core T w' K f L ∧ Past 21 T w T w' :=
  (BookB.growEntries_nil K w (hr.cell h 44 (by omega) (by omega) (by omega) (by decide)) (hr.cell h 47 (by omega) (by omega) (by omega) (by decide)) (h.fld.2 44 (by omega)).2 (h.fld.2 47 (by omega)).2).mono (by rintro e w' ⟨rfl, rfl⟩; exact ⟨rfl, h.nil2 44 47 (by omega) (by omega) (by omega) (by omega) (hr.nil 44 (by omega) (by omega) (by omega) (by decide)) (hr.nil 47 (by omega) (by omega) (by omega) (by decide))⟩)
theorem markPairs_core {T : Nat → Nat} {w : World} {K : Nat} {f : Nat → Value} {L : Nat → List Value} (h : Core T w K f L) (hr : Rest f) : Calls Tryz.prog 96 #[.pointer (some ⟨K, 0, none⟩)] w fun e w' => e = .returned (.tuple #[]) ∧ w' = w :=
  BookB.markPairs_nil K w (hr.cell h 51 (by omega) (by omega) (by omega) (by decide)) (hr.cell h 52 (by omega) (by omega) (by omega) (by decide)) (hr.cell h 54 (by omega) (by omega) (by omega) (by decide)) (hr.cell h 55 (by omega) (by omega) (by omega) (by decide))
theorem growPairs_core {T : Nat → Nat} {w : World} {K : Nat} {f : Nat → Value} {L : Nat → List Value} (h : Core T w K f L) (hr : Rest f) : Calls Tryz.prog 115 #[.pointer (some ⟨K, 0, none⟩)] w fun e w' => e = .returned (.tuple #[]) ∧ Core T w' K f L ∧ Past 21 T w T w' :=
  (BookB.growPairs_nil K w (hr.cell h 53 (by omega) (by omega) (by omega) (by decide)) (hr.cell h 56 (by omega) (by omega) (by omega) (by decide)) (h.fld.2 53 (by omega)).2 (h.fld.2 56 (by omega)).2).mono (by rintro e w' ⟨rfl, rfl⟩; exact ⟨rfl, h.nil2 53 56 (by omega) (by omega) (by omega) (by omega) (hr.nil 53 (by omega) (by omega) (by omega) (by decide)) (hr.nil 56 (by omega) (by omega) (by omega) (by decide))⟩)
theorem markWrites_core {T : Nat → Nat} {w : World} {K : Nat} {f : Nat → Value} {L : Nat → List Value} (h : Core T w K f L) (hr : Rest f) : Calls Tryz.prog 97 #[.pointer (some ⟨K, 0, none⟩)] w fun e w' => e = .returned (.tuple #[]) ∧ w' = w :=
  BookB.markWrites_nil K w (hr.cell h 60 (by omega) (by omega) (by omega) (by decide)) (hr.cell h 61 (by omega) (by omega) (by omega) (by decide)) (hr.cell h 63 (by omega) (by omega) (by omega) (by decide)) (hr.cell h 64 (by omega) (by omega) (by omega) (by decide))
theorem growWrites_core {T : Nat → Nat} {w : World} {K : Nat} {f : Nat → Value} {L : Nat → List Value} (h : Core T w K f L) (hr : Rest f) : Calls Tryz.prog 116 #[.pointer (some ⟨K, 0, none⟩)] w fun e w' => e = .returned (.tuple #[]) ∧ Core T w' K f L ∧ Past 21 T w T w' :=
  (BookB.growWrites_nil K w (hr.cell h 62 (by omega) (by omega) (by omega) (by decide)) (hr.cell h 65 (by omega) (by omega) (by omega) (by decide)) (h.fld.2 62 (by omega)).2 (h.fld.2 65 (by omega)).2).mono (by rintro e w' ⟨rfl, rfl⟩; exact ⟨rfl, h.nil2 62 65 (by omega) (by omega) (by omega) (by omega) (hr.nil 62 (by omega) (by omega) (by omega) (by decide)) (hr.nil 65 (by omega) (by omega) (by omega) (by decide))⟩)
theorem markTables_core {T : Nat → Nat} {w : World} {K : Nat} {f : Nat → Value} {L : Nat → List Value} (h : Core T w K f L) (hr : Rest f) : Calls Tryz.prog 98 #[.pointer (some ⟨K, 0, none⟩)] w fun e w' => e = .returned (.tuple #[]) ∧ w' = w :=
  BookB.markTables_nil K w (hr.cell h 69 (by omega) (by omega) (by omega) (by decide)) (hr.cell h 70 (by omega) (by omega) (by omega) (by decide)) (hr.cell h 72 (by omega) (by omega) (by omega) (by decide)) (hr.cell h 73 (by omega) (by omega) (by omega) (by decide))
theorem growTables_core {T : Nat → Nat} {w : World} {K : Nat} {f : Nat → Value} {L : Nat → List Value} (h : Core T w K f L) (hr : Rest f) : Calls Tryz.prog 117 #[.pointer (some ⟨K, 0, none⟩)] w fun e w' => e = .returned (.tuple #[]) ∧ Core T w' K f L ∧ Past 21 T w T w' :=
  (BookB.growTables_nil K w (hr.cell h 71 (by omega) (by omega) (by omega) (by decide)) (hr.cell h 74 (by omega) (by omega) (by omega) (by decide)) (h.fld.2 71 (by omega)).2 (h.fld.2 74 (by omega)).2).mono (by rintro e w' ⟨rfl, rfl⟩; exact ⟨rfl, h.nil2 71 74 (by omega) (by omega) (by omega) (by omega) (hr.nil 71 (by omega) (by omega) (by omega) (by decide)) (hr.nil 74 (by omega) (by omega) (by omega) (by decide))⟩)
theorem markPlaces_core {T : Nat → Nat} {w : World} {K : Nat} {f : Nat → Value} {L : Nat → List Value} (h : Core T w K f L) (hr : Rest f) : Calls Tryz.prog 99 #[.pointer (some ⟨K, 0, none⟩)] w fun e w' => e = .returned (.tuple #[]) ∧ w' = w :=
  BookB.markPlaces_nil K w (hr.cell h 78 (by omega) (by omega) (by omega) (by decide)) (hr.cell h 79 (by omega) (by omega) (by omega) (by decide)) (hr.cell h 81 (by omega) (by omega) (by omega) (by decide)) (hr.cell h 82 (by omega) (by omega) (by omega) (by decide))
theorem growPlaces_core {T : Nat → Nat} {w : World} {K : Nat} {f : Nat → Value} {L : Nat → List Value} (h : Core T w K f L) (hr : Rest f) : Calls Tryz.prog 118 #[.pointer (some ⟨K, 0, none⟩)] w fun e w' => e = .returned (.tuple #[]) ∧ Core T w' K f L ∧ Past 21 T w T w' :=
  (BookB.growPlaces_nil K w (hr.cell h 80 (by omega) (by omega) (by omega) (by decide)) (hr.cell h 83 (by omega) (by omega) (by omega) (by decide)) (h.fld.2 80 (by omega)).2 (h.fld.2 83 (by omega)).2).mono (by rintro e w' ⟨rfl, rfl⟩; exact ⟨rfl, h.nil2 80 83 (by omega) (by omega) (by omega) (by omega) (hr.nil 80 (by omega) (by omega) (by omega) (by decide)) (hr.nil 83 (by omega) (by omega) (by omega) (by decide))⟩)
theorem markPlaceds_core {T : Nat → Nat} {w : World} {K : Nat} {f : Nat → Value} {L : Nat → List Value} (h : Core T w K f L) (hr : Rest f) : Calls Tryz.prog 100 #[.pointer (some ⟨K, 0, none⟩)] w fun e w' => e = .returned (.tuple #[]) ∧ w' = w :=
  BookB.markPlaceds_nil K w (hr.cell h 87 (by omega) (by omega) (by omega) (by decide)) (hr.cell h 88 (by omega) (by omega) (by omega) (by decide)) (hr.cell h 90 (by omega) (by omega) (by omega) (by decide)) (hr.cell h 91 (by omega) (by omega) (by omega) (by decide))
theorem growPlaceds_core {T : Nat → Nat} {w : World} {K : Nat} {f : Nat → Value} {L : Nat → List Value} (h : Core T w K f L) (hr : Rest f) : Calls Tryz.prog 119 #[.pointer (some ⟨K, 0, none⟩)] w fun e w' => e = .returned (.tuple #[]) ∧ Core T w' K f L ∧ Past 21 T w T w' :=
  (BookB.growPlaceds_nil K w (hr.cell h 89 (by omega) (by omega) (by omega) (by decide)) (hr.cell h 92 (by omega) (by omega) (by omega) (by decide)) (h.fld.2 89 (by omega)).2 (h.fld.2 92 (by omega)).2).mono (by rintro e w' ⟨rfl, rfl⟩; exact ⟨rfl, h.nil2 89 92 (by omega) (by omega) (by omega) (by omega) (hr.nil 89 (by omega) (by omega) (by omega) (by decide)) (hr.nil 92 (by omega) (by omega) (by omega) (by decide))⟩)
theorem markFaults_core {T : Nat → Nat} {w : World} {K : Nat} {f : Nat → Value} {L : Nat → List Value} (h : Core T w K f L) (hr : Rest f) : Calls Tryz.prog 101 #[.pointer (some ⟨K, 0, none⟩)] w fun e w' => e = .returned (.tuple #[]) ∧ w' = w :=
  BookB.markFaults_nil K w (hr.cell h 96 (by omega) (by omega) (by omega) (by decide)) (hr.cell h 97 (by omega) (by omega) (by omega) (by decide)) (hr.cell h 99 (by omega) (by omega) (by omega) (by decide)) (hr.cell h 100 (by omega) (by omega) (by omega) (by decide))
theorem growFaults_core {T : Nat → Nat} {w : World} {K : Nat} {f : Nat → Value} {L : Nat → List Value} (h : Core T w K f L) (hr : Rest f) : Calls Tryz.prog 120 #[.pointer (some ⟨K, 0, none⟩)] w fun e w' => e = .returned (.tuple #[]) ∧ Core T w' K f L ∧ Past 21 T w T w' :=
  (BookB.growFaults_nil K w (hr.cell h 98 (by omega) (by omega) (by omega) (by decide)) (hr.cell h 101 (by omega) (by omega) (by omega) (by decide)) (h.fld.2 98 (by omega)).2 (h.fld.2 101 (by omega)).2).mono (by rintro e w' ⟨rfl, rfl⟩; exact ⟨rfl, h.nil2 98 101 (by omega) (by omega) (by omega) (by omega) (hr.nil 98 (by omega) (by omega) (by omega) (by decide)) (hr.nil 101 (by omega) (by omega) (by omega) (by decide))⟩)
theorem markChunks_core {T : Nat → Nat} {w : World} {K : Nat} {f : Nat → Value} {L : Nat → List Value} (h : Core T w K f L) (hr : Rest f) : Calls Tryz.prog 102 #[.pointer (some ⟨K, 0, none⟩)] w fun e w' => e = .returned (.tuple #[]) ∧ w' = w :=
  BookB.markChunks_nil K w (hr.cell h 105 (by omega) (by omega) (by omega) (by decide)) (hr.cell h 106 (by omega) (by omega) (by omega) (by decide)) (hr.cell h 108 (by omega) (by omega) (by omega) (by decide)) (hr.cell h 109 (by omega) (by omega) (by omega) (by decide))
theorem growChunks_core {T : Nat → Nat} {w : World} {K : Nat} {f : Nat → Value} {L : Nat → List Value} (h : Core T w K f L) (hr : Rest f) : Calls Tryz.prog 121 #[.pointer (some ⟨K, 0, none⟩)] w fun e w' => e = .returned (.tuple #[]) ∧ Core T w' K f L ∧ Past 21 T w T w' :=
  (BookB.growChunks_nil K w (hr.cell h 107 (by omega) (by omega) (by omega) (by decide)) (hr.cell h 110 (by omega) (by omega) (by omega) (by decide)) (h.fld.2 107 (by omega)).2 (h.fld.2 110 (by omega)).2).mono (by rintro e w' ⟨rfl, rfl⟩; exact ⟨rfl, h.nil2 107 110 (by omega) (by omega) (by omega) (by omega) (hr.nil 107 (by omega) (by omega) (by omega) (by decide)) (hr.nil 110 (by omega) (by omega) (by omega) (by decide))⟩)
theorem markGroups_core {T : Nat → Nat} {w : World} {K : Nat} {f : Nat → Value} {L : Nat → List Value} (h : Core T w K f L) (hr : Rest f) : Calls Tryz.prog 103 #[.pointer (some ⟨K, 0, none⟩)] w fun e w' => e = .returned (.tuple #[]) ∧ w' = w :=
  BookB.markGroups_nil K w (hr.cell h 114 (by omega) (by omega) (by omega) (by decide)) (hr.cell h 115 (by omega) (by omega) (by omega) (by decide)) (hr.cell h 117 (by omega) (by omega) (by omega) (by decide)) (hr.cell h 118 (by omega) (by omega) (by omega) (by decide))
theorem growGroups_core {T : Nat → Nat} {w : World} {K : Nat} {f : Nat → Value} {L : Nat → List Value} (h : Core T w K f L) (hr : Rest f) : Calls Tryz.prog 122 #[.pointer (some ⟨K, 0, none⟩)] w fun e w' => e = .returned (.tuple #[]) ∧ Core T w' K f L ∧ Past 21 T w T w' :=
  (BookB.growGroups_nil K w (hr.cell h 116 (by omega) (by omega) (by omega) (by decide)) (hr.cell h 119 (by omega) (by omega) (by omega) (by decide)) (h.fld.2 116 (by omega)).2 (h.fld.2 119 (by omega)).2).mono (by rintro e w' ⟨rfl, rfl⟩; exact ⟨rfl, h.nil2 116 119 (by omega) (by omega) (by omega) (by omega) (hr.nil 116 (by omega) (by omega) (by omega) (by decide)) (hr.nil 119 (by omega) (by omega) (by omega) (by decide))⟩)
theorem markRuns_core {T : Nat → Nat} {w : World} {K : Nat} {f : Nat → Value} {L : Nat → List Value} (h : Core T w K f L) (hr : Rest f) : Calls Tryz.prog 104 #[.pointer (some ⟨K, 0, none⟩)] w fun e w' => e = .returned (.tuple #[]) ∧ w' = w :=
  BookB.markRuns_nil K w (hr.cell h 123 (by omega) (by omega) (by omega) (by decide)) (hr.cell h 124 (by omega) (by omega) (by omega) (by decide)) (hr.cell h 126 (by omega) (by omega) (by omega) (by decide)) (hr.cell h 127 (by omega) (by omega) (by omega) (by decide))
theorem growRuns_core {T : Nat → Nat} {w : World} {K : Nat} {f : Nat → Value} {L : Nat → List Value} (h : Core T w K f L) (hr : Rest f) : Calls Tryz.prog 123 #[.pointer (some ⟨K, 0, none⟩)] w fun e w' => e = .returned (.tuple #[]) ∧ Core T w' K f L ∧ Past 21 T w T w' :=
  (BookB.growRuns_nil K w (hr.cell h 125 (by omega) (by omega) (by omega) (by decide)) (hr.cell h 128 (by omega) (by omega) (by omega) (by decide)) (h.fld.2 125 (by omega)).2 (h.fld.2 128 (by omega)).2).mono (by rintro e w' ⟨rfl, rfl⟩; exact ⟨rfl, h.nil2 125 128 (by omega) (by omega) (by omega) (by omega) (hr.nil 125 (by omega) (by omega) (by omega) (by decide)) (hr.nil 128 (by omega) (by omega) (by omega) (by decide))⟩)
theorem markLevels_core {T : Nat → Nat} {w : World} {K : Nat} {f : Nat → Value} {L : Nat → List Value} (h : Core T w K f L) (hr : Rest f) : Calls Tryz.prog 105 #[.pointer (some ⟨K, 0, none⟩)] w fun e w' => e = .returned (.tuple #[]) ∧ w' = w :=
  BookB.markLevels_nil K w (hr.cell h 132 (by omega) (by omega) (by omega) (by decide)) (hr.cell h 133 (by omega) (by omega) (by omega) (by decide)) (hr.cell h 135 (by omega) (by omega) (by omega) (by decide)) (hr.cell h 136 (by omega) (by omega) (by omega) (by decide))
theorem growLevels_core {T : Nat → Nat} {w : World} {K : Nat} {f : Nat → Value} {L : Nat → List Value} (h : Core T w K f L) (hr : Rest f) : Calls Tryz.prog 124 #[.pointer (some ⟨K, 0, none⟩)] w fun e w' => e = .returned (.tuple #[]) ∧ Core T w' K f L ∧ Past 21 T w T w' :=
  (BookB.growLevels_nil K w (hr.cell h 134 (by omega) (by omega) (by omega) (by decide)) (hr.cell h 137 (by omega) (by omega) (by omega) (by decide)) (h.fld.2 134 (by omega)).2 (h.fld.2 137 (by omega)).2).mono (by rintro e w' ⟨rfl, rfl⟩; exact ⟨rfl, h.nil2 134 137 (by omega) (by omega) (by omega) (by omega) (hr.nil 134 (by omega) (by omega) (by omega) (by decide)) (hr.nil 137 (by omega) (by omega) (by omega) (by decide))⟩)
theorem markFiles_core {T : Nat → Nat} {w : World} {K : Nat} {f : Nat → Value} {L : Nat → List Value} (h : Core T w K f L) (hr : Rest f) : Calls Tryz.prog 106 #[.pointer (some ⟨K, 0, none⟩)] w fun e w' => e = .returned (.tuple #[]) ∧ w' = w :=
  BookB.markFiles_nil K w (hr.cell h 141 (by omega) (by omega) (by omega) (by decide)) (hr.cell h 142 (by omega) (by omega) (by omega) (by decide)) (hr.cell h 144 (by omega) (by omega) (by omega) (by decide)) (hr.cell h 145 (by omega) (by omega) (by omega) (by decide))
theorem growFiles_core {T : Nat → Nat} {w : World} {K : Nat} {f : Nat → Value} {L : Nat → List Value} (h : Core T w K f L) (hr : Rest f) : Calls Tryz.prog 125 #[.pointer (some ⟨K, 0, none⟩)] w fun e w' => e = .returned (.tuple #[]) ∧ Core T w' K f L ∧ Past 21 T w T w' :=
  (BookB.growFiles_nil K w (hr.cell h 143 (by omega) (by omega) (by omega) (by decide)) (hr.cell h 146 (by omega) (by omega) (by omega) (by decide)) (h.fld.2 143 (by omega)).2 (h.fld.2 146 (by omega)).2).mono (by rintro e w' ⟨rfl, rfl⟩; exact ⟨rfl, h.nil2 143 146 (by omega) (by omega) (by omega) (by omega) (hr.nil 143 (by omega) (by omega) (by omega) (by decide)) (hr.nil 146 (by omega) (by omega) (by omega) (by decide))⟩)
theorem markJobs_core {T : Nat → Nat} {w : World} {K : Nat} {f : Nat → Value} {L : Nat → List Value} (h : Core T w K f L) (hr : Rest f) : Calls Tryz.prog 107 #[.pointer (some ⟨K, 0, none⟩)] w fun e w' => e = .returned (.tuple #[]) ∧ w' = w :=
  BookB.markJobs_nil K w (hr.cell h 150 (by omega) (by omega) (by omega) (by decide)) (hr.cell h 151 (by omega) (by omega) (by omega) (by decide)) (hr.cell h 153 (by omega) (by omega) (by omega) (by decide)) (hr.cell h 154 (by omega) (by omega) (by omega) (by decide))
theorem growJobs_core {T : Nat → Nat} {w : World} {K : Nat} {f : Nat → Value} {L : Nat → List Value} (h : Core T w K f L) (hr : Rest f) : Calls Tryz.prog 126 #[.pointer (some ⟨K, 0, none⟩)] w fun e w' => e = .returned (.tuple #[]) ∧ Core T w' K f L ∧ Past 21 T w T w' :=
  (BookB.growJobs_nil K w (hr.cell h 152 (by omega) (by omega) (by omega) (by decide)) (hr.cell h 155 (by omega) (by omega) (by omega) (by decide)) (h.fld.2 152 (by omega)).2 (h.fld.2 155 (by omega)).2).mono (by rintro e w' ⟨rfl, rfl⟩; exact ⟨rfl, h.nil2 152 155 (by omega) (by omega) (by omega) (by omega) (hr.nil 152 (by omega) (by omega) (by omega) (by decide)) (hr.nil 155 (by omega) (by omega) (by omega) (by decide))⟩)
theorem markEdits_core {T : Nat → Nat} {w : World} {K : Nat} {f : Nat → Value} {L : Nat → List Value} (h : Core T w K f L) (hr : Rest f) : Calls Tryz.prog 108 #[.pointer (some ⟨K, 0, none⟩)] w fun e w' => e = .returned (.tuple #[]) ∧ w' = w :=
  BookB.markEdits_nil K w (hr.cell h 159 (by omega) (by omega) (by omega) (by decide)) (hr.cell h 160 (by omega) (by omega) (by omega) (by decide)) (hr.cell h 162 (by omega) (by omega) (by omega) (by decide)) (hr.cell h 163 (by omega) (by omega) (by omega) (by decide))
theorem growEdits_core {T : Nat → Nat} {w : World} {K : Nat} {f : Nat → Value} {L : Nat → List Value} (h : Core T w K f L) (hr : Rest f) : Calls Tryz.prog 127 #[.pointer (some ⟨K, 0, none⟩)] w fun e w' => e = .returned (.tuple #[]) ∧ Core T w' K f L ∧ Past 21 T w T w' :=
  (BookB.growEdits_nil K w (hr.cell h 161 (by omega) (by omega) (by omega) (by decide)) (hr.cell h 164 (by omega) (by omega) (by omega) (by decide)) (h.fld.2 161 (by omega)).2 (h.fld.2 164 (by omega)).2).mono (by rintro e w' ⟨rfl, rfl⟩; exact ⟨rfl, h.nil2 161 164 (by omega) (by omega) (by omega) (by omega) (hr.nil 161 (by omega) (by omega) (by omega) (by decide)) (hr.nil 164 (by omega) (by omega) (by omega) (by decide))⟩)
theorem markSteps_core {T : Nat → Nat} {w : World} {K : Nat} {f : Nat → Value} {L : Nat → List Value} (h : Core T w K f L) (hr : Rest f) : Calls Tryz.prog 109 #[.pointer (some ⟨K, 0, none⟩)] w fun e w' => e = .returned (.tuple #[]) ∧ w' = w :=
  BookB.markSteps_nil K w (hr.cell h 168 (by omega) (by omega) (by omega) (by decide)) (hr.cell h 169 (by omega) (by omega) (by omega) (by decide)) (hr.cell h 171 (by omega) (by omega) (by omega) (by decide)) (hr.cell h 172 (by omega) (by omega) (by omega) (by decide))
theorem growSteps_core {T : Nat → Nat} {w : World} {K : Nat} {f : Nat → Value} {L : Nat → List Value} (h : Core T w K f L) (hr : Rest f) : Calls Tryz.prog 128 #[.pointer (some ⟨K, 0, none⟩)] w fun e w' => e = .returned (.tuple #[]) ∧ Core T w' K f L ∧ Past 21 T w T w' :=
  (BookB.growSteps_nil K w (hr.cell h 170 (by omega) (by omega) (by omega) (by decide)) (hr.cell h 173 (by omega) (by omega) (by omega) (by decide)) (h.fld.2 170 (by omega)).2 (h.fld.2 173 (by omega)).2).mono (by rintro e w' ⟨rfl, rfl⟩; exact ⟨rfl, h.nil2 170 173 (by omega) (by omega) (by omega) (by omega) (hr.nil 170 (by omega) (by omega) (by omega) (by decide)) (hr.nil 173 (by omega) (by omega) (by omega) (by decide))⟩)

set_option maxRecDepth 100000 in
set_option maxHeartbeats 8000000 in
theorem marks_any (T : Nat → Nat) (w : World) (K : Nat) (f : Nat → Value) (L : Nat → List Value) (o x : List (Item × Item)) (M D : List Int) (hC : Core T w K f L) (hO : Outs [] 0 T w o) (hX : Its 1000000 T w x)
    (l40 : L 13 = o.map fun p => vI p.1) (l41 : L 14 = o.map fun p => vI p.2) (h42 : L 15 = x.map fun p => vI p.1) (h43 : L 16 = x.map fun p => vI p.2) (l44 : L 17 = []) (h45 : L 18 = M.map (Value.int .i64)) (h46 : L 19 = D.map (Value.int .i64)) (l47 : L 20 = [])
    (lM : M.length = x.length) (lD : D.length = x.length) (full : ∀ p ∈ x, p.1.2.2.length ≤ p.1.2.1 ∧ p.1.2.2.length ≤ 1000000000000) (hx : x ≠ []) (hl : o.length + x.length ≤ 100000)
    (k0 : f 0 = .bool false) (k1 : f 1 = .bool false) (t : Int) (k2 : f 2 = .int .i64 t) (hr : Rest f) :
    Calls Tryz.prog 63 #[.pointer (some ⟨K, 0, none⟩)] w fun e w' => e = .returned (.tuple #[]) ∧ ∃ T' f' L' o' x' M' D' Fm fr, MarkFin T w K f o x.length w' T' f' L' o' x' M' D' Fm fr := by
  have HC : Hid (Core T w K f L) := hC
  have HO : Hid (Outs [] 0 T w o) := hO
  have HX : Hid (Its 1000000 T w x) := hX
  have HL : Hid (L 13 = (o.map fun p => vI p.1) ∧ L 14 = (o.map fun p => vI p.2) ∧ L 15 = (x.map fun p => vI p.1) ∧ L 16 = (x.map fun p => vI p.2) ∧ L 17 = [] ∧ L 18 = M.map (Value.int .i64) ∧ L 19 = D.map (Value.int .i64) ∧ L 20 = []) := ⟨l40, l41, h42, h43, l44, h45, h46, l47⟩
  have HLL : Hid (M.length = x.length ∧ D.length = x.length) := ⟨lM, lD⟩
  have HFU : Hid (∀ p ∈ x, p.1.2.2.length ≤ p.1.2.1 ∧ p.1.2.2.length ≤ 1000000000000) := full
  have HK : Hid (f 0 = .bool false ∧ f 1 = .bool false ∧ f 2 = .int .i64 t) := ⟨k0, k1, k2⟩
  have HRS : Hid (Rest f) := hr
  clear hC hO hX l40 l41 h42 h43 l44 h45 h46 l47 lM lD full k0 k1 k2 hr
  go_enter Tryz.func63, Tryz.ntmps63
  go_wp2_with (first | (go_at_call 92; refine (markInts_any T w K f L o x M D HC.out HO.out HX.out HL.out.1 HL.out.2.1 HL.out.2.2.1 HL.out.2.2.2.1 HL.out.2.2.2.2.1 HL.out.2.2.2.2.2.1 HL.out.2.2.2.2.2.2.1 HL.out.2.2.2.2.2.2.2 HLL.out.1 HLL.out.2 HFU.out hx hl HK.out.1 HK.out.2.1 t HK.out.2.2).mono ?_; rintro e w1 ⟨rfl, T1, f1, L1, o1, x1, M1, D1, Fm, fr, hfin⟩; have HFIN : Hid (MarkFin T w K f o x.length w1 T1 f1 L1 o1 x1 M1 D1 Fm fr) := hfin; have HC1 : Hid (Core T1 w1 K f1 L1) := hfin.core; have HR1 : Hid (Rest f1) := (fun j j1 j2 j3 => (hfin.same j (by omega)).trans (HRS.out j j1 j2 j3)); clear hfin) | (go_at_call 91; refine (markBytes_core HC.out HRS.out).mono ?_; rintro e w' ⟨rfl, hw⟩; have hw2 := hw.symm; clear hw; subst hw2) | (go_at_call 93; refine (markNums_core HC1.out HR1.out).mono ?_; rintro e w' ⟨rfl, hw⟩; have hw2 := hw.symm; clear hw; subst hw2) | (go_at_call 94; refine (markTexts_core HC1.out HR1.out).mono ?_; rintro e w' ⟨rfl, hw⟩; have hw2 := hw.symm; clear hw; subst hw2) | (go_at_call 95; refine (markEntries_core HC1.out HR1.out).mono ?_; rintro e w' ⟨rfl, hw⟩; have hw2 := hw.symm; clear hw; subst hw2) | (go_at_call 96; refine (markPairs_core HC1.out HR1.out).mono ?_; rintro e w' ⟨rfl, hw⟩; have hw2 := hw.symm; clear hw; subst hw2) | (go_at_call 97; refine (markWrites_core HC1.out HR1.out).mono ?_; rintro e w' ⟨rfl, hw⟩; have hw2 := hw.symm; clear hw; subst hw2) | (go_at_call 98; refine (markTables_core HC1.out HR1.out).mono ?_; rintro e w' ⟨rfl, hw⟩; have hw2 := hw.symm; clear hw; subst hw2) | (go_at_call 99; refine (markPlaces_core HC1.out HR1.out).mono ?_; rintro e w' ⟨rfl, hw⟩; have hw2 := hw.symm; clear hw; subst hw2) | (go_at_call 100; refine (markPlaceds_core HC1.out HR1.out).mono ?_; rintro e w' ⟨rfl, hw⟩; have hw2 := hw.symm; clear hw; subst hw2) | (go_at_call 101; refine (markFaults_core HC1.out HR1.out).mono ?_; rintro e w' ⟨rfl, hw⟩; have hw2 := hw.symm; clear hw; subst hw2) | (go_at_call 102; refine (markChunks_core HC1.out HR1.out).mono ?_; rintro e w' ⟨rfl, hw⟩; have hw2 := hw.symm; clear hw; subst hw2) | (go_at_call 103; refine (markGroups_core HC1.out HR1.out).mono ?_; rintro e w' ⟨rfl, hw⟩; have hw2 := hw.symm; clear hw; subst hw2) | (go_at_call 104; refine (markRuns_core HC1.out HR1.out).mono ?_; rintro e w' ⟨rfl, hw⟩; have hw2 := hw.symm; clear hw; subst hw2) | (go_at_call 105; refine (markLevels_core HC1.out HR1.out).mono ?_; rintro e w' ⟨rfl, hw⟩; have hw2 := hw.symm; clear hw; subst hw2) | (go_at_call 106; refine (markFiles_core HC1.out HR1.out).mono ?_; rintro e w' ⟨rfl, hw⟩; have hw2 := hw.symm; clear hw; subst hw2) | (go_at_call 107; refine (markJobs_core HC1.out HR1.out).mono ?_; rintro e w' ⟨rfl, hw⟩; have hw2 := hw.symm; clear hw; subst hw2) | (go_at_call 108; refine (markEdits_core HC1.out HR1.out).mono ?_; rintro e w' ⟨rfl, hw⟩; have hw2 := hw.symm; clear hw; subst hw2) | (go_at_call 109; refine (markSteps_core HC1.out HR1.out).mono ?_; rintro e w' ⟨rfl, hw⟩; have hw2 := hw.symm; clear hw; subst hw2))
  go_end0
  exact ⟨rfl, T1, f1, L1, o1, x1, M1, D1, Fm, fr, HFIN.out⟩

set_option maxRecDepth 100000 in
set_option maxHeartbeats 8000000 in
theorem grows_any (T : Nat → Nat) (w : World) (K : Nat) (f : Nat → Value) (L : Nat → List Value) (o : List (Item × Item)) (fr : List Item) (Fm : List Int) (hC : Core T w K f L) (hO : Outs fr 0 T w o)
    (h40 : L 13 = o.map fun p => vI p.1) (h41 : L 14 = o.map fun p => vI p.2) (h44 : L 17 = fr.map vI) (h47 : L 20 = Fm.map (Value.int .i64)) (hF : Fm.length = fr.length)
    (hfr : Fr 0 T w fr) (hl : o.length + fr.length ≤ 100000) (hr : Rest f) :
    Calls Tryz.prog 64 #[.pointer (some ⟨K, 0, none⟩)] w fun e w' => e = .returned (.tuple #[]) ∧ GrowDone T w K f L o fr.length w' := by
  have HC : Hid (Core T w K f L) := hC
  have HO : Hid (Outs fr 0 T w o) := hO
  have HL : Hid (L 13 = (o.map fun p => vI p.1) ∧ L 14 = (o.map fun p => vI p.2) ∧ L 17 = fr.map vI ∧ L 20 = Fm.map (Value.int .i64)) := ⟨h40, h41, h44, h47⟩
  have HF : Hid (Fm.length = fr.length) := hF
  have HFR : Hid (Fr 0 T w fr) := hfr
  have HRS : Hid (Rest f) := hr
  have HP : Hid (Past 21 T w T w) := Past.refl _ _ _
  clear hC hO h40 h41 h44 h47 hF hfr hr
  go_enter Tryz.func64, Tryz.ntmps64
  go_wp2_with (first | (go_at_call 111; refine (growInts_any T _ K f L o fr Fm HC.out (HO.out.past HP.out (by omega)) (HFR.out.past HP.out (by omega)) HL.out.1 HL.out.2.1 HL.out.2.2.1 HL.out.2.2.2 HF.out hl).mono ?_; rintro e w1 ⟨rfl, T1, f1, L1, r, g1, g2, g3, g4, g5, g6, g7, g8, g9, g10, g11⟩; have HC1 : Hid (Core T1 w1 K f1 L1) := g1; have HR1 : Hid (Rest f1) := (fun j j1 j2 j3 => ((g10 j (by omega) (by omega) (by omega) (by omega)).1).trans (HRS.out j j1 j2 j3)); have HGD : Hid (Outs [] 0 T1 w1 (o ++ r) ∧ L1 13 = (o ++ r).map (fun p => vI p.1) ∧ L1 14 = (o ++ r).map (fun p => vI p.2) ∧ r.length = fr.length ∧ f1 17 = .slice none 0 0 ∧ f1 20 = .slice none 0 0 ∧ L1 17 = [] ∧ L1 20 = [] ∧ (∀ j, j ≠ 13 → j ≠ 14 → j ≠ 17 → j ≠ 20 → f1 j = f j ∧ L1 j = L j) ∧ Past 1000000 T w T1 w1) := ⟨g2, g3, g4, g5, g6, g7, g8, g9, g10, (HP.out.mono (by omega)).trans g11⟩; have HP1 : Hid (Past 21 T1 w1 T1 w1) := Past.refl _ _ _; clear g1 g2 g3 g4 g5 g6 g7 g8 g9 g10 g11) | (go_at_call 110; refine (growBytes_core HC.out HRS.out).mono ?_; rintro e w' ⟨rfl, hc', hp'⟩; replace HC : Hid (Core T w' K f L) := hc'; replace HP : Hid (Past 21 T w T w') := HP.out.trans hp'; clear hc' hp') | (go_at_call 112; refine (growNums_core HC1.out HR1.out).mono ?_; rintro e w' ⟨rfl, hc', hp'⟩; replace HC1 : Hid (Core T1 w' K f1 L1) := hc'; replace HP1 : Hid (Past 21 T1 w1 T1 w') := HP1.out.trans hp'; clear hc' hp') | (go_at_call 113; refine (growTexts_core HC1.out HR1.out).mono ?_; rintro e w' ⟨rfl, hc', hp'⟩; replace HC1 : Hid (Core T1 w' K f1 L1) := hc'; replace HP1 : Hid (Past 21 T1 w1 T1 w') := HP1.out.trans hp'; clear hc' hp') | (go_at_call 114; refine (growEntries_core HC1.out HR1.out).mono ?_; rintro e w' ⟨rfl, hc', hp'⟩; replace HC1 : Hid (Core T1 w' K f1 L1) := hc'; replace HP1 : Hid (Past 21 T1 w1 T1 w') := HP1.out.trans hp'; clear hc' hp') | (go_at_call 115; refine (growPairs_core HC1.out HR1.out).mono ?_; rintro e w' ⟨rfl, hc', hp'⟩; replace HC1 : Hid (Core T1 w' K f1 L1) := hc'; replace HP1 : Hid (Past 21 T1 w1 T1 w') := HP1.out.trans hp'; clear hc' hp') | (go_at_call 116; refine (growWrites_core HC1.out HR1.out).mono ?_; rintro e w' ⟨rfl, hc', hp'⟩; replace HC1 : Hid (Core T1 w' K f1 L1) := hc'; replace HP1 : Hid (Past 21 T1 w1 T1 w') := HP1.out.trans hp'; clear hc' hp') | (go_at_call 117; refine (growTables_core HC1.out HR1.out).mono ?_; rintro e w' ⟨rfl, hc', hp'⟩; replace HC1 : Hid (Core T1 w' K f1 L1) := hc'; replace HP1 : Hid (Past 21 T1 w1 T1 w') := HP1.out.trans hp'; clear hc' hp') | (go_at_call 118; refine (growPlaces_core HC1.out HR1.out).mono ?_; rintro e w' ⟨rfl, hc', hp'⟩; replace HC1 : Hid (Core T1 w' K f1 L1) := hc'; replace HP1 : Hid (Past 21 T1 w1 T1 w') := HP1.out.trans hp'; clear hc' hp') | (go_at_call 119; refine (growPlaceds_core HC1.out HR1.out).mono ?_; rintro e w' ⟨rfl, hc', hp'⟩; replace HC1 : Hid (Core T1 w' K f1 L1) := hc'; replace HP1 : Hid (Past 21 T1 w1 T1 w') := HP1.out.trans hp'; clear hc' hp') | (go_at_call 120; refine (growFaults_core HC1.out HR1.out).mono ?_; rintro e w' ⟨rfl, hc', hp'⟩; replace HC1 : Hid (Core T1 w' K f1 L1) := hc'; replace HP1 : Hid (Past 21 T1 w1 T1 w') := HP1.out.trans hp'; clear hc' hp') | (go_at_call 121; refine (growChunks_core HC1.out HR1.out).mono ?_; rintro e w' ⟨rfl, hc', hp'⟩; replace HC1 : Hid (Core T1 w' K f1 L1) := hc'; replace HP1 : Hid (Past 21 T1 w1 T1 w') := HP1.out.trans hp'; clear hc' hp') | (go_at_call 122; refine (growGroups_core HC1.out HR1.out).mono ?_; rintro e w' ⟨rfl, hc', hp'⟩; replace HC1 : Hid (Core T1 w' K f1 L1) := hc'; replace HP1 : Hid (Past 21 T1 w1 T1 w') := HP1.out.trans hp'; clear hc' hp') | (go_at_call 123; refine (growRuns_core HC1.out HR1.out).mono ?_; rintro e w' ⟨rfl, hc', hp'⟩; replace HC1 : Hid (Core T1 w' K f1 L1) := hc'; replace HP1 : Hid (Past 21 T1 w1 T1 w') := HP1.out.trans hp'; clear hc' hp') | (go_at_call 124; refine (growLevels_core HC1.out HR1.out).mono ?_; rintro e w' ⟨rfl, hc', hp'⟩; replace HC1 : Hid (Core T1 w' K f1 L1) := hc'; replace HP1 : Hid (Past 21 T1 w1 T1 w') := HP1.out.trans hp'; clear hc' hp') | (go_at_call 125; refine (growFiles_core HC1.out HR1.out).mono ?_; rintro e w' ⟨rfl, hc', hp'⟩; replace HC1 : Hid (Core T1 w' K f1 L1) := hc'; replace HP1 : Hid (Past 21 T1 w1 T1 w') := HP1.out.trans hp'; clear hc' hp') | (go_at_call 126; refine (growJobs_core HC1.out HR1.out).mono ?_; rintro e w' ⟨rfl, hc', hp'⟩; replace HC1 : Hid (Core T1 w' K f1 L1) := hc'; replace HP1 : Hid (Past 21 T1 w1 T1 w') := HP1.out.trans hp'; clear hc' hp') | (go_at_call 127; refine (growEdits_core HC1.out HR1.out).mono ?_; rintro e w' ⟨rfl, hc', hp'⟩; replace HC1 : Hid (Core T1 w' K f1 L1) := hc'; replace HP1 : Hid (Past 21 T1 w1 T1 w') := HP1.out.trans hp'; clear hc' hp') | (go_at_call 128; refine (growSteps_core HC1.out HR1.out).mono ?_; rintro e w' ⟨rfl, hc', hp'⟩; replace HC1 : Hid (Core T1 w' K f1 L1) := hc'; replace HP1 : Hid (Past 21 T1 w1 T1 w') := HP1.out.trans hp'; clear hc' hp'))
  go_end0
  obtain ⟨g2, g3, g4, g5, g6, g7, g8, g9, g10, g11⟩ := HGD.out
  exact ⟨rfl, T1, f1, L1, r, HC1.out, g2.past HP1.out (by omega), g3, g4, g5, g6, g7, g8, g9, g10, g11.trans (HP1.out.mono (by omega))⟩

theorem doneFin {T T2 : Nat → Nat} {w1 w2 w3 : World} {K : Nat} {f1 f2 : Nat → Value} {L2 : Nat → List Value} {o o2 x2 : List (Item × Item)} {n N : Nat} {M2 D2 Fm : List Int} {fr : List Item} (tv : Int)
    (hM : MarkFin T w1 K f1 o n w2 T2 f2 L2 o2 x2 M2 D2 Fm fr) (hG : GrowDone T2 w2 K f2 L2 o2 fr.length w3) (hr : Rest f1) (k0 : f1 0 = .bool false) (k1 : f1 1 = .bool false) (k3 : f1 3 = .int .i64 0) (k48 : ∃ s : Nat, f1 21 = .int .i64 s ∧ s ≤ N) (many : o.length + 2 * n ≤ 2 * N) (few : N ≤ 2000) :
    ∃ T' f' L' o' x' M' D', Inv T' (w3.setCell ⟨K, 2, none⟩ (.int .i64 tv)) K f' L' o' x' M' D' N ∧ Past 9000000 T w1 T' (w3.setCell ⟨K, 2, none⟩ (.int .i64 tv)) := by
  obtain ⟨T3, f3, L3, r, hC, hI, e40, e41, hrl, e44, e47, l44, l47, hs, hP⟩ := hG
  have sm : ∀ j, ¬ (13 ≤ j ∧ j < 21) → j ≠ 2 → upd f3 2 (.int .i64 tv) j = f1 j := fun j h1 h2 => by
    rw [upd_other _ _ h2, (hs j (by omega) (by omega) (by omega) (by omega)).1]; exact hM.same j h1
  have P2 : Past 21 T3 w3 T3 (w3.setCell ⟨K, 2, none⟩ (.int .i64 tv)) := Past.set hC.tag (by omega) _ _
  have hco := hM.co
  have hcx := hM.cx
  refine ⟨T3, upd f3 2 (.int .i64 tv), L3, o2 ++ r, x2, M2, D2, ⟨hC.field 2 (by omega) (by omega) _, ?_, ?_, ?_, ⟨tv, upd_same _ _ _⟩, ?_, ?_, e40, e41, ?_, ?_, l44, ?_, ?_, l47, ?_, ?_, hM.lM, hM.lD, ?_, ?_, hM.full, ?_, few⟩, ?_⟩
  · intro j h1 h2 h3; rw [sm j (by omega) (by omega)]; exact hr j h1 h2 h3
  · rw [sm 0 (by omega) (by omega)]; exact k0
  · rw [sm 1 (by omega) (by omega)]; exact k1
  · rw [sm 3 (by omega) (by omega)]; exact k3
  · rw [sm 21 (by omega) (by omega)]; exact k48
  · rw [(hs 15 (by omega) (by omega) (by omega) (by omega)).2]; exact hM.l42
  · rw [(hs 16 (by omega) (by omega) (by omega) (by omega)).2]; exact hM.l43
  · rw [(hs 18 (by omega) (by omega) (by omega) (by omega)).2]; exact hM.l45
  · rw [(hs 19 (by omega) (by omega) (by omega) (by omega)).2]; exact hM.l46
  · rw [upd_other _ _ (by omega)]; exact e44
  · rw [upd_other _ _ (by omega)]; exact e47
  · exact hI.past P2 (by omega)
  · exact (hM.waits.past hP (by omega)).past P2 (by omega)
  · simp; omega
  · exact (hM.past.trans (hP.mono (by omega))).trans (P2.mono (by omega))

set_option maxRecDepth 100000 in
set_option maxHeartbeats 8000000 in
theorem done_any (T : Nat → Nat) (w : World) (K : Nat) (f : Nat → Value) (L : Nat → List Value) (o x : List (Item × Item)) (M D : List Int) (N : Nat) (hC : Core T w K f L) (hO : Outs [] 0 T w o) (hX : Its 1000000 T w x)
    (l40 : L 13 = o.map fun p => vI p.1) (l41 : L 14 = o.map fun p => vI p.2) (h42 : L 15 = x.map fun p => vI p.1) (h43 : L 16 = x.map fun p => vI p.2) (l44 : L 17 = []) (h45 : L 18 = M.map (Value.int .i64)) (h46 : L 19 = D.map (Value.int .i64)) (l47 : L 20 = [])
    (lM : M.length = x.length) (lD : D.length = x.length) (full : ∀ p ∈ x, p.1.2.2.length ≤ p.1.2.1 ∧ p.1.2.2.length ≤ 1000000000000) (hx : x ≠ []) (many : o.length + 2 * x.length ≤ 2 * N) (few : N ≤ 2000)
    (k0 : f 0 = .bool false) (k1 : f 1 = .bool false) (t : Int) (k2 : f 2 = .int .i64 t) (k3 : f 3 = .int .i64 1) (k48 : ∃ s : Nat, f 21 = .int .i64 s ∧ s ≤ N) (hr : Rest f) :
    Calls Tryz.prog 33 #[.pointer (some ⟨K, 0, none⟩)] w fun e w' => e = .returned (.tuple #[]) ∧ ∃ T' f' L' o' x' M' D', Inv T' w' K f' L' o' x' M' D' N ∧ Past 9000000 T w T' w' := by
  have c3 : w.cell? ⟨K, 3, none⟩ = some (.int .i64 1) := by rw [(hC.fld.2 3 (by omega)).1, k3]
  have z3 := (hC.fld.2 3 (by omega)).2
  have P0 : Past 21 T w T (w.setCell ⟨K, 3, none⟩ (.int .i64 0)) := Past.set hC.tag (by omega) _ _
  have hC1 := hC.field 3 (by omega) (by omega) (.int .i64 0)
  have HC : Hid (Core T (w.setCell ⟨K, 3, none⟩ (.int .i64 0)) K (upd f 3 (.int .i64 0)) L) := hC1
  have HO : Hid (Outs [] 0 T (w.setCell ⟨K, 3, none⟩ (.int .i64 0)) o) := hO.past P0 (by omega)
  have HX : Hid (Its 1000000 T (w.setCell ⟨K, 3, none⟩ (.int .i64 0)) x) := hX.past P0 (by omega)
  have HP0 : Hid (Past 21 T w T (w.setCell ⟨K, 3, none⟩ (.int .i64 0))) := P0
  have HL : Hid (L 13 = (o.map fun p => vI p.1) ∧ L 14 = (o.map fun p => vI p.2) ∧ L 15 = (x.map fun p => vI p.1) ∧ L 16 = (x.map fun p => vI p.2) ∧ L 17 = [] ∧ L 18 = M.map (Value.int .i64) ∧ L 19 = D.map (Value.int .i64) ∧ L 20 = []) := ⟨l40, l41, h42, h43, l44, h45, h46, l47⟩
  have HLL : Hid (M.length = x.length ∧ D.length = x.length) := ⟨lM, lD⟩
  have HFU : Hid (∀ p ∈ x, p.1.2.2.length ≤ p.1.2.1 ∧ p.1.2.2.length ≤ 1000000000000) := full
  have HK : Hid (upd f 3 (.int .i64 0) 0 = .bool false ∧ upd f 3 (.int .i64 0) 1 = .bool false ∧ upd f 3 (.int .i64 0) 2 = .int .i64 t ∧ upd f 3 (.int .i64 0) 3 = .int .i64 0 ∧ ∃ s : Nat, upd f 3 (.int .i64 0) 21 = .int .i64 s ∧ s ≤ N) := ⟨by rw [upd_other _ _ (by omega)]; exact k0, by rw [upd_other _ _ (by omega)]; exact k1, by rw [upd_other _ _ (by omega)]; exact k2, upd_same _ _ _, by rw [upd_other _ _ (by omega)]; exact k48⟩
  have HRS : Hid (Rest (upd f 3 (.int .i64 0))) := fun j j1 j2 j3 => by rw [upd_other _ _ (by omega)]; exact hr j j1 j2 j3
  clear hC hO hX l40 l41 h42 h43 l44 h45 h46 l47 lM lD full k0 k1 k2 k3 k48 hr P0 hC1
  go_enter Tryz.func33, Tryz.ntmps33
  go_wp2_with (first
    | (go_at_call 63; refine (marks_any T _ K _ L o x M D HC.out HO.out HX.out HL.out.1 HL.out.2.1 HL.out.2.2.1 HL.out.2.2.2.1 HL.out.2.2.2.2.1 HL.out.2.2.2.2.2.1 HL.out.2.2.2.2.2.2.1 HL.out.2.2.2.2.2.2.2 HLL.out.1 HLL.out.2 HFU.out hx (by omega) HK.out.1 HK.out.2.1 t HK.out.2.2.1 HRS.out).mono ?_; rintro e w1 ⟨rfl, T1, f1, L1, o1, x1, M1, D1, Fm, fr, hfin⟩; have HFIN : Hid (MarkFin T (w.setCell ⟨K, 3, none⟩ (.int .i64 0)) K (upd f 3 (.int .i64 0)) o x.length w1 T1 f1 L1 o1 x1 M1 D1 Fm fr) := hfin; have HR1 : Hid (Rest f1) := (fun j j1 j2 j3 => (hfin.same j (by omega)).trans (HRS.out j j1 j2 j3)); have hco := hfin.co; have hcx := hfin.cx; clear hfin)
    | (go_at_call 64; refine (grows_any T1 _ K f1 L1 o1 fr Fm HFIN.out.core HFIN.out.outs HFIN.out.l40 HFIN.out.l41 HFIN.out.l44 HFIN.out.l47 HFIN.out.lF HFIN.out.fresh (by omega) HR1.out).mono ?_; rintro e w2 ⟨rfl, hgd⟩; have HGD : Hid (GrowDone T1 w1 K f1 L1 o1 fr.length w2) := hgd; have hcz : w2.cell? ⟨K, 2, none⟩ = some (.int .i64 t) ∧ w2.frozen? ⟨K, 2, none⟩ = false := (by obtain ⟨T3, f3, L3, r, hC3, _, _, _, _, _, _, _, _, hs, _⟩ := hgd; refine ⟨?_, (hC3.fld.2 2 (by omega)).2⟩; rw [(hC3.fld.2 2 (by omega)).1, (hs 2 (by omega) (by omega) (by omega) (by omega)).1, HFIN.out.same 2 (by omega), HK.out.2.2.1]); obtain ⟨c2, z2⟩ := hcz; clear hgd))
  go_end0
  obtain ⟨T', f', L', o', x', M', D', hI, hP⟩ := doneFin _ HFIN.out HGD.out HRS.out HK.out.1 HK.out.2.1 HK.out.2.2.2.1 HK.out.2.2.2.2 many few
  exact ⟨rfl, T', f', L', o', x', M', D', hI, (HP0.out.mono (by omega)).trans hP⟩

end BookI
end Go.Proofs.YtebfokjgeknciabGreatDoor
