import Derived.Test.YtkknpcpioodhaaaProg
import Derived.Test.YtkknpcpioodhaaaRoomC
import Derived.WalkKit
import Derived.WalkSpells
import Derived.WalkLawsBesides
namespace Go.Proofs.Ytkknpcpioodhaaa
namespace Room
open Go.RowKit KMath Cmp Ent Chk
set_option linter.unusedVariables false

theorem WrRow_grown {w w' : World} {R b off : Nat} {ws : List Wr} (h : WrRow w b off ws) (hg : w.grownBy w' (some R)) (hne : b ≠ R) : WrRow w' b off ws := by
  refine ⟨Nat.lt_of_lt_of_le h.1 hg.size, fun i x hx => ?_⟩
  obtain ⟨h0, h1, h2⟩ := h.2 i x hx
  have key : ∀ o, w'.cell? ⟨b, o, none⟩ = w.cell? ⟨b, o, none⟩ := fun o => hg.cell_far ⟨b, o, none⟩ h.1 (by simpa using hne)
  exact ⟨(key _).trans h0, (key _).trans h1, (key _).trans h2⟩

theorem IsWr_of_room {w : World} {R g : Nat} {ws : List Wr} {room : Nat} (h : RoomIs w R g ws room) (hl : ws.length ≤ maxLen) (hs : ∀ x ∈ ws, x.1.size ≤ maxLen ∧ x.2.2.size ≤ maxLen) : IsWr w (some ⟨g, 0, none⟩) ws := by
  obtain ⟨g2, c2, g3, c3, c, l1, l2, l3, e1, e2, e3, e4, hr⟩ := h
  refine ⟨fun _ => ⟨g, 0, rfl, hr.1, fun i x hx => hr.2 i x ?_⟩, hl, hs⟩
  rw [List.getElem?_append_left (List.getElem?_eq_some_iff.1 hx).1]
  exact hx

theorem room_lt {w : World} {R g : Nat} {ws : List Wr} {room : Nat} (h : RoomIs w R g ws room) : R < w.heap.size := by
  obtain ⟨_, _, _, _, _, h, _⟩ := h
  exact h

/-- What stands behind a first list that a new room has lent. -/
def Fresh (w w' : World) (g : Nat) (a : Option Addr) (ws : List Wr) : Prop :=
  RoomIs w' w.heap.size g ws 40 ∧ (∀ j, j < 28 → j ≠ 12 ∧ j ≠ 13 → w'.cell? ⟨w.heap.size, j, none⟩ = some (.slice none 0 0)) ∧ Below w.heap.size w w' ∧ IsWr w' (some ⟨g, 0, none⟩) ws ∧ IsWr w' a ws

theorem nil_cell (w : World) (j : Nat) (hj : j < 28) : (w.alloc (.cells #[.slice none 0 0, .slice none 0 0, .slice none 0 0, .slice none 0 0, .slice none 0 0, .slice none 0 0, .slice none 0 0, .slice none 0 0, .slice none 0 0, .slice none 0 0, .slice none 0 0, .slice none 0 0, .slice none 0 0, .slice none 0 0, .slice none 0 0, .slice none 0 0, .slice none 0 0, .slice none 0 0, .slice none 0 0, .slice none 0 0, .slice none 0 0, .slice none 0 0, .slice none 0 0, .slice none 0 0, .slice none 0 0, .slice none 0 0, .slice none 0 0, .slice none 0 0] 45)).cell? ⟨w.heap.size, j, none⟩ = some (.slice none 0 0) := by
  rw [World.cell?_alloc_at _ _ _ _ rfl]
  rcases (show j = 0 ∨ j = 1 ∨ j = 2 ∨ j = 3 ∨ j = 4 ∨ j = 5 ∨ j = 6 ∨ j = 7 ∨ j = 8 ∨ j = 9 ∨ j = 10 ∨ j = 11 ∨ j = 12 ∨ j = 13 ∨ j = 14 ∨ j = 15 ∨ j = 16 ∨ j = 17 ∨ j = 18 ∨ j = 19 ∨ j = 20 ∨ j = 21 ∨ j = 22 ∨ j = 23 ∨ j = 24 ∨ j = 25 ∨ j = 26 ∨ j = 27 by omega) with rfl | rfl | rfl | rfl | rfl | rfl | rfl | rfl | rfl | rfl | rfl | rfl | rfl | rfl | rfl | rfl | rfl | rfl | rfl | rfl | rfl | rfl | rfl | rfl | rfl | rfl | rfl | rfl
  all_goals rfl

set_option maxHeartbeats 1000000 in
theorem writes_fresh (a : Option Addr) (cap : Nat) (ws : List Wr) (w : World) (h : IsWr w a ws) (hn : a = none → cap = 0) (hl : ws.length ≤ 4096) :
    Calls Try.prog 11 #[.pointer (some ⟨w.heap.size, 0, none⟩), .slice a ws.length cap] (w.alloc (.cells #[.slice none 0 0, .slice none 0 0, .slice none 0 0, .slice none 0 0, .slice none 0 0, .slice none 0 0, .slice none 0 0, .slice none 0 0, .slice none 0 0, .slice none 0 0, .slice none 0 0, .slice none 0 0, .slice none 0 0, .slice none 0 0, .slice none 0 0, .slice none 0 0, .slice none 0 0, .slice none 0 0, .slice none 0 0, .slice none 0 0, .slice none 0 0, .slice none 0 0, .slice none 0 0, .slice none 0 0, .slice none 0 0, .slice none 0 0, .slice none 0 0, .slice none 0 0] 45)) fun e w' =>
      ∃ g, e = .returned (.slice (some ⟨g, 0, none⟩) ws.length (ws.length + 40)) ∧ Fresh w w' g a ws := by
  have HC : Hid (∀ j, j < 28 → (w.alloc (.cells #[.slice none 0 0, .slice none 0 0, .slice none 0 0, .slice none 0 0, .slice none 0 0, .slice none 0 0, .slice none 0 0, .slice none 0 0, .slice none 0 0, .slice none 0 0, .slice none 0 0, .slice none 0 0, .slice none 0 0, .slice none 0 0, .slice none 0 0, .slice none 0 0, .slice none 0 0, .slice none 0 0, .slice none 0 0, .slice none 0 0, .slice none 0 0, .slice none 0 0, .slice none 0 0, .slice none 0 0, .slice none 0 0, .slice none 0 0, .slice none 0 0, .slice none 0 0] 45)).cell? ⟨w.heap.size, j, none⟩ = some (.slice none 0 0)) := fun j hj => nil_cell w j hj
  have HF : Hid (∀ j, (w.alloc (.cells #[.slice none 0 0, .slice none 0 0, .slice none 0 0, .slice none 0 0, .slice none 0 0, .slice none 0 0, .slice none 0 0, .slice none 0 0, .slice none 0 0, .slice none 0 0, .slice none 0 0, .slice none 0 0, .slice none 0 0, .slice none 0 0, .slice none 0 0, .slice none 0 0, .slice none 0 0, .slice none 0 0, .slice none 0 0, .slice none 0 0, .slice none 0 0, .slice none 0 0, .slice none 0 0, .slice none 0 0, .slice none 0 0, .slice none 0 0, .slice none 0 0, .slice none 0 0] 45)).frozen? ⟨w.heap.size, j, none⟩ = false) := fun j => World.frozen?_alloc_at _ _ _ _ rfl
  have HB : Hid (Below w.heap.size w (w.alloc (.cells #[.slice none 0 0, .slice none 0 0, .slice none 0 0, .slice none 0 0, .slice none 0 0, .slice none 0 0, .slice none 0 0, .slice none 0 0, .slice none 0 0, .slice none 0 0, .slice none 0 0, .slice none 0 0, .slice none 0 0, .slice none 0 0, .slice none 0 0, .slice none 0 0, .slice none 0 0, .slice none 0 0, .slice none 0 0, .slice none 0 0, .slice none 0 0, .slice none 0 0, .slice none 0 0, .slice none 0 0, .slice none 0 0, .slice none 0 0, .slice none 0 0, .slice none 0 0] 45))) := (Below.refl _ _).alloc (Nat.le_refl _) _
  have HZ : Hid ((w.alloc (.cells #[.slice none 0 0, .slice none 0 0, .slice none 0 0, .slice none 0 0, .slice none 0 0, .slice none 0 0, .slice none 0 0, .slice none 0 0, .slice none 0 0, .slice none 0 0, .slice none 0 0, .slice none 0 0, .slice none 0 0, .slice none 0 0, .slice none 0 0, .slice none 0 0, .slice none 0 0, .slice none 0 0, .slice none 0 0, .slice none 0 0, .slice none 0 0, .slice none 0 0, .slice none 0 0, .slice none 0 0, .slice none 0 0, .slice none 0 0, .slice none 0 0, .slice none 0 0] 45)).heap.size = w.heap.size + 1) := by show _ = _; simp
  generalize (w.alloc (.cells #[.slice none 0 0, .slice none 0 0, .slice none 0 0, .slice none 0 0, .slice none 0 0, .slice none 0 0, .slice none 0 0, .slice none 0 0, .slice none 0 0, .slice none 0 0, .slice none 0 0, .slice none 0 0, .slice none 0 0, .slice none 0 0, .slice none 0 0, .slice none 0 0, .slice none 0 0, .slice none 0 0, .slice none 0 0, .slice none 0 0, .slice none 0 0, .slice none 0 0, .slice none 0 0, .slice none 0 0, .slice none 0 0, .slice none 0 0, .slice none 0 0, .slice none 0 0] 45)) = W at *
  have HW : Hid (IsWr w a ws) := h
  have HN : Hid (a = none → cap = 0) := hn
  clear h hn
  go_enter Try.func11, Try.ntmps11
  go_wp2_with fail
  refine (layWrites_any w.heap.size a cap ws 40 _ (by rw [HZ.out]; omega) (by omega) (by omega) HN.out (HW.out.below HB.out) (by omega) (HC.out 12 (by omega)) (HC.out 13 (by omega)) (HF.out 12) (HF.out 13)).mono ?_
  rintro e w' ⟨g, rfl, hroom, hgr, hcs⟩
  go_wp2
  go_ret
  refine ⟨g, rfl, hroom, fun j hj hne => (hcs j hne.1 hne.2).trans (HC.out j hj), ?_, IsWr_of_room hroom HW.out.2.1 HW.out.2.2, ⟨fun hne => ?_, HW.out.2⟩⟩
  · refine HB.out.trans ⟨hgr.os, hgr.tape, hgr.output, hgr.size, fun i hi => hgr.block i (by rw [HZ.out]; omega) (by simp; omega)⟩
  · obtain ⟨b, off, e, hr⟩ := HW.out.1 hne
    exact ⟨b, off, e, WrRow_grown (hr.below HB.out hr.1) hgr (by have := hr.1; omega)⟩

end Room
end Go.Proofs.Ytkknpcpioodhaaa
