import Derived.Test.YtkknpcpioodhaaaProg
import Derived.Test.YtkknpcpioodhaaaRoomB
import Derived.WalkKit
import Derived.WalkSpells
import Derived.WalkLawsBesides
import Derived.Deep.QuietTactic
import Derived.BigQuiet
namespace Go.Proofs.Ytkknpcpioodhaaa
namespace Room
open Go.RowKit KMath Cmp Ent Chk
set_option linter.unusedVariables false

theorem word_int (x : Int) (i : Nat) (w : World) (hx : x = i) (hi : i ≤ 1000000) :
    Calls Try.prog 46 #[.int .i64 x] w fun e w' => e = .returned (.string (wordB i)) ∧ w' = w := by
  subst hx
  exact word_any i w hi

set_option maxHeartbeats 2000000 in
theorem holdWrites_any (R g : Nat) (ws : List Wr) (room : Nat) (w : World) (h : RoomIs w R g ws room) (hlen : ws.length ≤ 100000) (hroom : room ≤ 1000) :
    Calls Try.prog 33 #[.pointer (some ⟨R, 0, none⟩)] w fun e w' => e = .returned (.bool true) ∧ Below w.heap.size w w' := by
  have HR : Hid (RoomIs w R g ws room) := h
  clear h
  go_enter Try.func33, Try.ntmps33
  go_wp2
  go_loopw [3] (fun i wr => ∃ k : Nat, k ≤ 1 ∧ i = .int .i64 k ∧ Below w.heap.size w wr) (fun i _ => 1 - (intOf i).toNat)
  case atStart => exact ⟨0, by omega, rfl, Below.refl _ _⟩
  case round =>
    rename World => wo
    obtain ⟨k, hk, rfl, hbe⟩ := hrel
    have HB : Hid (Below w.heap.size w wo) := hbe
    have hsz := hbe.size
    obtain ⟨g2, c2, g3, c3, c, l1, l2, l3, e1, e2, e3, e4, hr⟩ := HR.out.below hbe
    have HRow : Hid (WrRow wo g 0 (ws ++ marks room)) := hr
    have lg := hr.1
    clear hr hbe
    rcases (show k = 0 ∨ k = 1 by omega) with rfl | rfl
    · go_wp2
      go_loopw [5] (fun i w2 => ∃ m : Nat, m ≤ room ∧ i = .int .i64 ((ws.length + m : Nat) : Int) ∧ Below wo.heap.size wo w2) (fun i _ => ws.length + room - (intOf i).toNat)
      case atStart => exact ⟨0, by omega, rfl, Below.refl _ _⟩
      case round =>
        obtain ⟨m, hm, rfl, hbe2⟩ := hrel
        obtain ⟨hc2, hf2⟩ := bcell hbe2
        have hsz2 := hbe2.size
        have q1 := (hc2 R 12 l1).trans e1
        have q2 := (hc2 R 13 l1).trans e2
        have q3 := (hc2 g2 0 l2).trans e3
        have q4 := (hc2 g3 0 l3).trans e4
        have HB2 : Hid (Below wo.heap.size wo wr) := hbe2
        by_cases hlt : m < room
        · have hx : (ws ++ marks room)[ws.length + m]? = some (wordB m, false, ⟨#[]⟩) := by
            rw [List.getElem?_append_right (by omega)]
            simpa using marks_get hlt
          obtain ⟨c0, c1, c2'⟩ := HRow.out.2 _ _ hx
          have r0 := (hc2 g _ lg).trans c0
          have r1 := (hc2 g _ lg).trans c1
          have r2 := (hc2 g _ lg).trans c2'
          simp only [Nat.zero_add] at r0 r1 r2
          clear hc2 hf2 hbe2 hx e1 e2 e3 e4 c0 c1 c2'
          have hwm : m ≤ 1000000 := by omega
          go_wp2
          go_quiet ((go_at_call 46; exact Calls.quiet_of_same (word_int _ m _ (by omega) hwm)))
          go_wp2
          go_roundw
          case rel => exact ⟨m + 1, by omega, by go_num, below_drewN (HB2.out.alloc hsz2 _) nq⟩
          case measure => simp [intOf]; omega
        · clear hc2 hf2 hbe2 e1 e2 e3 e4
          go_wp2
          go_roundw
          case rel => exact ⟨1, by omega, by go_num, HB.out.trans (HB2.out.mono hsz)⟩
          case measure => simp [intOf]
    · go_wp2
      go_ret
      exact ⟨rfl, HB.out⟩

set_option maxHeartbeats 2000000 in
theorem hold_any (R g : Nat) (ws : List Wr) (room : Nat) (w : World) (h : RoomIs w R g ws room) (hlen : ws.length ≤ 100000) (hroom : room ≤ 1000)
    (hn : ∀ j, j < 28 → j ≠ 12 ∧ j ≠ 13 → w.cell? ⟨R, j, none⟩ = some (.slice none 0 0)) :
    Calls Try.prog 15 #[.pointer (some ⟨R, 0, none⟩)] w fun e w' => e = .returned (.bool true) ∧ Below w.heap.size w w' := by
  have HR : Hid (RoomIs w R g ws room) := h
  have hR : R < w.heap.size := by
    obtain ⟨_, _, _, _, _, h, _⟩ := h
    exact h
  clear h
  have n0 := hn 0 (by omega) (by omega)
  have n2 := hn 2 (by omega) (by omega)
  have n4 := hn 4 (by omega) (by omega)
  have n6 := hn 6 (by omega) (by omega)
  have n8 := hn 8 (by omega) (by omega)
  have n10 := hn 10 (by omega) (by omega)
  have n14 := hn 14 (by omega) (by omega)
  have n16 := hn 16 (by omega) (by omega)
  have n18 := hn 18 (by omega) (by omega)
  have n20 := hn 20 (by omega) (by omega)
  have n22 := hn 22 (by omega) (by omega)
  have n24 := hn 24 (by omega) (by omega)
  have n26 := hn 26 (by omega) (by omega)
  clear hn
  go_enter Try.func15, Try.ntmps15
  go_wp2_with (first | (go_at_call 27; refine (holdBytes_nil R _ n0).mono ?_; rintro e w' ⟨rfl, hw⟩; have hw2 := hw.symm; clear hw; subst hw2) | (go_at_call 28; refine (holdInts_nil R _ n2).mono ?_; rintro e w' ⟨rfl, hw⟩; have hw2 := hw.symm; clear hw; subst hw2) | (go_at_call 29; refine (holdNums_nil R _ n4).mono ?_; rintro e w' ⟨rfl, hw⟩; have hw2 := hw.symm; clear hw; subst hw2) | (go_at_call 30; refine (holdTexts_nil R _ n6).mono ?_; rintro e w' ⟨rfl, hw⟩; have hw2 := hw.symm; clear hw; subst hw2) | (go_at_call 31; refine (holdEntries_nil R _ n8).mono ?_; rintro e w' ⟨rfl, hw⟩; have hw2 := hw.symm; clear hw; subst hw2) | (go_at_call 32; refine (holdPairs_nil R _ n10).mono ?_; rintro e w' ⟨rfl, hw⟩; have hw2 := hw.symm; clear hw; subst hw2))
  refine (holdWrites_any R g ws room _ HR.out hlen hroom).mono ?_
  rintro e w1 ⟨rfl, hb1⟩
  have p14 : w1.cell? ⟨R, 14, none⟩ = some (.slice none 0 0) := (hb1.cell (p := ⟨R, 14, none⟩) hR).trans n14
  have p16 : w1.cell? ⟨R, 16, none⟩ = some (.slice none 0 0) := (hb1.cell (p := ⟨R, 16, none⟩) hR).trans n16
  have p18 : w1.cell? ⟨R, 18, none⟩ = some (.slice none 0 0) := (hb1.cell (p := ⟨R, 18, none⟩) hR).trans n18
  have p20 : w1.cell? ⟨R, 20, none⟩ = some (.slice none 0 0) := (hb1.cell (p := ⟨R, 20, none⟩) hR).trans n20
  have p22 : w1.cell? ⟨R, 22, none⟩ = some (.slice none 0 0) := (hb1.cell (p := ⟨R, 22, none⟩) hR).trans n22
  have p24 : w1.cell? ⟨R, 24, none⟩ = some (.slice none 0 0) := (hb1.cell (p := ⟨R, 24, none⟩) hR).trans n24
  have p26 : w1.cell? ⟨R, 26, none⟩ = some (.slice none 0 0) := (hb1.cell (p := ⟨R, 26, none⟩) hR).trans n26
  clear n0 n2 n4 n6 n8 n10 n14 n16 n18 n20 n22 n24 n26
  go_wp2_with (first | (go_at_call 34; refine (holdTables_nil R _ p14).mono ?_; rintro e w' ⟨rfl, hw⟩; have hw2 := hw.symm; clear hw; subst hw2) | (go_at_call 35; refine (holdPlaces_nil R _ p16).mono ?_; rintro e w' ⟨rfl, hw⟩; have hw2 := hw.symm; clear hw; subst hw2) | (go_at_call 36; refine (holdPlaceds_nil R _ p18).mono ?_; rintro e w' ⟨rfl, hw⟩; have hw2 := hw.symm; clear hw; subst hw2) | (go_at_call 37; refine (holdChunks_nil R _ p20).mono ?_; rintro e w' ⟨rfl, hw⟩; have hw2 := hw.symm; clear hw; subst hw2) | (go_at_call 38; refine (holdGroups_nil R _ p22).mono ?_; rintro e w' ⟨rfl, hw⟩; have hw2 := hw.symm; clear hw; subst hw2) | (go_at_call 39; refine (holdFiles_nil R _ p24).mono ?_; rintro e w' ⟨rfl, hw⟩; have hw2 := hw.symm; clear hw; subst hw2) | (go_at_call 40; refine (holdSteps_nil R _ p26).mono ?_; rintro e w' ⟨rfl, hw⟩; have hw2 := hw.symm; clear hw; subst hw2))
  go_ret
  exact ⟨rfl, hb1⟩

end Room
end Go.Proofs.Ytkknpcpioodhaaa
