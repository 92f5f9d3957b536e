import Derived.Test.YtdbiliigbinmfaaDoorProg
import Derived.Test.YtdbiliigbinmfaaDoorRomL
import Derived.WalkKit
import Derived.WalkSpells
import Derived.WalkLawsBesides
import Derived.Deep.QuietTactic
import Derived.BigQuiet
namespace Go.Proofs.YtdbiliigbinmfaaDoor
namespace Rom
open Go.RowKit CMath Byt Cod Laws
set_option linter.unusedVariables false
set_option maxRecDepth 20000

theorem heads_get {w : World} {B : Nat} {v : Value} {hs : List Lent} (h : w.ownsRow B 23 1 v hs.length (heads hs)) (k : Nat) (x : Lent) (hx : hs[k]? = some x) : ∃ g c, v = .slice (some ⟨g, 0, none⟩) hs.length c ∧ w.cell? ⟨g, k, none⟩ = some (.slice (some ⟨x.1, 0, none⟩) (x.2.1 + 600) x.2.2) := by
  have hk := (List.getElem?_eq_some_iff.1 hx).1
  obtain ⟨g, c, rfl, _⟩ := own_new h (by omega)
  refine ⟨g, c, rfl, ?_⟩
  rw [h.cellAt k (by omega)]
  simp [heads, hx]
theorem lens_get {w : World} {B : Nat} {v : Value} {hs : List Lent} (h : w.ownsRow B 3 1 v hs.length (lens hs)) (k : Nat) (x : Lent) (hx : hs[k]? = some x) : ∃ g c, v = .slice (some ⟨g, 0, none⟩) hs.length c ∧ w.cell? ⟨g, k, none⟩ = some (.int .i64 (x.2.1 : Int)) := by
  have hk := (List.getElem?_eq_some_iff.1 hx).1
  obtain ⟨g, c, rfl, _⟩ := own_new h (by omega)
  refine ⟨g, c, rfl, ?_⟩
  rw [h.cellAt k (by omega)]
  simp [lens, hx]

set_option maxHeartbeats 2000000 in
theorem holdBytes_any (R B : Nat) (v0 v1 : Value) (hs : List Lent) (w : World) (h : Rm w R B v0 v1 hs) (hsl : hs.length ≤ 1000) :
    Calls Tryd.prog 24 #[.pointer (some ⟨R, 0, none⟩)] w fun e w' => e = .returned (.bool true) ∧ w' = w := by
  have HR : Hid (Rm w R B v0 v1 hs) := h
  obtain ⟨a0, k0, hv0⟩ := shape1 h.o0
  obtain ⟨a1, k1, hv1⟩ := shape1 h.o1
  subst hv0
  subst hv1
  have b0 := h.c0
  have b1 := h.c1
  clear h
  go_enter Tryd.func24, Tryd.ntmps24
  go_wp2
  go_loopw [3] (fun i wr => ∃ k : Nat, k ≤ hs.length ∧ i = .int .i64 k ∧ wr = w) (fun i _ => hs.length - (intOf i).toNat)
  case atStart => exact ⟨0, by omega, rfl, rfl⟩
  case round =>
    rename World => wo
    obtain ⟨k, hk, rfl, rfl⟩ := hrel
    by_cases hlt : k < hs.length
    · obtain ⟨⟨g, n, c⟩, hx⟩ : ∃ x, hs[k]? = some x := ⟨_, List.getElem?_eq_getElem hlt⟩
      obtain ⟨g0, c0, e0, p0⟩ := heads_get HR.out.o0 k _ hx
      obtain ⟨g1, c1, e1, p1⟩ := lens_get HR.out.o1 k _ hx
      cases e0
      cases e1
      obtain ⟨_, _, _, _, hrow, _, h7, h8⟩ := HR.out.lent _ (List.mem_of_getElem? hx)
      have HRow : Hid (BRow wo g n (marks 600)) := hrow
      simp only [] at p0 p1 h7 h8
      unfold maxLen at h8
      clear hrow hx
      go_wp2
      go_loopw [5] (fun i w2 => ∃ m : Nat, m ≤ 600 ∧ i = .int .i64 ((n + m : Nat) : Int) ∧ w2 = wo) (fun i _ => n + 600 - (intOf i).toNat)
      case atStart => exact ⟨0, by omega, rfl, rfl⟩
      case round =>
        obtain ⟨m, hm, rfl, rfl⟩ := hrel
        by_cases hlt2 : m < 600
        · have r0 := HRow.out.2 m _ (marks_get hlt2)
          have hmk : (((mark m : Nat) : Int) != lotN m % 256) = false := by rw [lot_byte]; simp
          go_wp2_with (go_at_call 54; refine (lot_any _ m _ (by omega) (by omega)).mono ?_; rintro e w' ⟨rfl, hw⟩; have hw2 := hw.symm; clear hw; subst hw2)
          exact ⟨⟨m + 1, by omega, by go_num, trivial⟩, by simp [intOf]; omega⟩
        · go_wp2
          go_roundw
          case rel => exact ⟨k + 1, by omega, by go_num, trivial⟩
          case measure => simp [intOf]; omega
    · go_wp2
      go_ret
      exact ⟨rfl, rfl⟩

set_option maxHeartbeats 2000000 in
theorem hold_any (R B : Nat) (v0 v1 : Value) (hs : List Lent) (w : World) (h : Rm w R B v0 v1 hs) (hsl : hs.length ≤ 1000) :
    Calls Tryd.prog 14 #[.pointer (some ⟨R, 0, none⟩)] w fun e w' => e = .returned (.bool true) ∧ w' = w := by
  have HR : Hid (Rm w R B v0 v1 hs) := h
  have n2 := h.nils 2 (by omega) (by omega)
  have n4 := h.nils 4 (by omega) (by omega)
  have n6 := h.nils 6 (by omega) (by omega)
  have n8 := h.nils 8 (by omega) (by omega)
  have n10 := h.nils 10 (by omega) (by omega)
  have n12 := h.nils 12 (by omega) (by omega)
  have n14 := h.nils 14 (by omega) (by omega)
  have n16 := h.nils 16 (by omega) (by omega)
  have n18 := h.nils 18 (by omega) (by omega)
  have n20 := h.nils 20 (by omega) (by omega)
  have n22 := h.nils 22 (by omega) (by omega)
  have n24 := h.nils 24 (by omega) (by omega)
  have n26 := h.nils 26 (by omega) (by omega)
  clear h
  go_enter Tryd.func14, Tryd.ntmps14
  go_wp2_with (first | (go_at_call 24; refine (holdBytes_any R B v0 v1 hs _ HR.out hsl).mono ?_; rintro e w' ⟨rfl, hw⟩; have hw2 := hw.symm; clear hw; subst hw2) | (go_at_call 25; refine (holdInts_nil R _ n2).mono ?_; rintro e w' ⟨rfl, hw⟩; have hw2 := hw.symm; clear hw; subst hw2) | (go_at_call 26; refine (holdNums_nil R _ n4).mono ?_; rintro e w' ⟨rfl, hw⟩; have hw2 := hw.symm; clear hw; subst hw2) | (go_at_call 27; refine (holdTexts_nil R _ n6).mono ?_; rintro e w' ⟨rfl, hw⟩; have hw2 := hw.symm; clear hw; subst hw2) | (go_at_call 28; refine (holdEntries_nil R _ n8).mono ?_; rintro e w' ⟨rfl, hw⟩; have hw2 := hw.symm; clear hw; subst hw2) | (go_at_call 29; refine (holdPairs_nil R _ n10).mono ?_; rintro e w' ⟨rfl, hw⟩; have hw2 := hw.symm; clear hw; subst hw2) | (go_at_call 30; refine (holdWrites_nil R _ n12).mono ?_; rintro e w' ⟨rfl, hw⟩; have hw2 := hw.symm; clear hw; subst hw2) | (go_at_call 31; refine (holdTables_nil R _ n14).mono ?_; rintro e w' ⟨rfl, hw⟩; have hw2 := hw.symm; clear hw; subst hw2) | (go_at_call 32; refine (holdPlaces_nil R _ n16).mono ?_; rintro e w' ⟨rfl, hw⟩; have hw2 := hw.symm; clear hw; subst hw2) | (go_at_call 33; refine (holdPlaceds_nil R _ n18).mono ?_; rintro e w' ⟨rfl, hw⟩; have hw2 := hw.symm; clear hw; subst hw2) | (go_at_call 34; refine (holdChunks_nil R _ n20).mono ?_; rintro e w' ⟨rfl, hw⟩; have hw2 := hw.symm; clear hw; subst hw2) | (go_at_call 35; refine (holdGroups_nil R _ n22).mono ?_; rintro e w' ⟨rfl, hw⟩; have hw2 := hw.symm; clear hw; subst hw2) | (go_at_call 36; refine (holdFiles_nil R _ n24).mono ?_; rintro e w' ⟨rfl, hw⟩; have hw2 := hw.symm; clear hw; subst hw2) | (go_at_call 37; refine (holdSteps_nil R _ n26).mono ?_; rintro e w' ⟨rfl, hw⟩; have hw2 := hw.symm; clear hw; subst hw2))
  go_ret
  exact ⟨rfl, rfl⟩

set_option maxHeartbeats 1000000 in
theorem bytes_any (R B : Nat) (v0 v1 : Value) (hs : List Lent) (a : Option Addr) (cap : Nat) (l : List Nat) (w : World) (hRm : Rm w R B v0 v1 hs) (hsl : hs.length ≤ 1000)
    (hn : a = none → cap = 0) (h : IsB w a l) (hlen : l.length + 600 ≤ 140737488355328) :
    Calls Tryd.prog 11 #[.pointer (some ⟨R, 0, none⟩), .slice a l.length cap] w fun e w' => ∃ g c v0' v1', e = .returned (.slice (some ⟨g, 0, none⟩) l.length (l.length + 600)) ∧
      Rm w' R B v0' v1' (hs ++ [(g, l.length, c)]) ∧ BRow w' g 0 l ∧ w.heap.size ≤ g ∧ (∀ x, v0'.ownBlock = some x → v0.ownBlock = some x ∨ w.heap.size ≤ x) ∧ (∀ x, v1'.ownBlock = some x → v1.ownBlock = some x ∨ w.heap.size ≤ x) ∧
      Keep (R :: (v0.ownBlock.toList ++ v1.ownBlock.toList)) w w' := by
  have HR : Hid (Rm w R B v0 v1 hs) := hRm
  have HI : Hid (IsB w a l) := h
  have HN : Hid (a = none → cap = 0) := hn
  clear h hn hRm
  go_enter Tryd.func11, Tryd.ntmps11
  go_wp2_with (go_at_call 21; refine (layBytes_any R B v0 v1 hs a cap l w HR.out hsl HN.out HI.out hlen).mono ?_; rintro e w1 ⟨g, c, v0', v1', rfl, hpost⟩; have HP : Hid (_ ∧ _) := hpost; clear hpost)
  go_ret
  exact ⟨g, c, v0', v1', rfl, HP.out⟩

/-- A new room. -/
abbrev roomZ : Obj := .cells #[.slice none 0 0, .slice none 0 0, .slice none 0 0, .slice none 0 0, .slice none 0 0, .slice none 0 0, .slice none 0 0, .slice none 0 0, .slice none 0 0, .slice none 0 0, .slice none 0 0, .slice none 0 0, .slice none 0 0, .slice none 0 0, .slice none 0 0, .slice none 0 0, .slice none 0 0, .slice none 0 0, .slice none 0 0, .slice none 0 0, .slice none 0 0, .slice none 0 0, .slice none 0 0, .slice none 0 0, .slice none 0 0, .slice none 0 0, .slice none 0 0, .slice none 0 0] 46
theorem room_new (w : World) (B : Nat) (hB : B ≤ w.heap.size) : Rm (w.alloc roomZ) w.heap.size B (.slice none 0 0) (.slice none 0 0) [] := by
  have hc : ∀ j, j < 28 → (w.alloc roomZ).cell? ⟨w.heap.size, j, none⟩ = some (.slice none 0 0) := by
    intro j hj
    rw [World.cell?_alloc_at _ _ _ _ rfl]
    rcases (show j = 0 ∨ j = 1 ∨ j = 2 ∨ j = 3 ∨ j = 4 ∨ j = 5 ∨ j = 6 ∨ j = 7 ∨ j = 8 ∨ j = 9 ∨ j = 10 ∨ j = 11 ∨ j = 12 ∨ j = 13 ∨ j = 14 ∨ j = 15 ∨ j = 16 ∨ j = 17 ∨ j = 18 ∨ j = 19 ∨ j = 20 ∨ j = 21 ∨ j = 22 ∨ j = 23 ∨ j = 24 ∨ j = 25 ∨ j = 26 ∨ j = 27 by omega) with rfl | rfl | rfl | rfl | rfl | rfl | rfl | rfl | rfl | rfl | rfl | rfl | rfl | rfl | rfl | rfl | rfl | rfl | rfl | rfl | rfl | rfl | rfl | rfl | rfl | rfl | rfl | rfl
    all_goals rfl
  have hf : ∀ j, (w.alloc roomZ).frozen? ⟨w.heap.size, j, none⟩ = false := fun j => World.frozen?_alloc_at _ _ _ _ rfl
  exact {
    lt := by simp
    base := hB
    c0 := hc 0 (by omega)
    c1 := hc 1 (by omega)
    o0 := World.ownsRow_nil _ _ _ _
    o1 := World.ownsRow_nil _ _ _ _
    r0 := by simp [Value.ownBlock]
    r1 := by simp [Value.ownBlock]
    d01 := by simp [Value.ownBlock]
    nils := fun j _ h => hc j h
    f0 := hf 0
    f1 := hf 1
    lent := by simp }

end Rom
end Go.Proofs.YtdbiliigbinmfaaDoor
