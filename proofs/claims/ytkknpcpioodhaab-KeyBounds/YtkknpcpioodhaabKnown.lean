import Derived.Test.YtkknpcpioodhaabProg
import Derived.Test.YtkknpcpioodhaabBat
import Derived.Test.YtkknpcpioodhaabEnts
import Derived.WalkKit
import Derived.WalkSpells
import Derived.WalkLawsBesides
import Derived.Deep.RegionHeld3
import Derived.Deep.DrawnRows
namespace Go.Proofs.Ytkknpcpioodhaab
namespace Known
open Go.RowKit KMath Cmp Ent Chk Bat Wei Ents
set_option linter.unusedVariables false
attribute [local go_sem ↓] Go.wp_at_zero Go.wp_at_succ

/-- The two writes of the chapter's examples. -/
def ex : List Wr := [(⟨#[97, 98]⟩, false, ⟨#[120, 121, 122]⟩), (⟨#[97, 98]⟩, true, ⟨#[113]⟩)]

theorem ex_is (w : World) : IsWr (w.alloc (.cells #[.string ⟨#[97, 98]⟩, .bool false, .string ⟨#[120, 121, 122]⟩, .string ⟨#[97, 98]⟩, .bool true, .string ⟨#[113]⟩] 39)) (some ⟨w.heap.size, 0, none⟩) ex := by
  refine ⟨fun _ => ⟨w.heap.size, 0, rfl, by simp, fun i x hx => ?_⟩, by simp [ex, maxLen], fun x hx => ?_⟩
  · match i, hx with
    | 0, hx =>
      simp [ex] at hx
      subst hx
      refine ⟨?_, ?_, ?_⟩ <;> (rw [World.cell?_alloc_at _ _ _ _ rfl]; rfl)
    | 1, hx =>
      simp [ex] at hx
      subst hx
      refine ⟨?_, ?_, ?_⟩ <;> (rw [World.cell?_alloc_at _ _ _ _ rfl]; rfl)
    | i + 2, hx => simp [ex] at hx
  · simp [ex] at hx
    rcases hx with rfl | rfl
    · exact ⟨by decide +kernel, by decide +kernel⟩
    · exact ⟨by decide +kernel, by decide +kernel⟩

theorem ex_sum : (sumF ex == 907) = true := by decide +kernel
theorem ex_wt : (wt ⟨#[97, 98]⟩ true ⟨#[]⟩ == 452) = true := by decide +kernel
theorem ex_cmp : (cmpE ⟨#[97, 98]⟩ ⟨#[97, 98]⟩ 8 7 == -1) = true := by decide +kernel
theorem ex_err : (err 0 == 10) = true := by decide +kernel
theorem ex_ents : ents 7 ex = [(⟨#[97, 98]⟩, 7, false, ⟨#[120, 121, 122]⟩), (⟨#[97, 98]⟩, 8, true, ⟨#[]⟩)] := by
  have e0 : seqAt 7 0 = 7 := by decide +kernel
  have e1 : seqAt 7 1 = 8 := by decide +kernel
  simp [ents, ex, e0, e1, val]

theorem entries_ex (a : Option Addr) (cap : Nat) (w : World) (h : IsWr w a ex) :
    Calls Try.prog 8 #[.int .u64 7, .slice a 2 cap] w fun e w' => e = .returned (.slice (some ⟨w.heap.size, 0, none⟩) 2 2) ∧ (w'.cell? ⟨w.heap.size, 0, none⟩ = some (.string ⟨#[97, 98]⟩) ∧ w'.cell? ⟨w.heap.size, 1, none⟩ = some (.int .u64 7) ∧ w'.cell? ⟨w.heap.size, 2, none⟩ = some (.bool false) ∧ w'.cell? ⟨w.heap.size, 3, none⟩ = some (.string ⟨#[120, 121, 122]⟩) ∧ w'.cell? ⟨w.heap.size, 4, none⟩ = some (.string ⟨#[97, 98]⟩) ∧ w'.cell? ⟨w.heap.size, 5, none⟩ = some (.int .u64 8) ∧ w'.cell? ⟨w.heap.size, 6, none⟩ = some (.bool true) ∧ w'.cell? ⟨w.heap.size, 7, none⟩ = some (.string ⟨#[]⟩)) ∧ w.heap.size < w'.heap.size ∧ Below w.heap.size w w' := by
  have hc := entries_any 7 a cap ex w h (by decide)
  have e2 : ex.length = 2 := rfl
  rw [e2] at hc
  refine hc.mono ?_
  rintro e w' ⟨rfl, hE, hb⟩
  rw [ex_ents] at hE
  obtain ⟨b, off, e, hlt, hr⟩ := hE (by simp)
  cases e
  obtain ⟨c0, c1, c2, c3⟩ := hr 0 _ rfl
  obtain ⟨c4, c5, c6, c7⟩ := hr 1 _ rfl
  exact ⟨rfl, ⟨c0, c1, c2, c3, c4, c5, c6, c7⟩, hlt, hb⟩

theorem batchWeight_ex (a : Option Addr) (cap : Nat) (w : World) (h : IsWr w a ex) :
    Calls Try.prog 13 #[.slice a 2 cap] w fun e w' => e = .returned (.int .i64 (sumF ex)) ∧ Below w.heap.size w w' := by
  have hc := batchWeight_any a cap ex w h
  have e2 : ex.length = 2 := rfl
  rw [e2] at hc
  exact hc

theorem check_ex (w : World) : Calls Try.prog 11 #[.string ⟨#[]⟩] w fun e w' => e = .returned (.int .i64 (err 0)) ∧ w' = w := check_any ⟨#[]⟩ w (Nat.zero_le _)

theorem keepK {H : Nat} {w W w' : World} (hb : Below W.heap.size W w') (h : W.cell? ⟨H, 0, none⟩ = some (.string ⟨#[97, 98]⟩) ∧ W.cell? ⟨H, 1, none⟩ = some (.int .u64 7) ∧ W.cell? ⟨H, 2, none⟩ = some (.bool false) ∧ W.cell? ⟨H, 3, none⟩ = some (.string ⟨#[120, 121, 122]⟩) ∧ W.cell? ⟨H, 4, none⟩ = some (.string ⟨#[97, 98]⟩) ∧ W.cell? ⟨H, 5, none⟩ = some (.int .u64 8) ∧ W.cell? ⟨H, 6, none⟩ = some (.bool true) ∧ W.cell? ⟨H, 7, none⟩ = some (.string ⟨#[]⟩) ∧ H < W.heap.size ∧ Below w.heap.size w W) : w'.cell? ⟨H, 0, none⟩ = some (.string ⟨#[97, 98]⟩) ∧ w'.cell? ⟨H, 1, none⟩ = some (.int .u64 7) ∧ w'.cell? ⟨H, 2, none⟩ = some (.bool false) ∧ w'.cell? ⟨H, 3, none⟩ = some (.string ⟨#[120, 121, 122]⟩) ∧ w'.cell? ⟨H, 4, none⟩ = some (.string ⟨#[97, 98]⟩) ∧ w'.cell? ⟨H, 5, none⟩ = some (.int .u64 8) ∧ w'.cell? ⟨H, 6, none⟩ = some (.bool true) ∧ w'.cell? ⟨H, 7, none⟩ = some (.string ⟨#[]⟩) ∧ H < w'.heap.size ∧ Below w.heap.size w w' := by
  obtain ⟨c0, c1, c2, c3, c4, c5, c6, c7, hz, hB⟩ := h
  obtain ⟨hc, hf⟩ := bcell hb
  have hs := hb.size
  exact ⟨(hc _ _ hz).trans c0, (hc _ _ hz).trans c1, (hc _ _ hz).trans c2, (hc _ _ hz).trans c3, (hc _ _ hz).trans c4, (hc _ _ hz).trans c5, (hc _ _ hz).trans c6, (hc _ _ hz).trans c7, by omega, hB.trans (hb.mono hB.size)⟩
theorem keepSame {H : Nat} {w W : World} (h : W.cell? ⟨H, 0, none⟩ = some (.string ⟨#[97, 98]⟩) ∧ W.cell? ⟨H, 1, none⟩ = some (.int .u64 7) ∧ W.cell? ⟨H, 2, none⟩ = some (.bool false) ∧ W.cell? ⟨H, 3, none⟩ = some (.string ⟨#[120, 121, 122]⟩) ∧ W.cell? ⟨H, 4, none⟩ = some (.string ⟨#[97, 98]⟩) ∧ W.cell? ⟨H, 5, none⟩ = some (.int .u64 8) ∧ W.cell? ⟨H, 6, none⟩ = some (.bool true) ∧ W.cell? ⟨H, 7, none⟩ = some (.string ⟨#[]⟩) ∧ H < W.heap.size ∧ Below w.heap.size w W) : W.cell? ⟨H, 0, none⟩ = some (.string ⟨#[97, 98]⟩) ∧ W.cell? ⟨H, 1, none⟩ = some (.int .u64 7) ∧ W.cell? ⟨H, 2, none⟩ = some (.bool false) ∧ W.cell? ⟨H, 3, none⟩ = some (.string ⟨#[120, 121, 122]⟩) ∧ W.cell? ⟨H, 4, none⟩ = some (.string ⟨#[97, 98]⟩) ∧ W.cell? ⟨H, 5, none⟩ = some (.int .u64 8) ∧ W.cell? ⟨H, 6, none⟩ = some (.bool true) ∧ W.cell? ⟨H, 7, none⟩ = some (.string ⟨#[]⟩) ∧ H < W.heap.size ∧ Below w.heap.size w W := h
theorem startK {H : Nat} {W : World} (h : W.cell? ⟨H, 0, none⟩ = some (.string ⟨#[97, 98]⟩) ∧ W.cell? ⟨H, 1, none⟩ = some (.int .u64 7) ∧ W.cell? ⟨H, 2, none⟩ = some (.bool false) ∧ W.cell? ⟨H, 3, none⟩ = some (.string ⟨#[120, 121, 122]⟩) ∧ W.cell? ⟨H, 4, none⟩ = some (.string ⟨#[97, 98]⟩) ∧ W.cell? ⟨H, 5, none⟩ = some (.int .u64 8) ∧ W.cell? ⟨H, 6, none⟩ = some (.bool true) ∧ W.cell? ⟨H, 7, none⟩ = some (.string ⟨#[]⟩)) (hz : H < W.heap.size) : W.drew.cell? ⟨H, 0, none⟩ = some (.string ⟨#[97, 98]⟩) ∧ W.drew.cell? ⟨H, 1, none⟩ = some (.int .u64 7) ∧ W.drew.cell? ⟨H, 2, none⟩ = some (.bool false) ∧ W.drew.cell? ⟨H, 3, none⟩ = some (.string ⟨#[120, 121, 122]⟩) ∧ W.drew.cell? ⟨H, 4, none⟩ = some (.string ⟨#[97, 98]⟩) ∧ W.drew.cell? ⟨H, 5, none⟩ = some (.int .u64 8) ∧ W.drew.cell? ⟨H, 6, none⟩ = some (.bool true) ∧ W.drew.cell? ⟨H, 7, none⟩ = some (.string ⟨#[]⟩) ∧ H < W.drew.heap.size ∧ Below W.heap.size W W.drew := by
  obtain ⟨c0, c1, c2, c3, c4, c5, c6, c7⟩ := h
  exact ⟨c0, c1, c2, c3, c4, c5, c6, c7, hz, (Below.refl _ _).drew⟩
theorem lastK {H : Nat} {w W : World} (h : W.cell? ⟨H, 0, none⟩ = some (.string ⟨#[97, 98]⟩) ∧ W.cell? ⟨H, 1, none⟩ = some (.int .u64 7) ∧ W.cell? ⟨H, 2, none⟩ = some (.bool false) ∧ W.cell? ⟨H, 3, none⟩ = some (.string ⟨#[120, 121, 122]⟩) ∧ W.cell? ⟨H, 4, none⟩ = some (.string ⟨#[97, 98]⟩) ∧ W.cell? ⟨H, 5, none⟩ = some (.int .u64 8) ∧ W.cell? ⟨H, 6, none⟩ = some (.bool true) ∧ W.cell? ⟨H, 7, none⟩ = some (.string ⟨#[]⟩) ∧ H < W.heap.size ∧ Below w.heap.size w W) : Below w.heap.size w W := h.2.2.2.2.2.2.2.2.2

set_option maxHeartbeats 4000000 in
theorem known_any (w : World) :
    Calls Try.prog 6 #[] w fun e w' => e = .returned (.bool true) ∧ Below w.heap.size w w' := by
  have HEX : Hid (IsWr (w.alloc (.cells #[.string ⟨#[97, 98]⟩, .bool false, .string ⟨#[120, 121, 122]⟩, .string ⟨#[97, 98]⟩, .bool true, .string ⟨#[113]⟩] 39)) (some ⟨w.heap.size, 0, none⟩) ex) := ex_is w
  have x1 := ex_sum
  have x2 := ex_wt
  have x3 := ex_cmp
  have x4 := ex_err
  go_enter Try.func6, Try.ntmps6
  go_wp2_with fail
  refine (entries_ex _ _ _ HEX.out).mono ?_
  rintro e w1 ⟨rfl, hcs, hz, hb1⟩
  have HWr : Hid (IsWr w1 (some ⟨w.heap.size, 0, none⟩) ex) := HEX.out.below hb1
  have HB1 : Hid (Below w.heap.size w w1) := ((Below.refl _ _).alloc (Nat.le_refl _) _).trans (hb1.mono (by simp))
  have hsz : w.heap.size + 1 < w1.heap.size := by simpa using hz
  have hcs' : w1.cell? ⟨w.heap.size + 1, 0, none⟩ = some (.string ⟨#[97, 98]⟩) ∧ w1.cell? ⟨w.heap.size + 1, 1, none⟩ = some (.int .u64 7) ∧ w1.cell? ⟨w.heap.size + 1, 2, none⟩ = some (.bool false) ∧ w1.cell? ⟨w.heap.size + 1, 3, none⟩ = some (.string ⟨#[120, 121, 122]⟩) ∧ w1.cell? ⟨w.heap.size + 1, 4, none⟩ = some (.string ⟨#[97, 98]⟩) ∧ w1.cell? ⟨w.heap.size + 1, 5, none⟩ = some (.int .u64 8) ∧ w1.cell? ⟨w.heap.size + 1, 6, none⟩ = some (.bool true) ∧ w1.cell? ⟨w.heap.size + 1, 7, none⟩ = some (.string ⟨#[]⟩) := by simpa using hcs
  have HCS : Hid (w1.cell? ⟨w.heap.size + 1, 0, none⟩ = some (.string ⟨#[97, 98]⟩) ∧ w1.cell? ⟨w.heap.size + 1, 1, none⟩ = some (.int .u64 7) ∧ w1.cell? ⟨w.heap.size + 1, 2, none⟩ = some (.bool false) ∧ w1.cell? ⟨w.heap.size + 1, 3, none⟩ = some (.string ⟨#[120, 121, 122]⟩) ∧ w1.cell? ⟨w.heap.size + 1, 4, none⟩ = some (.string ⟨#[97, 98]⟩) ∧ w1.cell? ⟨w.heap.size + 1, 5, none⟩ = some (.int .u64 8) ∧ w1.cell? ⟨w.heap.size + 1, 6, none⟩ = some (.bool true) ∧ w1.cell? ⟨w.heap.size + 1, 7, none⟩ = some (.string ⟨#[]⟩)) := hcs'
  clear hcs hz hb1
  obtain ⟨c0, c1, c2, c3, c4, c5, c6, c7⟩ := hcs'
  go_wp2_with fail
  clear c0 c1 c2 c3 c4 c5 c6 c7
  go_region_held3 (fun w' => w'.cell? ⟨w.heap.size + 1, 0, none⟩ = some (.string ⟨#[97, 98]⟩) ∧ w'.cell? ⟨w.heap.size + 1, 1, none⟩ = some (.int .u64 7) ∧ w'.cell? ⟨w.heap.size + 1, 2, none⟩ = some (.bool false) ∧ w'.cell? ⟨w.heap.size + 1, 3, none⟩ = some (.string ⟨#[120, 121, 122]⟩) ∧ w'.cell? ⟨w.heap.size + 1, 4, none⟩ = some (.string ⟨#[97, 98]⟩) ∧ w'.cell? ⟨w.heap.size + 1, 5, none⟩ = some (.int .u64 8) ∧ w'.cell? ⟨w.heap.size + 1, 6, none⟩ = some (.bool true) ∧ w'.cell? ⟨w.heap.size + 1, 7, none⟩ = some (.string ⟨#[]⟩) ∧ w.heap.size + 1 < w'.heap.size ∧ Below w1.heap.size w1 w') (first | exact keepK (by assumption) (by assumption) | assumption | exact startK HCS.out hsz)
    (first
      | (go_at_call 13; refine (batchWeight_ex _ _ _ (HWr.out.below (lastK (by assumption)))).mono ?_; rintro e w' ⟨rfl, hb⟩)
      | (go_at_call 9; refine (weight_any _ _ _ _ _).mono ?_; rintro e w' ⟨rfl, hb⟩)
      | (go_at_call 7; refine (compare_any _ _ _ _ _ _ _ _ _).mono ?_; rintro e w' ⟨rfl, hb⟩)
      | (go_at_call 11; refine (check_ex _).mono ?_; rintro e w' ⟨rfl, hw⟩; have hw2 := hw.symm; clear hw; subst hw2)
      | (go_at_call 10; refine (num_any _ _).mono ?_; rintro e w' ⟨rfl, hw⟩; have hw2 := hw.symm; clear hw; subst hw2))
  go_wp2
  go_ret
  exact ⟨rfl, HB1.out.trans ((lastK (by assumption)).mono HB1.out.size)⟩

end Known
end Go.Proofs.Ytkknpcpioodhaab
