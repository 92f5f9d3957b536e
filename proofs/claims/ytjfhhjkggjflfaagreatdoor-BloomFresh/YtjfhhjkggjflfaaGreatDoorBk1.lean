import Derived.Test.YtjfhhjkggjflfaaGreatDoorBl4
namespace Go.Proofs.YtjfhhjkggjflfaaGreatDoor
namespace Blk
open Go.RowKit CMath Byt Cod Laws Tsr BMath Blo
set_option linter.unusedVariables false
set_option maxRecDepth 20000

theorem isB_lit (w : World) (l : List Nat) (T : TypeId) (h : ∀ x ∈ l, x < 256) : IsB (w.alloc (.cells (cellsB l).toArray T)) (some ⟨w.heap.size, 0, none⟩) l := by
  refine IsB.some ⟨by simp, fun i x hx => ?_⟩ h
  rw [World.cell?_alloc_at _ _ _ _ rfl, Nat.zero_add]
  simpa using cellsB_get hx
def kA : ByteArray := ⟨#[97]⟩
theorem kmk : mk ([kA].map strB) 10 = [1, 0, 1, 1, 0, 1, 1, 1, 6] := by decide +kernel
theorem kmay : may [0, 0, 0, 0, 0, 0, 0, 0, 1] (strB kA) = false := by decide +kernel
theorem kmay0 : may [] (strB kA) = true := by simp [may]

set_option maxHeartbeats 1000000 in
theorem known_any (w : World) (ht : Tab w) :
    Calls Tryz.prog 4 #[] w fun e w' => e = .returned (.bool true) ∧ Below w.heap.size w w' := by
  have HT : Hid (Tab w) := ht
  clear ht
  go_enter Tryz.func4, Tryz.ntmps4
  go_wp2_with fail
  have hb0 : Below w.heap.size w (w.alloc (.cells #[.string kA] 9)) := (Below.refl _ _).alloc (Nat.le_refl _) _
  refine (make_any (some ⟨w.heap.size, 0, none⟩) 1 1 [kA] 10 _ isT_new (HT.out.below hb0 HT.out.lt) (by omega) (by simp) (by intro s hs; rw [List.mem_singleton.1 hs]; decide) rfl).mono ?_
  rintro e w1 ⟨a1, c1, rfl, hn1, hb1⟩
  rw [kmk] at hn1 ⊢
  have HN1 : Hid (New 5 (w.alloc (.cells #[.string kA] 9)).heap.size w1 a1 c1 [1, 0, 1, 1, 0, 1, 1, 1, 6]) := hn1
  have HB1 : Hid (Below w.heap.size w w1) := hb0.trans (hb1.mono (by simp))
  clear hn1 hb1 hb0
  go_wp2_with fail
  have hb2 : Below w1.heap.size w1 (w1.alloc (.cells (cellsB [1, 0, 1, 1, 0, 1, 1, 1, 6]).toArray 5)) := (Below.refl _ _).alloc (Nat.le_refl _) _
  refine (same_any a1 (some ⟨w1.heap.size, 0, none⟩) c1 9 9 9 [1, 0, 1, 1, 0, 1, 1, 1, 6] _ (HN1.out.isB.below hb2) (isB_lit w1 [1, 0, 1, 1, 0, 1, 1, 1, 6] 5 (by decide)) (by simp) rfl rfl).mono ?_
  rintro e w' ⟨rfl, d3, rfl⟩
  have HB3 : Hid (Below w.heap.size w ((w1.alloc (.cells (cellsB [1, 0, 1, 1, 0, 1, 1, 1, 6]).toArray 5)).drewN d3)) := below_drewN (HB1.out.trans (hb2.mono HB1.out.size)) _
  generalize ((w1.alloc (.cells (cellsB [1, 0, 1, 1, 0, 1, 1, 1, 6]).toArray 5)).drewN d3) = w3 at *
  clear hb2
  go_wp2_with fail
  have hb4 : Below w3.heap.size w3 (w3.alloc (.cells (cellsB [0, 0, 0, 0, 0, 0, 0, 0, 1]).toArray 5)) := (Below.refl _ _).alloc (Nat.le_refl _) _
  refine (may_any (some ⟨w3.heap.size, 0, none⟩) 9 9 [0, 0, 0, 0, 0, 0, 0, 0, 1] kA _ (isB_lit w3 [0, 0, 0, 0, 0, 0, 0, 0, 1] 5 (by decide)) ((HT.out.below HB3.out HT.out.lt).below hb4 (by have := HB3.out.size; have := HT.out.lt; omega)) (by simp) (by decide) rfl).mono ?_
  rintro e w5 ⟨rfl, hb5⟩
  rw [kmay]
  have HB5 : Hid (Below w.heap.size w w5) := (HB3.out.trans (hb4.mono HB3.out.size)).trans (hb5.mono (by have := HB3.out.size; simp; omega))
  clear hb4 hb5
  go_wp2_with fail
  refine (may_any none 0 0 [] kA w5 (IsB.nil _ _) (HT.out.below HB5.out HT.out.lt) (by simp) (by decide) rfl).mono ?_
  rintro e w6 ⟨rfl, hb6⟩
  rw [kmay0]
  have HB6 : Hid (Below w.heap.size w w6) := HB5.out.trans (hb6.mono HB5.out.size)
  clear hb6
  go_wp2_with fail
  go_ret
  exact ⟨rfl, HB6.out⟩

set_option maxHeartbeats 1000000 in
theorem some_any (a : Option Addr) (cap : Nat) (n : Nat) (w : World) (hc : a = none → cap = 0) (hcap : n ≤ cap) (hmx : cap ≤ 9223372036854775807) :
    Calls Tryz.prog 5 #[.slice a n cap] w fun e w' => e = .returned (.slice a (min n 4000) cap) ∧ w' = w := by
  have e1 : min (n : Int) 4000 = ((min n 4000 : Nat) : Int) := by omega
  obtain ⟨N, hN⟩ : ∃ N, min n 4000 = N := ⟨_, rfl⟩
  rw [hN] at e1 ⊢
  have hNc : N ≤ cap := by omega
  have hNi : (N : Int) ≤ (cap : Int) := by omega
  clear hN
  cases a with
  | none =>
    obtain rfl := hc rfl
    obtain rfl : N = 0 := by omega
    obtain rfl : n = 0 := by omega
    clear hc
    go_enter Tryz.func5, Tryz.ntmps5
    go_wp2
    go_ret
    exact ⟨rfl, rfl⟩
  | some ad =>
    clear hc
    go_enter Tryz.func5, Tryz.ntmps5
    go_wp2
    go_ret
    exact ⟨rfl, rfl⟩
end Blk
end Go.Proofs.YtjfhhjkggjflfaaGreatDoor
