import Derived.Test.YtnoipjeoclkeoabDoorQb7
import Derived.Test.YtnoipjeoclkeoabDoorQb9
namespace Go.Proofs.YtnoipjeoclkeoabDoor
namespace Qb
open Go.RowKit Go.Shelf CMath Byt Laws Irw Crw Cod Qe
set_option linter.unusedVariables false
set_option linter.unusedSimpArgs false
set_option maxRecDepth 100000

/-- Where the entries end, if the bytes may be a block's. -/
def spl (l : List Nat) : Option Nat := if l.length < 8 then none else if l.length - 8 < 4 * val ((l.drop (l.length - 8)).take 4) then none else some (l.length - 8 - 4 * val ((l.drop (l.length - 8)).take 4))
theorem opn_spl (l : List Nat) : opn l = match spl l with | none => none | some p => opn.opn2 l p := by
  unfold opn spl
  split
  · rfl
  split
  · rfl
  · rfl
theorem spl_le {l : List Nat} {p : Nat} (h : spl l = some p) : p + 8 ≤ l.length := by
  unfold spl at h
  split at h
  · cases h
  split at h
  · cases h
  · cases h; omega
/-- A block as it lies, with no tags. -/
abbrev BlkZ (w : World) (K o : Nat) (eb pb : List Nat) : Prop := BlkAt (fun _ => False) (fun _ => 0) w K o eb pb
theorem BlkAt.up {u : Nat → Prop} {T : Nat → Nat} {w : World} {K o : Nat} {eb pb : List Nat} (h : BlkZ w K o eb pb) (hu : ∀ b, b < w.heap.size → ¬ u (T b)) : BlkAt u T w K o eb pb := by
  obtain ⟨a, c, h1, h2, h3, h4, _⟩ := h.ent
  obtain ⟨a', c', k1, k2, k3, k4, _⟩ := h.pla
  refine ⟨h.lt, hu _ h.lt, ⟨a, c, h1, h2, h3, h4, fun b off e hne => ?_⟩, ⟨a', c', k1, k2, k3, k4, fun b off e hne => ?_⟩⟩
  · obtain ⟨b', off', e', hr⟩ := h2.1 hne
    rw [e] at e'; cases e'
    exact hu _ hr.1
  · obtain ⟨b', off', e', hr⟩ := k2.1 hne
    rw [e] at e'; cases e'
    exact hu _ hr.1
def SpIs (l : List Nat) (w : World) (e : Ending) (w' : World) : Prop := Below w.heap.size w w' ∧ match spl l with
  | none => e = .returned (.tuple #[.pointer none, .bool false])
  | some p => e = .returned (.tuple #[.pointer (some ⟨w.heap.size, 0, none⟩), .bool true]) ∧ BlkZ w' w.heap.size 0 (l.take p) ((l.drop p).take (l.length - 8 - p))
theorem SpIs.no {l : List Nat} {w w' : World} (h : spl l = none) (hb : Below w.heap.size w w') : SpIs l w (.returned (.tuple #[.pointer none, .bool false])) w' := ⟨hb, by rw [h]⟩
theorem SpIs.yes {l : List Nat} {w w' : World} {p : Nat} (h : spl l = some p) (hb : Below w.heap.size w w') (hk : BlkZ w' w.heap.size 0 (l.take p) ((l.drop p).take (l.length - 8 - p))) : SpIs l w (.returned (.tuple #[.pointer (some ⟨w.heap.size, 0, none⟩), .bool true])) w' := ⟨hb, by rw [h]; exact ⟨rfl, hk⟩⟩

set_option maxHeartbeats 2000000 in
theorem split_any (a : Option Addr) (cap N : Nat) (l : List Nat) (w : World) (ha : IsB w a l) (hN : N = l.length) (hcap : N ≤ cap) (hc12 : cap ≤ 9223372036854775807 ∧ N ≤ 1000000000000) :
    Calls Tryd.prog 19 #[.slice a N cap] w fun e w' => SpIs l w e w' := by
  by_cases h8 : N < 8
  · have hs : Hid (spl l = none) := by show _ = _; unfold spl; rw [if_pos (by omega)]
    have q : (N : Int) - 8 < 0 := by omega
    clear ha hN
    go_enter Tryd.func19, Tryd.ntmps19
    go_wp2
    go_ret2
    exact SpIs.no hs.out (Below.refl _ _)
  · obtain ⟨b, off, rfl, hr⟩ := ha.1 (by rintro rfl; simp at hN; omega)
    obtain ⟨t, rfl⟩ : ∃ t, N = t + 8 := ⟨N - 8, by omega⟩
    have HN : Hid (t + 8 = l.length) := hN
    have HI : Hid (IsB w (some ⟨b, off + t, none⟩) ((l.drop t).take 4) ∧ ((l.drop t).take 4).length = 4) := ⟨IsB.some ((hr.drop t).take 4) (fun x hx => ha.2 x (List.mem_of_mem_drop (List.mem_of_mem_take hx))), by rw [List.length_take, List.length_drop]; omega⟩
    have hv := val_lt _ (fun x hx => ha.2 x (List.mem_of_mem_drop (List.mem_of_mem_take hx)) : ∀ x ∈ (l.drop t).take 4, x < 256)
    rw [HI.out.2] at hv
    have HR : Hid (BRow w b off l ∧ ∀ x ∈ l, x < 256) := ⟨hr, ha.2⟩
    have HS : Hid (spl l = if t < 4 * val ((l.drop t).take 4) then none else some (t - 4 * val ((l.drop t).take 4))) := by
      show _ = _
      unfold spl
      rw [if_neg (by omega), show l.length - 8 = t by omega]
    have HV : Hid (∀ V, V = val ((l.drop t).take 4) → Calls Tryd.prog 34 #[.slice (some ⟨b, off + t, none⟩) 4 4] w fun e w' => e = .returned (.int .u32 (V : Int)) ∧ w' = w) := fun V hV => by rw [hV]; exact word_any (some ⟨b, off + t, none⟩) 4 4 _ w HI.out.1 HI.out.2 rfl
    clear ha hr hN
    obtain ⟨V, hV⟩ : ∃ V, V = val ((l.drop t).take 4) := ⟨_, rfl⟩
    have HW := HV.out V hV
    have HWH : Hid (Calls Tryd.prog 34 #[.slice (some ⟨b, off + t, none⟩) 4 4] w fun e w' => e = .returned (.int .u32 (V : Int)) ∧ w' = w) := HW
    clear HV HW
    rw [← hV] at hv HS
    clear hV
    have hv2 : V < 4294967296 := hv
    clear hv
    by_cases hbig : t < 4 * V
    · rw [if_pos hbig] at HS
      have q : (t : Int) < 4 * (V : Int) := by omega
      go_enter Tryd.func19, Tryd.ntmps19
      go_wp2_with (go_at_call 34; go_loud (refine HWH.out.mono ?_; rintro e w1 ⟨rfl, hw⟩; have hw2 := hw.symm; clear hw; subst hw2))
      go_ret2
      exact SpIs.no HS.out (Below.refl _ _)
    · rw [if_neg hbig] at HS
      obtain ⟨p, rfl⟩ : ∃ p, t = p + 4 * V := ⟨t - 4 * V, by omega⟩
      rw [show p + 4 * V - 4 * V = p by omega] at HS
      have hLn : l.length - 8 - p = 4 * V := by have := HN.out; omega
      have HLT : Hid ((l.take p).length = p ∧ ((l.drop p).take (4 * V)).length = 4 * V) := ⟨by rw [List.length_take]; have := HN.out; omega, by rw [List.length_take, List.length_drop]; have := HN.out; omega⟩
      have HB1 : Hid (IsB w (some ⟨b, off, none⟩) (l.take p)) := IsB.some (HR.out.1.take p) (fun x hx => HR.out.2 x (List.mem_of_mem_take hx))
      have hbl : b < w.heap.size := HR.out.1.1
      have fin : ∀ (W : World) (A : Option Addr), Below w.heap.size w W → W.cell? ⟨w.heap.size, 0, none⟩ = some (.slice (some ⟨b, off, none⟩) p p) → W.cell? ⟨w.heap.size, 1, none⟩ = some (.slice A (4 * V) (4 * V)) → IsB w A ((l.drop p).take (4 * V)) → SpIs l w (.returned (.tuple #[.pointer (some ⟨w.heap.size, 0, none⟩), .bool true])) W := fun W A hb hc0 hc1 hA => by
        refine SpIs.yes HS.out hb ?_
        rw [hLn]
        refine ⟨World.block_lt_of_cell? W _ hc0, fun z => z, ⟨_, p, by rw [HLT.out.1]; exact hc0, HB1.out.below hb, by rw [HLT.out.1]; omega, ⟨by omega, by rw [HLT.out.1]; omega⟩, fun _ _ _ _ z => z⟩, ⟨A, 4 * V, by rw [HLT.out.2]; exact hc1, hA.below hb, by rw [HLT.out.2]; omega, ⟨by omega, by rw [HLT.out.2]; omega⟩, fun _ _ _ _ z => z⟩⟩
      have FIN : Hid _ := fin
      clear fin
      by_cases hV0 : V = 0
      · subst hV0
        have HA : Hid (IsB w (some ⟨b, off, none⟩) ((l.drop p).take (4 * 0))) := by
          show IsB _ _ _
          refine ⟨fun h => absurd (by simp) h, by simp⟩
        go_enter Tryd.func19, Tryd.ntmps19
        go_wp2_with (go_at_call 34; go_loud (refine HWH.out.mono ?_; rintro e w1 ⟨rfl, hw⟩; have hw2 := hw.symm; clear hw; subst hw2))
        go_region
        all_goals
          go_wp2
          go_ret2
          refine FIN.out _ _ (((Below.refl _ _).drew).alloc (by simp) _) ?_ ?_ HA.out
          · simp
          · simp
      · have q : (4 * (V : Int)) ≤ (p : Int) + 4 * (V : Int) := by omega
        have q0 : ¬ (4 * V = 0) := by omega
        have HA : Hid (IsB w (some ⟨b, off + p, none⟩) ((l.drop p).take (4 * V))) := IsB.some ((HR.out.1.drop p).take _) (fun x hx => HR.out.2 x (List.mem_of_mem_drop (List.mem_of_mem_take hx)))
        go_enter Tryd.func19, Tryd.ntmps19
        go_wp2_with (go_at_call 34; go_loud (refine HWH.out.mono ?_; rintro e w1 ⟨rfl, hw⟩; have hw2 := hw.symm; clear hw; subst hw2))
        go_region
        all_goals
          go_wp2
          go_ret2
          refine FIN.out _ _ (((Below.refl _ _).drew).alloc (by simp) _) ?_ ?_ HA.out
          · simp
          · simp
end Qb
end Go.Proofs.YtnoipjeoclkeoabDoor
