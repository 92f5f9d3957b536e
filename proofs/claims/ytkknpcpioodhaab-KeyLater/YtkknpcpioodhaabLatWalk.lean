import Derived.Test.YtkknpcpioodhaabKnown
import Derived.WalkKit
import Derived.Below
import Derived.Deep.RegionHeld3
import Derived.Deep.DrawnRows
import Derived.Deep.QuietTactic
import Derived.BigQuiet
namespace Go.Proofs.Ytkknpcpioodhaab
namespace KeyLater
open Go.RowKit KMath Cmp Ent Chk Wei Ents Known
set_option linter.unusedVariables false
attribute [local go_sem ↓] Go.wp_at_zero Go.wp_at_succ

theorem keepL {b off H i k : Nat} {k1 : ByteArray} {s1 : Int} {d1 : Bool} {v1 : ByteArray} {k2 : ByteArray} {s2 : Int} {d2 : Bool} {v2 : ByteArray} {w W w' : World} (hb : Below W.heap.size W w') (h : W.cell? ⟨b, off + i * 3, none⟩ = some (.string k1) ∧ W.cell? ⟨b, off + k * 3, none⟩ = some (.string k2) ∧ W.cell? ⟨H, i * 4, none⟩ = some (.string k1) ∧ W.cell? ⟨H, i * 4 + 1, none⟩ = some (.int .u64 s1) ∧ W.cell? ⟨H, i * 4 + 2, none⟩ = some (.bool d1) ∧ W.cell? ⟨H, i * 4 + 3, none⟩ = some (.string v1) ∧ W.cell? ⟨H, k * 4, none⟩ = some (.string k2) ∧ W.cell? ⟨H, k * 4 + 1, none⟩ = some (.int .u64 s2) ∧ W.cell? ⟨H, k * 4 + 2, none⟩ = some (.bool d2) ∧ W.cell? ⟨H, k * 4 + 3, none⟩ = some (.string v2) ∧ b < W.heap.size ∧ H < W.heap.size ∧ Below w.heap.size w W) : w'.cell? ⟨b, off + i * 3, none⟩ = some (.string k1) ∧ w'.cell? ⟨b, off + k * 3, none⟩ = some (.string k2) ∧ w'.cell? ⟨H, i * 4, none⟩ = some (.string k1) ∧ w'.cell? ⟨H, i * 4 + 1, none⟩ = some (.int .u64 s1) ∧ w'.cell? ⟨H, i * 4 + 2, none⟩ = some (.bool d1) ∧ w'.cell? ⟨H, i * 4 + 3, none⟩ = some (.string v1) ∧ w'.cell? ⟨H, k * 4, none⟩ = some (.string k2) ∧ w'.cell? ⟨H, k * 4 + 1, none⟩ = some (.int .u64 s2) ∧ w'.cell? ⟨H, k * 4 + 2, none⟩ = some (.bool d2) ∧ w'.cell? ⟨H, k * 4 + 3, none⟩ = some (.string v2) ∧ b < w'.heap.size ∧ H < w'.heap.size ∧ Below w.heap.size w w' := by
  obtain ⟨c0, c1, c2, c3, c4, c5, c6, c7, c8, c9, hz, hz', hB⟩ := h
  obtain ⟨hc, hf⟩ := bcell hb
  have hs := hb.size
  exact ⟨(hc _ _ (by omega)).trans c0, (hc _ _ (by omega)).trans c1, (hc _ _ (by omega)).trans c2, (hc _ _ (by omega)).trans c3, (hc _ _ (by omega)).trans c4, (hc _ _ (by omega)).trans c5, (hc _ _ (by omega)).trans c6, (hc _ _ (by omega)).trans c7, (hc _ _ (by omega)).trans c8, (hc _ _ (by omega)).trans c9, by omega, by omega, hB.trans (hb.mono hB.size)⟩
theorem startL {b off H i k : Nat} {k1 : ByteArray} {s1 : Int} {d1 : Bool} {v1 : ByteArray} {k2 : ByteArray} {s2 : Int} {d2 : Bool} {v2 : ByteArray} {w W : World} (h : W.cell? ⟨b, off + i * 3, none⟩ = some (.string k1) ∧ W.cell? ⟨b, off + k * 3, none⟩ = some (.string k2) ∧ W.cell? ⟨H, i * 4, none⟩ = some (.string k1) ∧ W.cell? ⟨H, i * 4 + 1, none⟩ = some (.int .u64 s1) ∧ W.cell? ⟨H, i * 4 + 2, none⟩ = some (.bool d1) ∧ W.cell? ⟨H, i * 4 + 3, none⟩ = some (.string v1) ∧ W.cell? ⟨H, k * 4, none⟩ = some (.string k2) ∧ W.cell? ⟨H, k * 4 + 1, none⟩ = some (.int .u64 s2) ∧ W.cell? ⟨H, k * 4 + 2, none⟩ = some (.bool d2) ∧ W.cell? ⟨H, k * 4 + 3, none⟩ = some (.string v2) ∧ b < W.heap.size ∧ H < W.heap.size ∧ Below w.heap.size w W) : W.drew.cell? ⟨b, off + i * 3, none⟩ = some (.string k1) ∧ W.drew.cell? ⟨b, off + k * 3, none⟩ = some (.string k2) ∧ W.drew.cell? ⟨H, i * 4, none⟩ = some (.string k1) ∧ W.drew.cell? ⟨H, i * 4 + 1, none⟩ = some (.int .u64 s1) ∧ W.drew.cell? ⟨H, i * 4 + 2, none⟩ = some (.bool d1) ∧ W.drew.cell? ⟨H, i * 4 + 3, none⟩ = some (.string v1) ∧ W.drew.cell? ⟨H, k * 4, none⟩ = some (.string k2) ∧ W.drew.cell? ⟨H, k * 4 + 1, none⟩ = some (.int .u64 s2) ∧ W.drew.cell? ⟨H, k * 4 + 2, none⟩ = some (.bool d2) ∧ W.drew.cell? ⟨H, k * 4 + 3, none⟩ = some (.string v2) ∧ b < W.drew.heap.size ∧ H < W.drew.heap.size ∧ Below w.heap.size w W.drew := by
  obtain ⟨c0, c1, c2, c3, c4, c5, c6, c7, c8, c9, hz, hz', hB⟩ := h
  exact ⟨c0, c1, c2, c3, c4, c5, c6, c7, c8, c9, hz, hz', hB.drew⟩
theorem lastL {b off H i k : Nat} {k1 : ByteArray} {s1 : Int} {d1 : Bool} {v1 : ByteArray} {k2 : ByteArray} {s2 : Int} {d2 : Bool} {v2 : ByteArray} {w W : World} (h : W.cell? ⟨b, off + i * 3, none⟩ = some (.string k1) ∧ W.cell? ⟨b, off + k * 3, none⟩ = some (.string k2) ∧ W.cell? ⟨H, i * 4, none⟩ = some (.string k1) ∧ W.cell? ⟨H, i * 4 + 1, none⟩ = some (.int .u64 s1) ∧ W.cell? ⟨H, i * 4 + 2, none⟩ = some (.bool d1) ∧ W.cell? ⟨H, i * 4 + 3, none⟩ = some (.string v1) ∧ W.cell? ⟨H, k * 4, none⟩ = some (.string k2) ∧ W.cell? ⟨H, k * 4 + 1, none⟩ = some (.int .u64 s2) ∧ W.cell? ⟨H, k * 4 + 2, none⟩ = some (.bool d2) ∧ W.cell? ⟨H, k * 4 + 3, none⟩ = some (.string v2) ∧ b < W.heap.size ∧ H < W.heap.size ∧ Below w.heap.size w W) : Below w.heap.size w W := h.2.2.2.2.2.2.2.2.2.2.2.2

/-- P1.8: of one key, the later number is above the earlier one. -/
theorem later (first : Int) (i k : Nat) (hik : i < k) (h0 : 0 ≤ first) (h : first + (k : Int) ≤ 18446744073709551615) (k1 k2 : ByteArray) (e : k1.toList = k2.toList) : cmpE k2 k1 (seqAt first k) (seqAt first i) = -1 := by
  have e1 : seqAt first k = first + (k : Int) := by unfold seqAt; rw [IntKind.wrap_u64]; omega
  have e2 : seqAt first i = first + (i : Int) := by unfold seqAt; rw [IntKind.wrap_u64]; omega
  have e3 : cmpS k2 k1 = 0 := by unfold cmpS; rw [e, bl_irrefl]; rfl
  rw [cmpE_eq e3, e1, e2]
  unfold cmpN
  rw [if_pos (by omega)]

set_option maxHeartbeats 4000000 in
theorem walk (first : Int) (a : Option Addr) (cap : Nat) (ws : List Wr) (w : World) (h : IsWr w a ws) (hf0 : 0 ≤ first) (hf1 : first ≤ 18446744073709551615) :
    Calls Try.prog 5 #[.int .u64 first, .slice a ws.length cap] w fun e w' => e = .returned (.bool true) ∧ Below w.heap.size w w' := by
  have HW : Hid (IsWr w a ws) := h
  have hlen := h.2.1
  unfold maxLen at hlen
  clear h
  by_cases hl : 200 < ws.length
  · go_enter Try.func5, Try.ntmps5
    go_wp2
    go_ret
    exact ⟨rfl, Below.refl _ _⟩
  by_cases hf : 0 < ws.length ∧ 18446744073709551615 - ((ws.length : Int) - 1) < first
  · obtain ⟨hl0, hf⟩ := hf
    go_enter Try.func5, Try.ntmps5
    go_wp2
    go_ret
    exact ⟨rfl, Below.refl _ _⟩
  have HSQ : Hid (∀ k : Nat, k < ws.length → first + (k : Int) ≤ 18446744073709551615) := fun k hk => by omega
  rcases (show ws.length = 0 ∨ (0 < ws.length ∧ first ≤ 18446744073709551615 - ((ws.length : Int) - 1)) by omega) with hl0 | ⟨hl0, hf2⟩
  all_goals
    clear hf
    have g200 : decide (200 < (ws.length : Int)) = false := decide_eq_false (by omega)
    first | have gf : decide (18446744073709551615 - ((ws.length : Int) - 1) < first) = false := decide_eq_false (by omega) | skip
    go_enter Try.func5, Try.ntmps5
    go_wp2_with fail
    refine (known_any _).mono ?_
    rintro e w1 ⟨rfl, hb1⟩
    have HB1 : Hid (Below w.heap.size w w1) := hb1
    clear hb1
    go_wp2_with fail
    first | (have hcE := entries_any first a cap ws w1 (HW.out.below HB1.out) (by omega); rw [hl0] at hcE; refine hcE.mono ?_; clear hcE) | refine (entries_any first a cap ws w1 (HW.out.below HB1.out) (by omega)).mono ?_
    rintro e w2 ⟨rfl, hE2, hb2⟩
    have HE2 : Hid (IsEn w2 (some ⟨w1.heap.size, 0, none⟩) (ents first ws)) := hE2
    have HW2 : Hid (IsWr w2 a ws) := (HW.out.below HB1.out).below hb2
    have HB2 : Hid (Below w.heap.size w w2) := HB1.out.trans (hb2.mono HB1.out.size)
    clear hE2 hb2
    go_wp2
  · refine wp_loop_rounds 1 ?_
    rw [rounds_succ]
    go_wp2
    go_ret
    exact ⟨rfl, HB2.out⟩
  · go_loopw [6, 7] (fun i _ wr => ∃ I : Nat, I ≤ ws.length ∧ i = .int .i64 I ∧ Below w2.heap.size w2 wr) (fun i _ _ => ws.length - (intOf i).toNat)
    case atStart => exact ⟨0, Nat.zero_le _, rfl, Below.refl _ _⟩
    case round =>
      rename World => wo
      obtain ⟨i, hi, rfl, hbo⟩ := hrel
      have HBO : Hid (Below w2.heap.size w2 wo) := hbo
      clear hbo
      by_cases hilt : i < ws.length
      · go_wp2
        go_loopw [7] (fun kk wr => ∃ K : Nat, i < K ∧ K ≤ ws.length ∧ kk = .int .i64 K ∧ Below w2.heap.size w2 wr) (fun kk _ => ws.length - (intOf kk).toNat)
        case atStart => exact ⟨i + 1, by omega, by omega, by go_num, HBO.out⟩
        case round =>
          obtain ⟨k, hik, hk, rfl, hbi⟩ := hrel
          by_cases hklt : k < ws.length
          · have hne : ws ≠ [] := by intro e; rw [e] at hklt; simp at hklt
            have hne' : ents first ws ≠ [] := by intro e; have := ents_length first ws; rw [e] at this; simp at this; omega
            obtain ⟨b, off, rfl, hr⟩ := HW2.out.1 hne
            obtain ⟨b', off', eb, hre⟩ := HE2.out hne'
            cases eb
            obtain ⟨k1, d1, v1, hx1⟩ : ∃ kk dd vv, ws[i]? = some (kk, dd, vv) := ⟨_, _, _, List.getElem?_eq_getElem hilt⟩
            obtain ⟨k2, d2, v2, hx2⟩ : ∃ kk dd vv, ws[k]? = some (kk, dd, vv) := ⟨_, _, _, List.getElem?_eq_getElem hklt⟩
            have hr' := hr.below hbi hr.1
            have hre' := hre.below hbi hre.1
            have HST : Hid (wr.cell? ⟨b, off + i * 3, none⟩ = some (.string k1) ∧ wr.cell? ⟨b, off + k * 3, none⟩ = some (.string k2) ∧ wr.cell? ⟨w1.heap.size, i * 4, none⟩ = some (.string k1) ∧ wr.cell? ⟨w1.heap.size, i * 4 + 1, none⟩ = some (.int .u64 (seqAt first i)) ∧ wr.cell? ⟨w1.heap.size, i * 4 + 2, none⟩ = some (.bool d1) ∧ wr.cell? ⟨w1.heap.size, i * 4 + 3, none⟩ = some (.string (val d1 v1)) ∧ wr.cell? ⟨w1.heap.size, k * 4, none⟩ = some (.string k2) ∧ wr.cell? ⟨w1.heap.size, k * 4 + 1, none⟩ = some (.int .u64 (seqAt first k)) ∧ wr.cell? ⟨w1.heap.size, k * 4 + 2, none⟩ = some (.bool d2) ∧ wr.cell? ⟨w1.heap.size, k * 4 + 3, none⟩ = some (.string (val d2 v2)) ∧ b < wr.heap.size ∧ w1.heap.size < wr.heap.size ∧ Below w2.heap.size w2 wr) := by
              obtain ⟨a0, _, _⟩ := hr'.2 i _ hx1
              obtain ⟨a1, _, _⟩ := hr'.2 k _ hx2
              obtain ⟨a2, a3, a4, a5⟩ := hre'.2 i _ (ents_get hx1)
              obtain ⟨a6, a7, a8, a9⟩ := hre'.2 k _ (ents_get hx2)
              simp only [Nat.zero_add] at a2 a3 a4 a5 a6 a7 a8 a9
              exact ⟨a0, a1, a2, a3, a4, a5, a6, a7, a8, a9, hr'.1, hre'.1, hbi⟩
            clear hr hre hr' hre' hx1 hx2 hne hne'
            have q1 : (i : Int) < (ws.length : Int) := by omega
            have q2 : (k : Int) < (ws.length : Int) := by omega
            have q3 : (0 : Int) ≤ (i : Int) := by omega
            have q4 : (0 : Int) ≤ (k : Int) := by omega
            have HL : Hid (k1.toList = k2.toList → cmpE k2 k1 (seqAt first k) (seqAt first i) = -1) := fun e => later first i k hik hf0 (HSQ.out k hklt) k1 k2 e
            generalize seqAt first i = s1 at *
            generalize seqAt first k = s2 at *
            generalize val d1 v1 = v1 at *
            generalize val d2 v2 = v2 at *
            have HBI : Hid (Below w2.heap.size w2 wr) := hbi
            clear hbi hf1 hf2 gf
            cases hkeys : (k1.toList == k2.toList)
            · obtain ⟨c0, c1, _⟩ := HST.out
              go_wp2
              go_quiet (fail)
              go_wp2
              go_roundw
              case rel => exact ⟨k + 1, by omega, by omega, by go_num, below_drewN HBI.out _⟩
              case measure => simp [intOf]; omega
            · have hc : (cmpE k2 k1 s2 s1 != -1) = false := by rw [HL.out (by simpa using hkeys)]; rfl
              go_wp2
              go_region_held3 (fun w' => w'.cell? ⟨b, off + i * 3, none⟩ = some (.string k1) ∧ w'.cell? ⟨b, off + k * 3, none⟩ = some (.string k2) ∧ w'.cell? ⟨w1.heap.size, i * 4, none⟩ = some (.string k1) ∧ w'.cell? ⟨w1.heap.size, i * 4 + 1, none⟩ = some (.int .u64 s1) ∧ w'.cell? ⟨w1.heap.size, i * 4 + 2, none⟩ = some (.bool d1) ∧ w'.cell? ⟨w1.heap.size, i * 4 + 3, none⟩ = some (.string v1) ∧ w'.cell? ⟨w1.heap.size, k * 4, none⟩ = some (.string k2) ∧ w'.cell? ⟨w1.heap.size, k * 4 + 1, none⟩ = some (.int .u64 s2) ∧ w'.cell? ⟨w1.heap.size, k * 4 + 2, none⟩ = some (.bool d2) ∧ w'.cell? ⟨w1.heap.size, k * 4 + 3, none⟩ = some (.string v2) ∧ b < w'.heap.size ∧ w1.heap.size < w'.heap.size ∧ Below w2.heap.size w2 w') (first | exact keepL (by assumption) (by assumption) | exact startL HST.out)
                (first
                  | (go_at_call 7; refine (compare_any _ _ _ _ _ _ _ _ _).mono ?_; rintro e w' ⟨rfl, hb⟩))
              have HB3 : Hid (Below w2.heap.size w2 w') := lastL (by assumption)
              go_wp2
              go_roundw
              case rel => exact ⟨k + 1, by omega, by omega, by go_num, HB3.out⟩
              case measure => simp [intOf]; omega
          · go_wp2
            go_roundw
            case rel => exact ⟨i + 1, by omega, by go_num, hbi⟩
            case measure => simp [intOf]; omega
      · go_wp2
        go_ret
        exact ⟨rfl, HB2.out.trans (HBO.out.mono HB2.out.size)⟩
end KeyLater
end Go.Proofs.Ytkknpcpioodhaab
