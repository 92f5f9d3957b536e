import Derived.Test.YtkjddbplaicmjaaRq6
import Derived.Test.YtkjddbplaicmjaaRomN
namespace Go.Proofs.Ytkjddbplaicmjaa
namespace Rq
open Go.RowKit Laws Irw Crw Grp
set_option linter.unusedVariables false
set_option linter.unusedSimpArgs false
set_option maxRecDepth 100000
/-- What holdGroups reads. -/
theorem Ro.gr {w : World} {R : Nat} {vs fs : List Sv} {gs : List (List Wr)} {f : Option Addr} {d : Nat} (h : Ro w R vs fs gs f d) {k : Nat} (hk : k < 1) : ∃ a2 o2 c2 a3 o3 c3 b off, f = some ⟨b, off, none⟩ ∧ w.cell? ⟨R, 22, none⟩ = some (.slice (some ⟨a2, o2, none⟩) 1 c2) ∧ w.cell? ⟨a2, o2 + k, none⟩ = some (.slice (some ⟨b, off, none⟩) (gs.length + 40) d) ∧ w.cell? ⟨R, 23, none⟩ = some (.slice (some ⟨a3, o3, none⟩) 1 c3) ∧ w.cell? ⟨a3, o3 + k, none⟩ = some (.int .i64 (gs.length : Int)) ∧ a2 < w.heap.size ∧ a3 < w.heap.size := by
  obtain rfl : k = 0 := by omega
  obtain ⟨x2, c2, k2, i2⟩ := h.c22
  obtain ⟨x3, c3, k3, i3⟩ := h.c23
  obtain ⟨b, off, ef, rf⟩ := h.full.at_ (by rw [h.fl.ln]; omega)
  obtain ⟨a2, o2, e2, r2⟩ := i2.at_ (by simp)
  obtain ⟨a3, o3, e3, r3⟩ := i3.at_ (by simp)
  subst e2
  subst e3
  subst ef
  exact ⟨a2, o2, c2, a3, o3, c3, b, off, rfl, k2, r2.2 0 _ rfl 0 _ rfl, k3, r3.2 0 _ rfl, r2.1, r3.1⟩
theorem Ro.mark {w : World} {R : Nat} {vs fs : List Sv} {gs : List (List Wr)} {b off d : Nat} (h : Ro w R vs fs gs (some ⟨b, off, none⟩) d) {m : Nat} (hm : m < 40) : ∃ e c, w.cell? ⟨b, off + (gs.length + m), none⟩ = some (.slice (some ⟨e, 0, none⟩) 1 c) ∧ w.cell? ⟨e, 0, none⟩ = some (.string (wordB m)) ∧ w.cell? ⟨e, 1, none⟩ = some (.bool false) ∧ w.cell? ⟨e, 2, none⟩ = some (.string ⟨#[]⟩) := by
  have hlt : gs.length + m < fs.length := by rw [h.fl.ln]; omega
  have hv : fs[gs.length + m]? = some fs[gs.length + m] := List.getElem?_eq_getElem hlt
  have hg : (gs ++ (List.range 40).map mk1)[gs.length + m]? = some (mk1 m) := by
    rw [List.getElem?_append_right (by omega), Nat.add_sub_cancel_left]
    simp [hm]
  obtain ⟨q1, e, q2, _, q4⟩ := h.fl.ok _ _ _ hv hg
  obtain ⟨_, _, e2, r2⟩ := h.full.at_ (by omega)
  cases e2
  have hc := r2.2 _ _ hv 0 _ rfl
  rw [show off + (gs.length + m) * kS.size + 0 = off + (gs.length + m) by show off + (gs.length + m) * 1 + 0 = _; omega, q1, q2] at hc
  exact ⟨e, _, hc, q4.2 0 _ rfl 0 _ rfl, q4.2 0 _ rfl 1 _ rfl, q4.2 0 _ rfl 2 _ rfl⟩
set_option maxHeartbeats 2000000 in
theorem holdGroups_any (w : World) (R : Nat) (vs fs : List Sv) (gs : List (List Wr)) (f : Option Addr) (d : Nat) (h : Ro w R vs fs gs f d) (hl : gs.length ≤ 100000) :
    Calls Try.prog 36 #[.pointer (some ⟨R, 0, none⟩)] w fun e w' => e = .returned (.bool true) ∧ Below w.heap.size w w' := by
  have HR : Hid (Ro w R vs fs gs f d) := h
  obtain ⟨n, hN⟩ : ∃ N, N = gs.length := ⟨_, rfl⟩
  have HN : Hid (n = gs.length) := hN
  rw [← hN] at hl
  clear h hN
  go_enter Try.func36, Try.ntmps36
  go_wp2
  go_loopw [3] (fun i wr => ∃ k : Nat, k ≤ 1 ∧ i = .int .i64 (k : Int) ∧ Hid (Below w.heap.size w wr)) (fun i _ => 1 - (intOf i).toNat)
  case atStart => exact ⟨0, by omega, rfl, Below.refl _ _⟩
  case round =>
    obtain ⟨k, hk, rfl, HB⟩ := hrel
    have HRr : Hid (Ro wr R vs fs gs f d) := HR.out.below HB.out
    by_cases hlt : k < 1
    · obtain ⟨a2, o2, c2, a3, o3, c3, b, off, hf, k2, k22, k3, k33, l2, l3⟩ := HRr.out.gr (k := k) hlt
      subst hf
      rw [← HN.out] at k22 k33
      have q1 : (k : Int) < 1 := by omega
      have HX : Hid (wr.cell? ⟨R, 22, none⟩ = some (.slice (some ⟨a2, o2, none⟩) 1 c2) ∧ wr.cell? ⟨a2, o2 + k, none⟩ = some (.slice (some ⟨b, off, none⟩) (n + 40) d) ∧ R < wr.heap.size ∧ a2 < wr.heap.size) := ⟨k2, k22, HRr.out.lt, l2⟩
      go_wp2
      go_loopw [5] (fun i w2 => ∃ m : Nat, m ≤ 40 ∧ i = .int .i64 ((n + m : Nat) : Int) ∧ Hid (Below wr.heap.size wr w2)) (fun i _ => n + 40 - (intOf i).toNat)
      case atStart => exact ⟨0, by omega, rfl, Below.refl _ _⟩
      case round =>
        clear k2 k22 k3 k33
        obtain ⟨m, hm, rfl, HC⟩ := hrel
        rename World => w2
        have g9 : Goes (fun _ => False) T0 wr T0 w2 := Goes.below HC.out
        have k2 : w2.cell? ⟨R, 22, none⟩ = some (.slice (some ⟨a2, o2, none⟩) 1 c2) := (g9.cell HX.out.2.2.1 (fun z => z)).trans HX.out.1
        have k22 : w2.cell? ⟨a2, o2 + k, none⟩ = some (.slice (some ⟨b, off, none⟩) (n + 40) d) := (g9.cell HX.out.2.2.2 (fun z => z)).trans HX.out.2.1
        clear g9
        by_cases hlt2 : m < 40
        · obtain ⟨e, c, r9, r0, r1, r2⟩ := (HRr.out.below HC.out).mark hlt2
          rw [← HN.out] at r9
          have q2 : ((n + m : Nat) : Int) < ((n + 40 : Nat) : Int) := by omega
          go_upto_region 9 with (fail)
          go_quiet ((go_at_call 48; exact Calls.quiet_of_same (word_any _ m _ (by omega) (by omega))))
          go_wp2
          go_roundw
          case rel => exact ⟨m + 1, by omega, by go_num, below_drewN HC.out _⟩
          case measure => simp [intOf]; omega
        · go_wp2
          go_roundw
          case rel => exact ⟨k + 1, by omega, by go_num, HB.out.trans (HC.out.mono HB.out.size)⟩
          case measure => simp [intOf]; omega
    · obtain ⟨x2, c2, k2, _⟩ := HRr.out.c22
      go_wp2
      go_ret
      exact ⟨rfl, HB.out⟩
set_option maxHeartbeats 400000 in
theorem holdBytes_nil (R : Nat) (w : World) (h : w.cell? ⟨R, 0, none⟩ = some (.slice none 0 0)) :
    Calls Try.prog 25 #[.pointer (some ⟨R, 0, none⟩)] w fun e w' => e = .returned (.bool true) ∧ w' = w := by
  go_enter Try.func25, Try.ntmps25
  go_wp2
  refine wp_loop_rounds 1 ?_
  rw [rounds_succ]
  go_wp2
  go_ret
  exact ⟨rfl, rfl⟩
set_option maxHeartbeats 2000000 in
theorem hold_any (w : World) (R : Nat) (vs fs : List Sv) (gs : List (List Wr)) (f : Option Addr) (d : Nat) (h : Ro w R vs fs gs f d) (hl : gs.length ≤ 100000) (hw : ∀ ws ∈ gs, ws.length ≤ 100000) :
    Calls Try.prog 11 #[.pointer (some ⟨R, 0, none⟩)] w fun e w' => e = .returned (.bool true) ∧ Below w.heap.size w w' := by
  have HR : Hid (Ro w R vs fs gs f d) := h
  have HW : Hid (∀ ws ∈ gs, ws.length ≤ 100000) := hw
  clear h hw
  have n0 := HR.out.nil 0 (by omega) (by omega) (by omega) (by omega) (by omega)
  have n2 := HR.out.nil 2 (by omega) (by omega) (by omega) (by omega) (by omega)
  have n4 := HR.out.nil 4 (by omega) (by omega) (by omega) (by omega) (by omega)
  have n6 := HR.out.nil 6 (by omega) (by omega) (by omega) (by omega) (by omega)
  have n8 := HR.out.nil 8 (by omega) (by omega) (by omega) (by omega) (by omega)
  have n10 := HR.out.nil 10 (by omega) (by omega) (by omega) (by omega) (by omega)
  go_enter Try.func11, Try.ntmps11
  go_wp2_with (first | (go_at_call 25; refine (holdBytes_nil R _ n0).mono ?_; rintro e w9 ⟨rfl, hw⟩; have hw2 := hw.symm; clear hw; subst hw2) | (go_at_call 26; refine (Rom.holdInts_nil R _ n2).mono ?_; rintro e w9 ⟨rfl, hw⟩; have hw2 := hw.symm; clear hw; subst hw2) | (go_at_call 27; refine (Rom.holdNums_nil R _ n4).mono ?_; rintro e w9 ⟨rfl, hw⟩; have hw2 := hw.symm; clear hw; subst hw2) | (go_at_call 28; refine (Rom.holdTexts_nil R _ n6).mono ?_; rintro e w9 ⟨rfl, hw⟩; have hw2 := hw.symm; clear hw; subst hw2) | (go_at_call 29; refine (Rom.holdEntries_nil R _ n8).mono ?_; rintro e w9 ⟨rfl, hw⟩; have hw2 := hw.symm; clear hw; subst hw2) | (go_at_call 30; refine (Rom.holdPairs_nil R _ n10).mono ?_; rintro e w9 ⟨rfl, hw⟩; have hw2 := hw.symm; clear hw; subst hw2))
  refine (holdWrites_any w R vs fs gs f d HR.out hl HW.out).mono ?_
  rintro e w1 ⟨rfl, hb1⟩
  have HB1 : Hid (Below w.heap.size w w1) := hb1
  have HR1 : Hid (Ro w1 R vs fs gs f d) := HR.out.below hb1
  clear hb1 n0 n2 n4 n6 n8 n10
  have p14 := HR1.out.nil 14 (by omega) (by omega) (by omega) (by omega) (by omega)
  have p16 := HR1.out.nil 16 (by omega) (by omega) (by omega) (by omega) (by omega)
  have p18 := HR1.out.nil 18 (by omega) (by omega) (by omega) (by omega) (by omega)
  have p20 := HR1.out.nil 20 (by omega) (by omega) (by omega) (by omega) (by omega)
  go_wp2_with (first | (go_at_call 32; refine (Rom.holdTables_nil R _ p14).mono ?_; rintro e w9 ⟨rfl, hw⟩; have hw2 := hw.symm; clear hw; subst hw2) | (go_at_call 33; refine (Rom.holdPlaces_nil R _ p16).mono ?_; rintro e w9 ⟨rfl, hw⟩; have hw2 := hw.symm; clear hw; subst hw2) | (go_at_call 34; refine (Rom.holdPlaceds_nil R _ p18).mono ?_; rintro e w9 ⟨rfl, hw⟩; have hw2 := hw.symm; clear hw; subst hw2) | (go_at_call 35; refine (Rom.holdChunks_nil R _ p20).mono ?_; rintro e w9 ⟨rfl, hw⟩; have hw2 := hw.symm; clear hw; subst hw2))
  refine (holdGroups_any w1 R vs fs gs f d HR1.out hl).mono ?_
  rintro e w2 ⟨rfl, hb2⟩
  have HB2 : Hid (Below w.heap.size w w2) := HB1.out.trans (hb2.mono HB1.out.size)
  have HR2 : Hid (Ro w2 R vs fs gs f d) := HR1.out.below hb2
  clear hb2 p14 p16 p18 p20
  have q24 := HR2.out.nil 24 (by omega) (by omega) (by omega) (by omega) (by omega)
  have q26 := HR2.out.nil 26 (by omega) (by omega) (by omega) (by omega) (by omega)
  go_wp2_with (first | (go_at_call 37; refine (Rom.holdFiles_nil R _ q24).mono ?_; rintro e w9 ⟨rfl, hw⟩; have hw2 := hw.symm; clear hw; subst hw2) | (go_at_call 38; refine (Rom.holdSteps_nil R _ q26).mono ?_; rintro e w9 ⟨rfl, hw⟩; have hw2 := hw.symm; clear hw; subst hw2))
  go_ret
  exact ⟨rfl, HB2.out⟩
end Rq
end Go.Proofs.Ytkjddbplaicmjaa
