import Derived.Test.YtkjddbplaicmjaaRq5
namespace Go.Proofs.Ytkjddbplaicmjaa
namespace Rq
open Go.RowKit Laws Irw Crw Grp
set_option linter.unusedVariables false
set_option linter.unusedSimpArgs false
set_option maxRecDepth 100000
/-- What holdWrites reads of the k-th list. -/
theorem Ro.wr {w : World} {R : Nat} {vs fs : List Sv} {gs : List (List Wr)} {f : Option Addr} {d : Nat} (h : Ro w R vs fs gs f d) {k : Nat} (hk : k < gs.length) : ∃ a2 o2 c2 a3 o3 c3 b c n ws, gs[k]? = some ws ∧ n = ws.length ∧ w.cell? ⟨R, 12, none⟩ = some (.slice (some ⟨a2, o2, none⟩) gs.length c2) ∧ w.cell? ⟨a2, o2 + k, none⟩ = some (.slice (some ⟨b, 0, none⟩) (n + 4) c) ∧ w.cell? ⟨R, 13, none⟩ = some (.slice (some ⟨a3, o3, none⟩) gs.length c3) ∧ w.cell? ⟨a3, o3 + k, none⟩ = some (.int .i64 (n : Int)) ∧ KRow kW w b 0 (ws ++ marks 4) ∧ a2 < w.heap.size ∧ a3 < w.heap.size := by
  obtain ⟨x2, c2, k2, i2⟩ := h.c12
  obtain ⟨x3, c3, k3, i3⟩ := h.c13
  have hv : vs[k]? = some (vs[k]'(by rw [h.ln]; exact hk)) := List.getElem?_eq_getElem _
  have hg : gs[k]? = some gs[k] := List.getElem?_eq_getElem hk
  obtain ⟨q1, b, q2, _, q4⟩ := h.ok k _ _ hv hg
  obtain ⟨a2, o2, e2, r2⟩ := i2.at_ (by rw [h.ln]; omega)
  obtain ⟨a3, o3, e3, r3⟩ := i3.at_ (by rw [List.length_map]; omega)
  subst e2
  subst e3
  have hc := r2.2 k _ hv 0 _ rfl
  rw [show o2 + k * kS.size + 0 = o2 + k by show o2 + k * 1 + 0 = _; omega, q1, q2] at hc
  have hd := r3.2 k _ (by rw [List.getElem?_map, hg]; rfl)
  exact ⟨a2, o2, c2, a3, o3, c3, b, _, _, _, hg, rfl, k2, hc, k3, hd, q4, r2.1, r3.1⟩
theorem mark_row {w : World} {b n m : Nat} {ws : List Wr} (h : KRow kW w b 0 (ws ++ marks 4)) (hn : n = ws.length) (hm : m < 4) : w.cell? ⟨b, (n + m) * 3, none⟩ = some (.string (wordB m)) ∧ w.cell? ⟨b, (n + m) * 3 + 1, none⟩ = some (.bool false) ∧ w.cell? ⟨b, (n + m) * 3 + 2, none⟩ = some (.string ⟨#[]⟩) := by
  subst hn
  have hx : (ws ++ marks 4)[ws.length + m]? = some (wordB m, false, ⟨#[]⟩) := by
    rw [List.getElem?_append_right (by omega), Nat.add_sub_cancel_left]
    exact marks_get hm
  have e : ∀ j, 0 + (ws.length + m) * kW.size + j = (ws.length + m) * 3 + j := fun j => by show 0 + (ws.length + m) * 3 + j = _; omega
  have h0 := h.2 _ _ hx 0 _ rfl
  have h1 := h.2 _ _ hx 1 _ rfl
  have h2 := h.2 _ _ hx 2 _ rfl
  rw [e] at h0 h1 h2
  exact ⟨h0, h1, h2⟩
set_option maxHeartbeats 2000000 in
theorem holdWrites_any (w : World) (R : Nat) (vs fs : List Sv) (gs : List (List Wr)) (f : Option Addr) (d : Nat) (h : Ro w R vs fs gs f d) (hl : gs.length ≤ 100000) (hw : ∀ ws ∈ gs, ws.length ≤ 100000) :
    Calls Try.prog 31 #[.pointer (some ⟨R, 0, none⟩)] w fun e w' => e = .returned (.bool true) ∧ Below w.heap.size w w' := by
  have HR : Hid (Ro w R vs fs gs f d) := h
  have HW : Hid (∀ ws ∈ gs, ws.length ≤ 100000) := hw
  obtain ⟨N, hN⟩ : ∃ N, N = gs.length := ⟨_, rfl⟩
  have HN : Hid (N = gs.length) := hN
  rw [← hN] at hl
  clear h hw hN
  go_enter Try.func31, Try.ntmps31
  go_wp2
  go_loopw [3] (fun i wr => ∃ k : Nat, k ≤ N ∧ i = .int .i64 (k : Int) ∧ Hid (Below w.heap.size w wr)) (fun i _ => N - (intOf i).toNat)
  case atStart => exact ⟨0, by omega, rfl, Below.refl _ _⟩
  case round =>
    obtain ⟨k, hk, rfl, HB⟩ := hrel
    have HRr : Hid (Ro wr R vs fs gs f d) := HR.out.below HB.out
    by_cases hlt : k < N
    · obtain ⟨a2, o2, c2, a3, o3, c3, b, c, n, ws, hws, hn, k2, k22, k3, k33, hrow, l2, l3⟩ := HRr.out.wr (k := k) (by rw [← HN.out]; exact hlt)
      have hn1 : n ≤ 100000 := by rw [hn]; exact HW.out ws (List.mem_of_getElem? hws)
      have HK : Hid (n = ws.length ∧ gs[k]? = some ws) := ⟨hn, hws⟩
      rw [← HN.out] at k2 k3
      have q1 : (k : Int) < (N : Int) := by omega
      have HX : Hid (wr.cell? ⟨R, 12, none⟩ = some (.slice (some ⟨a2, o2, none⟩) N c2) ∧ wr.cell? ⟨a2, o2 + k, none⟩ = some (.slice (some ⟨b, 0, none⟩) (n + 4) c) ∧ KRow kW wr b 0 (ws ++ marks 4) ∧ R < wr.heap.size ∧ a2 < wr.heap.size) := ⟨k2, k22, hrow, HRr.out.lt, l2⟩
      clear hn hws hrow
      go_wp2
      go_loopw [5] (fun i w2 => ∃ m : Nat, m ≤ 4 ∧ i = .int .i64 ((n + m : Nat) : Int) ∧ Hid (Below wr.heap.size wr w2)) (fun i _ => n + 4 - (intOf i).toNat)
      case atStart => exact ⟨0, by omega, rfl, Below.refl _ _⟩
      case round =>
        clear k2 k22 k3 k33
        obtain ⟨m, hm, rfl, HC⟩ := hrel
        rename World => w2
        have g9 : Goes (fun _ => False) T0 wr T0 w2 := Goes.below HC.out
        have k2 : w2.cell? ⟨R, 12, none⟩ = some (.slice (some ⟨a2, o2, none⟩) N c2) := (g9.cell HX.out.2.2.2.1 (fun z => z)).trans HX.out.1
        have k22 : w2.cell? ⟨a2, o2 + k, none⟩ = some (.slice (some ⟨b, 0, none⟩) (n + 4) c) := (g9.cell HX.out.2.2.2.2 (fun z => z)).trans HX.out.2.1
        clear g9
        by_cases hlt2 : m < 4
        · have hrow2 : KRow kW w2 b 0 (ws ++ marks 4) := HX.out.2.2.1.keep (HC.out.block b HX.out.2.2.1.1) HC.out.size
          obtain ⟨r0, r1, r2⟩ := mark_row hrow2 HK.out.1 hlt2
          clear hrow2
          have q2 : ((n + m : Nat) : Int) < ((n + 4 : Nat) : Int) := by omega
          go_upto_region 9 with (fail)
          go_quiet ((go_at_call 48; exact Calls.quiet_of_same (word_any _ m _ (by omega) (by omega))))
          go_wp2
          go_roundw
          case rel => exact ⟨m + 1, by omega, by go_num, below_drewN (HC.out.trans (((Below.refl _ _).alloc (Nat.le_refl _) _).mono HC.out.size)) _⟩
          case measure => simp [intOf]; omega
        · go_wp2
          go_roundw
          case rel => exact ⟨k + 1, by omega, by go_num, HB.out.trans (HC.out.mono HB.out.size)⟩
          case measure => simp [intOf]; omega
    · obtain ⟨x2, c2, k2, _⟩ := HRr.out.c12
      rw [← HN.out] at k2
      go_wp2
      go_ret
      exact ⟨rfl, HB.out⟩
end Rq
end Go.Proofs.Ytkjddbplaicmjaa
