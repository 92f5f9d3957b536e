import Derived.Test.YtanpbknjnpmmnaaRc4
import Derived.Test.YtanpbknjnpmmnaaRomN
import Derived.Test.YtanpbknjnpmmnaaMs3
namespace Go.Proofs.Ytanpbknjnpmmnaa
namespace Rqc
open Go.RowKit Laws Irw Crw Byt
open Rom (mark_lt lotN lot_byte lot_any)
set_option linter.unusedVariables false
set_option linter.unusedSimpArgs false
set_option maxRecDepth 400000
/-- What layChunks leaves. -/
def LgIs (w0 : World) (R : Nat) (gs : List (List Wr)) (n : Nat) (e : Ending) (w' : World) : Prop :=
  ∃ b d vs fs, e = .returned (.slice (some ⟨b, 0, none⟩) n (n + 40)) ∧ Ro w' R vs fs gs (some ⟨b, 0, none⟩) d ∧ Below w0.heap.size w0 w' ∧ ∀ v ∈ fs, w0.heap.size ≤ blk v
set_option maxHeartbeats 2000000 in
theorem layChunks_any (T : Nat → Nat) (w0 w : World) (R : Nat) (a : Option Addr) (cap n : Nat) (gs : List (List Wr)) (h : Rm T w R [] []) (hz : ∀ b, w.heap.size ≤ b → T b = 0) (h0 : ∀ b, b < w0.heap.size → T b = 0) (hb : Below w0.heap.size w0 w) (hn : n = gs.length) (hi : GZ w0 a gs) (hl : n ≤ 400000) (hw : ∀ ws ∈ gs, ws.length ≤ 400000) :
    Calls Try.prog 14 #[.pointer (some ⟨R, 0, none⟩), .slice a n cap, .int .i64 40] w fun e w' => LgIs w0 R gs n e w' := by
  obtain ⟨iG, hiG, hz0, hz1, hz2⟩ := info_parts infoG'
  obtain ⟨iS, hiS, hy0, hy1, hy2⟩ := info_parts infoS
  obtain ⟨iI, hiI, hx0, hx1, hx2⟩ := info_parts infoI
  have HS : Hid (Lg w0 R [] [] [] 0 (.slice (some ⟨w.heap.size, 0, none⟩) 0 0) (Irw.upd T w.heap.size 4) (w.alloc (.cells #[] 24))) := Lg.start (u := 0) h hz h0 hb
  have HN : Hid (n = gs.length) := hn
  have HI : Hid (GZ w0 a gs) := hi
  have HW : Hid (∀ ws ∈ gs, ws.length ≤ 400000) := hw
  clear h hz h0 hb hn hi hw
  go_enter Try.func14, Try.ntmps14
  go_wp2
  go_loopw [7, 8] (fun v i wr => ∃ (k : Nat) (aa : Option Addr) (cc : Nat), k ≤ n ∧ i = .int .i64 (k : Int) ∧ v = .slice aa k cc ∧ Hid (∃ vs fs T, Lg w0 R vs fs (gs.take k) 0 (.slice aa k cc) T wr)) (fun _ i _ => n - (intOf i).toNat)
  case atStart => exact ⟨0, _, _, by omega, rfl, rfl, ⟨[], [], _, HS.out⟩⟩
  case round =>
    clear HS
    obtain ⟨k, aa, cc, hk, rfl, rfl, HK⟩ := hrel
    obtain ⟨vs, fs, T1, hlg⟩ := HK.out
    by_cases hlt : k < n
    · have q1 : (k : Int) < (n : Int) := by omega
      obtain ⟨ab, ao, ad, c, ws, ha, hws, hab, hcell, hwr, hc0⟩ := (HI.out.below hlg.bl).rd (k := k) (by rw [← HN.out]; exact hlt)
      subst ha
      obtain ⟨m, hm⟩ : ∃ m, m = ws.length := ⟨_, rfl⟩
      rw [← hm] at hcell
      have hm1 : m ≤ 400000 := by rw [hm]; exact HW.out ws (List.mem_of_getElem? hws)
      have htk : gs.take (k + 1) = gs.take k ++ [ws] := by rw [List.take_add_one, hws]; rfl
      have hlk : (gs.take k).length = k := by rw [List.length_take]; have := HN.out; omega
      have hfl : fs.length = k := by have := hlg.fl.ln; omega
      have HL : Hid (Lg w0 R vs fs (gs.take k) 0 (.slice aa k cc) T1 wr ∧ m = ws.length ∧ IsB wr ad ws ∧ (ad = none → c = 0) ∧ m ≤ 400000 ∧ gs.take (k + 1) = gs.take k ++ [ws] ∧ (gs.take k).length = k ∧ fs.length = k) := ⟨hlg, hm, hwr, hc0, hm1, htk, hlk, hfl⟩
      clear hlg hm hwr hc0 hm1 htk hlk hfl HK hws
      go_wp2_with (first
        | (go_at_call 36; go_loud (refine (layBytes_any T1 wr R vs (gs.take k) ad c m ws HL.out.1.rm HL.out.1.hi HL.out.2.1 HL.out.2.2.2.1 HL.out.2.2.1 HL.out.2.2.2.2.1 (by rw [HL.out.1.rm.ln, HL.out.2.2.2.2.2.2.1]; omega)).mono ?_; rintro e w2 ⟨b2, c2, T2, rfl, hr2, hg2, hb2⟩; have H2 : Hid (Rm T2 w2 R (vs ++ [(some ⟨b2, 0, none⟩, m + 4, c2)]) (gs.take k ++ [ws]) ∧ Goes u3 T1 wr T2 w2 ∧ wr.heap.size ≤ b2) := ⟨hr2, hg2, hb2⟩; clear hr2 hg2 hb2))
        | (at_builtin; go_loud (refine wpList_appK kS _ (by rfl) (.tmp 17) (.tmp 24) 22 (by rfl) iS undG hiS hy0 hy1 hy2 4 T2 (.slice aa k cc) fs (by rfl) ((HL.out.1.ow.goes H2.out.2.1 (by unfold u3; omega)).below ((Below.refl _ _).alloc (Nat.le_refl _) _)) (some ⟨w2.heap.size, 0, none⟩) 1 1 [(some ⟨b2, 0, none⟩, m, m + 4)] (by rfl) (by rfl) (by simp) (isS_one (v := (some ⟨b2, 0, none⟩, m, m + 4)) rfl) (by have := HL.out.2.2.2.2.2.2.2; rw [this]; simp; omega) ?_; intro a3 c3 T3 w3 hown3 hgo3; have H3 : Hid (∃ vs fs T, Lg w0 R vs fs (gs.take (k + 1)) 0 (.slice a3 (k + 1) c3) T w3) := (by have h9 := HL.out.1.lay H2.out.2.2 HL.out.2.1 H2.out.1 H2.out.2.1 ((Goes.below ((Below.refl _ _).alloc (Nat.le_refl _) _)).trans hgo3) hown3; rw [HL.out.2.2.2.2.2.2.2, ← HL.out.2.2.2.2.2.1] at h9; exact ⟨_, _, _, h9⟩); clear hown3 hgo3; rw [HL.out.2.2.2.2.2.2.2]; simp only [List.length_cons, List.length_nil, Nat.zero_add])))
      go_roundw
      case rel => exact ⟨k + 1, a3, c3, by omega, by go_num, rfl, H3⟩
      case measure => simp [intOf]; omega
    · obtain rfl : k = n := by omega
      have H1 : Hid (Lg w0 R vs fs gs 0 (.slice aa k cc) T1 wr) := by
        rw [List.take_of_length_le (by rw [← HN.out]; omega)] at hlg
        exact hlg
      clear hlg HK
      go_wp2
      go_loopw [7, 9] (fun v i wr => ∃ (j : Nat) (aa : Option Addr) (cc : Nat), j ≤ 40 ∧ i = .int .i64 (j : Int) ∧ v = .slice aa (k + j) cc ∧ Hid (∃ vs fs T, Lg w0 R vs fs gs j (.slice aa (k + j) cc) T wr)) (fun _ i _ => 40 - (intOf i).toNat)
      case atStart => exact ⟨0, _, _, by omega, rfl, rfl, ⟨_, _, _, H1.out⟩⟩
      case round =>
        clear H1
        obtain ⟨j, aa, cc, hj, rfl, rfl, HK⟩ := hrel
        obtain ⟨vs, fs, T1, hlg⟩ := HK.out
        by_cases hlt : j < 40
        · have q1 : (j : Int) < 40 := by omega
          have hfl : fs.length = k + j := by have := hlg.fl.ln; have := HN.out; omega
          have HL : Hid (Lg w0 R vs fs gs j (.slice aa (k + j) cc) T1 wr ∧ fs.length = k + j) := ⟨hlg, hfl⟩
          clear hlg hfl HK
          go_wp2_with (first
            | (go_at_call 37; go_loud (refine (lot_any _ j _ rfl (by omega)).mono ?_; rintro e w' ⟨rfl, hw⟩; have hw2 := hw.symm; clear hw; subst hw2))
            | (at_builtin; go_loud (refine wpList_appK kS _ (by rfl) (.tmp 31) (.tmp 36) 22 (by rfl) iS undG hiS hy0 hy1 hy2 4 T1 (.slice aa (k + j) cc) fs (by rfl) (HL.out.1.ow.below (((Below.refl _ _).alloc (Nat.le_refl _) _).alloc (by simp) _)) (some ⟨wr.heap.size + 1, 0, none⟩) 1 1 [(some ⟨wr.heap.size, 0, none⟩, 1, 1)] (by rfl) (by rfl) (by simp) (isS_one (v := (some ⟨wr.heap.size, 0, none⟩, 1, 1)) (by simp)) (by have := HL.out.2; rw [this]; simp; omega) ?_; intro a3 c3 T3 w3 hown3 hgo3; have H3 : Hid (∃ vs fs T, Lg w0 R vs fs gs (j + 1) (.slice a3 (k + (j + 1)) c3) T w3) := (by have h9 := HL.out.1.mark (((Below.refl _ _).alloc (Nat.le_refl _) _).alloc (by simp) _) (Nat.le_refl _) (by have z := (isK_one (x := Rom.mark j) (z := lotN j % 256) (u := 5) (w := wr) rfl (Rom.lot_byte j)).below ((Below.refl _ _).alloc (Nat.le_refl _) (.cells #[.slice (some ⟨wr.heap.size, 0, none⟩) 1 1] 24)); obtain ⟨b9, o9, e9, r9⟩ := z (by simp); cases e9; exact r9) (fun j => (World.frozen?_of_block (a := ⟨wr.heap.size, j, none⟩) (((Below.refl _ _).alloc (Nat.le_refl _) _).block wr.heap.size (by simp))).trans (World.frozen?_alloc_at _ _ _ _ rfl)) hgo3 hown3; rw [HL.out.2] at h9; exact ⟨_, _, _, h9⟩); clear hown3 hgo3; rw [HL.out.2]; simp only [List.length_cons, List.length_nil, Nat.zero_add])))
          go_roundw
          case rel => exact ⟨j + 1, a3, c3, by omega, by go_num, by rw [Nat.add_assoc], H3⟩
          case measure => simp [intOf]; omega
        · obtain rfl : j = 40 := by omega
          have HL : Hid (Lg w0 R vs fs gs 40 (.slice aa (k + 40) cc) T1 wr) := hlg
          have k2 := hlg.rm.nil 20 (by omega) (by omega) (by omega)
          have k3 := hlg.rm.nil 21 (by omega) (by omega) (by omega)
          have f2 := hlg.rm.fz 20
          have f3 := hlg.rm.fz 21
          have hRlt := hlg.rm.lt
          have hcc : k + 40 ≤ cc := by
            obtain ⟨_, _, e, _, hle, _⟩ := hlg.ow.form
            have hf := hlg.fl.ln
            injection e with e1 e2 e3
            omega
          have haa : ∃ b, aa = some ⟨b, 0, none⟩ := by
            rcases hlg.ow.1.2 with ⟨z1, z2⟩ | ⟨g, cap9, cur, hv, _⟩
            · have hf := hlg.fl.ln
              omega
            · injection hv with hv1
              exact ⟨g, hv1⟩
          obtain ⟨b, rfl⟩ := haa
          have HT1 : Hid (T1 R = 1 ∧ R < wr.heap.size) := ⟨hlg.rm.tag, hlg.rm.lt⟩
          have hci : (k : Int) + 40 ≤ (cc : Int) := by omega
          have hn4 : (k : Int) ≤ (k : Int) + 40 := by omega
          clear hlg HK
          go_upto_region 10 with (fail)
          go_wp2_with (first
            | (at_builtin; go_loud (refine wpList_appK kG _ (by rfl) (.tmp 42) (.tmp 44) 36 (by rfl) iG undGG hiG hz0 hz1 hz2 5 T1 (.slice none 0 0) [] (by rfl) (OwnK.empty _ _ _) (some ⟨wr.heap.size, 0, none⟩) 1 1 [(some ⟨b, 0, none⟩, k + 40, cc)] (by rfl) (by rfl) (by simp) (isG_one (v := (some ⟨b, 0, none⟩, k + 40, cc)) rfl) (by simp) ?_; intro a4 c4 T4 w4 hown4 hgo4; have hg4 : Goes (· = 5) T1 wr T4 w4 := (Goes.below ((Below.refl _ _).alloc (Nat.le_refl _) _)).trans hgo4; have HG4 : Hid (OwnK kG 5 T4 w4 (.slice a4 1 c4) [(some ⟨b, 0, none⟩, k + 40, cc)] ∧ Goes (· = 5) T1 wr T4 w4) := ⟨hown4, hg4⟩; have m2 := (hg4.cell HT1.out.2 (by rw [HT1.out.1]; omega)).trans k2; have m3 := (hg4.cell HT1.out.2 (by rw [HT1.out.1]; omega)).trans k3; have n2 : w4.frozen? ⟨R, 20, none⟩ = false := (World.frozen?_of_block (a := ⟨R, 20, none⟩) (hg4.block R HT1.out.2 (by rw [HT1.out.1]; omega))).trans f2; have n3 : w4.frozen? ⟨R, 21, none⟩ = false := (World.frozen?_of_block (a := ⟨R, 21, none⟩) (hg4.block R HT1.out.2 (by rw [HT1.out.1]; omega))).trans f3; simp only [List.length_cons, List.length_nil, Nat.zero_add]; clear hown4 hgo4 hg4 k2 k3 f2 f3))
            | (at_builtin; go_loud (refine wpList_appL _ (by rfl) (.tmp 52) (.tmp 55) 26 (by rfl) iI Try.underlying26 hiI hx0 hx1 hx2 6 T4 (.slice none 0 0) [] (by rfl) (OwnL.nil _ _ _) (some ⟨w4.heap.size, 0, none⟩) 1 1 [(k : Int)] (by rfl) (by rfl) (by simp) (isI_one (by simp)) (by simp) ?_; intro a5 c5 T5 w5 hown5 hgo5 _; have hg5 : Goes (· = 6) T4 (w4.setCell ⟨R, 20, none⟩ (.slice a4 1 c4)) T5 w5 := (Goes.below ((Below.refl _ _).alloc (Nat.le_refl _) _)).trans hgo5; have HF : Hid (Ro (w5.setCell ⟨R, 21, none⟩ (.slice a5 1 c5)) R vs fs gs (some ⟨b, 0, none⟩) cc ∧ Below w0.heap.size w0 (w5.setCell ⟨R, 21, none⟩ (.slice a5 1 c5))) := (by have h9 := HL.out.done HN.out HG4.out.2 HG4.out.1 hg5 hown5; exact ⟨h9.1, h9.2.1⟩); have hR4 : R < (w4.setCell ⟨R, 20, none⟩ (.slice a4 1 c4)).heap.size := (by have := HT1.out.2; have := HG4.out.2.size; simp; omega); have hT4 : ¬ T4 R = 6 := (by rw [(HG4.out.2.tag R HT1.out.2 (by rw [HT1.out.1]; omega)).trans HT1.out.1]; omega); have m5 : w5.cell? ⟨R, 21, none⟩ = some (.slice none 0 0) := (hg5.cell hR4 hT4).trans ((World.cell?_setCell_other _ _ _ _ (by intro z; cases z)).trans m3); have n5 : w5.frozen? ⟨R, 21, none⟩ = false := (World.frozen?_of_block (a := ⟨R, 21, none⟩) (hg5.block R hR4 hT4)).trans (by rw [World.frozen?_setCell]; exact n3); simp only [List.length_cons, List.length_nil, Nat.zero_add]; clear hown5 hgo5 hg5 hR4 hT4 m2 m3 n2 n3)))
          go_ret
          exact ⟨b, cc, vs, fs, rfl, HF.out.1, HF.out.2, HL.out.lo⟩
end Rqc
end Go.Proofs.Ytanpbknjnpmmnaa
namespace Go.Proofs.Ytanpbknjnpmmnaa
namespace Rqc
open Go.RowKit Laws Irw Crw Byt
open Rom (mark_lt lotN lot_byte lot_any)
set_option linter.unusedVariables false
set_option linter.unusedSimpArgs false
set_option maxRecDepth 400000
/-- What holdBytes reads of the k-th list. -/
theorem Ro.wr {w : World} {R : Nat} {vs fs : List Sv} {gs : List (List Wr)} {f : Option Addr} {d : Nat} (h : Ro w R vs fs gs f d) {k : Nat} (hk : k < gs.length) : ∃ a2 o2 c2 a3 o3 c3 b c n ws, gs[k]? = some ws ∧ n = ws.length ∧ w.cell? ⟨R, 0, none⟩ = some (.slice (some ⟨a2, o2, none⟩) gs.length c2) ∧ w.cell? ⟨a2, o2 + k, none⟩ = some (.slice (some ⟨b, 0, none⟩) (n + 4) c) ∧ w.cell? ⟨R, 1, none⟩ = some (.slice (some ⟨a3, o3, none⟩) gs.length c3) ∧ w.cell? ⟨a3, o3 + k, none⟩ = some (.int .i64 (n : Int)) ∧ KRow kY w b 0 (ws ++ marks 4) ∧ a2 < w.heap.size ∧ a3 < w.heap.size := by
  obtain ⟨x2, c2, k2, i2⟩ := h.c0
  obtain ⟨x3, c3, k3, i3⟩ := h.c1
  have hv : vs[k]? = some (vs[k]'(by rw [h.ln]; exact hk)) := List.getElem?_eq_getElem _
  have hg : gs[k]? = some gs[k] := List.getElem?_eq_getElem hk
  obtain ⟨q1, b, q2, _, q4, _⟩ := h.ok k _ _ hv hg
  obtain ⟨a2, o2, e2, r2⟩ := i2.at_ (by rw [h.ln]; omega)
  obtain ⟨a3, o3, e3, r3⟩ := i3.at_ (by rw [List.length_map]; omega)
  subst e2
  subst e3
  have hc := r2.2 k _ hv 0 _ rfl
  rw [show o2 + k * kS.size + 0 = o2 + k by show o2 + k * 1 + 0 = _; omega, q1, q2] at hc
  have hd := r3.2 k _ (by rw [List.getElem?_map, hg]; rfl)
  exact ⟨a2, o2, c2, a3, o3, c3, b, _, _, _, hg, rfl, k2, hc, k3, hd, q4, r2.1, r3.1⟩
theorem mark_row {w : World} {b n m : Nat} {ws : List Wr} (h : KRow kY w b 0 (ws ++ marks 4)) (hn : n = ws.length) (hm : m < 4) : w.cell? ⟨b, n + m, none⟩ = some (.int .u8 (Rom.mark m : Int)) := by
  subst hn
  have hx : (ws ++ marks 4)[ws.length + m]? = some (Rom.mark m) := by
    rw [List.getElem?_append_right (by omega), Nat.add_sub_cancel_left]
    exact marks_get hm
  have h0 := h.2 _ _ hx 0 _ rfl
  rw [show 0 + (ws.length + m) * kY.size + 0 = ws.length + m by show 0 + (ws.length + m) * 1 + 0 = _; omega] at h0
  exact h0
set_option maxHeartbeats 2000000 in
theorem holdBytes_any (w : World) (R : Nat) (vs fs : List Sv) (gs : List (List Wr)) (f : Option Addr) (d : Nat) (h : Ro w R vs fs gs f d) (hl : gs.length ≤ 400000) (hw : ∀ ws ∈ gs, ws.length ≤ 400000) :
    Calls Try.prog 21 #[.pointer (some ⟨R, 0, none⟩)] w fun e w' => e = .returned (.bool true) ∧ Below w.heap.size w w' := by
  have HR : Hid (Ro w R vs fs gs f d) := h
  have HW : Hid (∀ ws ∈ gs, ws.length ≤ 400000) := hw
  obtain ⟨N, hN⟩ : ∃ N, N = gs.length := ⟨_, rfl⟩
  have HN : Hid (N = gs.length) := hN
  rw [← hN] at hl
  clear h hw hN
  go_enter Try.func21, Try.ntmps21
  go_wp2
  go_loopw [3] (fun i wr => ∃ k : Nat, k ≤ N ∧ i = .int .i64 (k : Int) ∧ Hid (Below w.heap.size w wr)) (fun i _ => N - (intOf i).toNat)
  case atStart => exact ⟨0, by omega, rfl, Below.refl _ _⟩
  case round =>
    obtain ⟨k, hk, rfl, HB⟩ := hrel
    have HRr : Hid (Ro wr R vs fs gs f d) := HR.out.below HB.out
    by_cases hlt : k < N
    · obtain ⟨a2, o2, c2, a3, o3, c3, b, c, n, ws, hws, hn, k2, k22, k3, k33, hrow, l2, l3⟩ := HRr.out.wr (k := k) (by rw [← HN.out]; exact hlt)
      have hn1 : n ≤ 400000 := by rw [hn]; exact HW.out ws (List.mem_of_getElem? hws)
      have HK : Hid (n = ws.length ∧ gs[k]? = some ws) := ⟨hn, hws⟩
      rw [← HN.out] at k2 k3
      have q1 : (k : Int) < (N : Int) := by omega
      have HX : Hid (wr.cell? ⟨R, 0, none⟩ = some (.slice (some ⟨a2, o2, none⟩) N c2) ∧ wr.cell? ⟨a2, o2 + k, none⟩ = some (.slice (some ⟨b, 0, none⟩) (n + 4) c) ∧ KRow kY wr b 0 (ws ++ marks 4) ∧ R < wr.heap.size ∧ a2 < wr.heap.size) := ⟨k2, k22, hrow, HRr.out.lt, l2⟩
      clear hn hws hrow
      go_wp2
      go_loopw [5] (fun i w2 => ∃ m : Nat, m ≤ 4 ∧ i = .int .i64 ((n + m : Nat) : Int) ∧ Hid (Below wr.heap.size wr w2)) (fun i _ => n + 4 - (intOf i).toNat)
      case atStart => exact ⟨0, by omega, rfl, Below.refl _ _⟩
      case round =>
        clear k2 k22 k3 k33
        obtain ⟨m, hm, rfl, HC⟩ := hrel
        rename World => w2
        have g9 : Goes (fun _ => False) T0 wr T0 w2 := Goes.below HC.out
        have k2 : w2.cell? ⟨R, 0, none⟩ = some (.slice (some ⟨a2, o2, none⟩) N c2) := (g9.cell HX.out.2.2.2.1 (fun z => z)).trans HX.out.1
        have k22 : w2.cell? ⟨a2, o2 + k, none⟩ = some (.slice (some ⟨b, 0, none⟩) (n + 4) c) := (g9.cell HX.out.2.2.2.2 (fun z => z)).trans HX.out.2.1
        clear g9
        by_cases hlt2 : m < 4
        · have hrow2 : KRow kY w2 b 0 (ws ++ marks 4) := HX.out.2.2.1.keep (HC.out.block b HX.out.2.2.1.1) HC.out.size
          have r0 := mark_row hrow2 HK.out.1 hlt2
          clear hrow2
          have q2 : ((n + m : Nat) : Int) < ((n + 4 : Nat) : Int) := by omega
          have hmk : (((Rom.mark m : Nat) : Int) != lotN m % 256) = false := by rw [Rom.lot_byte]; simp
          go_wp2_with (go_at_call 37; refine (lot_any _ m _ (by omega) (by omega)).mono ?_; rintro e w' ⟨rfl, hw⟩; have hw2 := hw.symm; clear hw; subst hw2)
          go_roundw
          case rel => exact ⟨m + 1, by omega, by go_num, HC.out⟩
          case measure => simp [intOf]; omega
        · go_wp2
          go_roundw
          case rel => exact ⟨k + 1, by omega, by go_num, HB.out.trans (HC.out.mono HB.out.size)⟩
          case measure => simp [intOf]; omega
    · obtain ⟨x2, c2, k2, _⟩ := HRr.out.c0
      rw [← HN.out] at k2
      go_wp2
      go_ret
      exact ⟨rfl, HB.out⟩
end Rqc
end Go.Proofs.Ytanpbknjnpmmnaa
namespace Go.Proofs.Ytanpbknjnpmmnaa
namespace Rqc
open Go.RowKit Laws Irw Crw Byt
open Rom (mark_lt lotN lot_byte lot_any)
set_option linter.unusedVariables false
set_option linter.unusedSimpArgs false
set_option maxRecDepth 400000
/-- What holdChunks reads. -/
theorem Ro.gr {w : World} {R : Nat} {vs fs : List Sv} {gs : List (List Wr)} {f : Option Addr} {d : Nat} (h : Ro w R vs fs gs f d) {k : Nat} (hk : k < 1) : ∃ a2 o2 c2 a3 o3 c3 b off, f = some ⟨b, off, none⟩ ∧ w.cell? ⟨R, 20, none⟩ = some (.slice (some ⟨a2, o2, none⟩) 1 c2) ∧ w.cell? ⟨a2, o2 + k, none⟩ = some (.slice (some ⟨b, off, none⟩) (gs.length + 40) d) ∧ w.cell? ⟨R, 21, none⟩ = some (.slice (some ⟨a3, o3, none⟩) 1 c3) ∧ w.cell? ⟨a3, o3 + k, none⟩ = some (.int .i64 (gs.length : Int)) ∧ a2 < w.heap.size ∧ a3 < w.heap.size := by
  obtain rfl : k = 0 := by omega
  obtain ⟨x2, c2, k2, i2⟩ := h.c20
  obtain ⟨x3, c3, k3, i3⟩ := h.c21
  obtain ⟨b, off, ef, rf⟩ := h.full.at_ (by rw [h.fl.ln]; omega)
  obtain ⟨a2, o2, e2, r2⟩ := i2.at_ (by simp)
  obtain ⟨a3, o3, e3, r3⟩ := i3.at_ (by simp)
  subst e2
  subst e3
  subst ef
  exact ⟨a2, o2, c2, a3, o3, c3, b, off, rfl, k2, r2.2 0 _ rfl 0 _ rfl, k3, r3.2 0 _ rfl, r2.1, r3.1⟩
theorem Ro.mark {w : World} {R : Nat} {vs fs : List Sv} {gs : List (List Wr)} {b off d : Nat} (h : Ro w R vs fs gs (some ⟨b, off, none⟩) d) {m : Nat} (hm : m < 40) : ∃ e c, w.cell? ⟨b, off + (gs.length + m), none⟩ = some (.slice (some ⟨e, 0, none⟩) 1 c) ∧ w.cell? ⟨e, 0, none⟩ = some (.int .u8 (Rom.mark m : Int)) := by
  have hlt : gs.length + m < fs.length := by rw [h.fl.ln]; omega
  have hv : fs[gs.length + m]? = some fs[gs.length + m] := List.getElem?_eq_getElem hlt
  have hg : (gs ++ (List.range 40).map mk1)[gs.length + m]? = some (mk1 m) := by
    rw [List.getElem?_append_right (by omega), Nat.add_sub_cancel_left]
    simp [hm]
  obtain ⟨q1, _, e, q2, _, q4, _⟩ := h.fl.ok _ _ _ hv hg
  obtain ⟨_, _, e2, r2⟩ := h.full.at_ (by omega)
  cases e2
  have hc := r2.2 _ _ hv 0 _ rfl
  rw [show off + (gs.length + m) * kS.size + 0 = off + (gs.length + m) by show off + (gs.length + m) * 1 + 0 = _; omega, q1, q2] at hc
  exact ⟨e, _, hc, q4.2 0 _ rfl 0 _ rfl⟩
set_option maxHeartbeats 2000000 in
theorem holdChunks_any (w : World) (R : Nat) (vs fs : List Sv) (gs : List (List Wr)) (f : Option Addr) (d : Nat) (h : Ro w R vs fs gs f d) (hl : gs.length ≤ 400000) :
    Calls Try.prog 31 #[.pointer (some ⟨R, 0, none⟩)] w fun e w' => e = .returned (.bool true) ∧ Below w.heap.size w w' := by
  have HR : Hid (Ro w R vs fs gs f d) := h
  obtain ⟨n, hN⟩ : ∃ N, N = gs.length := ⟨_, rfl⟩
  have HN : Hid (n = gs.length) := hN
  rw [← hN] at hl
  clear h hN
  go_enter Try.func31, Try.ntmps31
  go_wp2
  go_loopw [3] (fun i wr => ∃ k : Nat, k ≤ 1 ∧ i = .int .i64 (k : Int) ∧ Hid (Below w.heap.size w wr)) (fun i _ => 1 - (intOf i).toNat)
  case atStart => exact ⟨0, by omega, rfl, Below.refl _ _⟩
  case round =>
    obtain ⟨k, hk, rfl, HB⟩ := hrel
    have HRr : Hid (Ro wr R vs fs gs f d) := HR.out.below HB.out
    by_cases hlt : k < 1
    · obtain ⟨a2, o2, c2, a3, o3, c3, b, off, hf, k2, k22, k3, k33, l2, l3⟩ := HRr.out.gr (k := k) hlt
      subst hf
      rw [← HN.out] at k22 k33
      have q1 : (k : Int) < 1 := by omega
      have HX : Hid (wr.cell? ⟨R, 20, none⟩ = some (.slice (some ⟨a2, o2, none⟩) 1 c2) ∧ wr.cell? ⟨a2, o2 + k, none⟩ = some (.slice (some ⟨b, off, none⟩) (n + 40) d) ∧ R < wr.heap.size ∧ a2 < wr.heap.size) := ⟨k2, k22, HRr.out.lt, l2⟩
      go_wp2
      go_loopw [5] (fun i w2 => ∃ m : Nat, m ≤ 40 ∧ i = .int .i64 ((n + m : Nat) : Int) ∧ Hid (Below wr.heap.size wr w2)) (fun i _ => n + 40 - (intOf i).toNat)
      case atStart => exact ⟨0, by omega, rfl, Below.refl _ _⟩
      case round =>
        clear k2 k22 k3 k33
        obtain ⟨m, hm, rfl, HC⟩ := hrel
        rename World => w2
        have g9 : Goes (fun _ => False) T0 wr T0 w2 := Goes.below HC.out
        have k2 : w2.cell? ⟨R, 20, none⟩ = some (.slice (some ⟨a2, o2, none⟩) 1 c2) := (g9.cell HX.out.2.2.1 (fun z => z)).trans HX.out.1
        have k22 : w2.cell? ⟨a2, o2 + k, none⟩ = some (.slice (some ⟨b, off, none⟩) (n + 40) d) := (g9.cell HX.out.2.2.2 (fun z => z)).trans HX.out.2.1
        clear g9
        by_cases hlt2 : m < 40
        · obtain ⟨e, c, r9, r0⟩ := (HRr.out.below HC.out).mark hlt2
          rw [← HN.out] at r9
          have q2 : ((n + m : Nat) : Int) < ((n + 40 : Nat) : Int) := by omega
          have hmk : (((Rom.mark m : Nat) : Int) != lotN m % 256) = false := by rw [Rom.lot_byte]; simp
          go_upto_region 9 with (fail)
          go_quiet ((go_at_call 37; exact Calls.quiet_of_same (lot_any _ m _ (by omega) (by omega))))
          go_wp2
          go_roundw
          case rel => exact ⟨m + 1, by omega, by go_num, below_drewN HC.out _⟩
          case measure => simp [intOf]; omega
        · go_wp2
          go_roundw
          case rel => exact ⟨k + 1, by omega, by go_num, HB.out.trans (HC.out.mono HB.out.size)⟩
          case measure => simp [intOf]; omega
    · obtain ⟨x2, c2, k2, _⟩ := HRr.out.c20
      go_wp2
      go_ret
      exact ⟨rfl, HB.out⟩
set_option maxHeartbeats 2000000 in
theorem hold_any (w : World) (R : Nat) (vs fs : List Sv) (gs : List (List Wr)) (f : Option Addr) (d : Nat) (h : Ro w R vs fs gs f d) (hl : gs.length ≤ 400000) (hw : ∀ ws ∈ gs, ws.length ≤ 400000) :
    Calls Try.prog 10 #[.pointer (some ⟨R, 0, none⟩)] w fun e w' => e = .returned (.bool true) ∧ Below w.heap.size w w' := by
  have HR : Hid (Ro w R vs fs gs f d) := h
  have HW : Hid (∀ ws ∈ gs, ws.length ≤ 400000) := hw
  clear h hw
  go_enter Try.func10, Try.ntmps10
  go_wp2_with fail
  refine (holdBytes_any w R vs fs gs f d HR.out hl HW.out).mono ?_
  rintro e w1 ⟨rfl, hb1⟩
  have HB1 : Hid (Below w.heap.size w w1) := hb1
  have HR1 : Hid (Ro w1 R vs fs gs f d) := HR.out.below hb1
  clear hb1
  have n2 := HR1.out.nil 2 (by omega) (by omega) (by omega) (by omega) (by omega)
  have n4 := HR1.out.nil 4 (by omega) (by omega) (by omega) (by omega) (by omega)
  have n6 := HR1.out.nil 6 (by omega) (by omega) (by omega) (by omega) (by omega)
  have n8 := HR1.out.nil 8 (by omega) (by omega) (by omega) (by omega) (by omega)
  have n10 := HR1.out.nil 10 (by omega) (by omega) (by omega) (by omega) (by omega)
  have n12 := HR1.out.nil 12 (by omega) (by omega) (by omega) (by omega) (by omega)
  have n14 := HR1.out.nil 14 (by omega) (by omega) (by omega) (by omega) (by omega)
  have n16 := HR1.out.nil 16 (by omega) (by omega) (by omega) (by omega) (by omega)
  have n18 := HR1.out.nil 18 (by omega) (by omega) (by omega) (by omega) (by omega)
  go_wp2_with (first | (go_at_call 22; refine (Rom.holdInts_nil R _ n2).mono ?_; rintro e w9 ⟨rfl, hw⟩; have hw2 := hw.symm; clear hw; subst hw2) | (go_at_call 23; refine (Rom.holdNums_nil R _ n4).mono ?_; rintro e w9 ⟨rfl, hw⟩; have hw2 := hw.symm; clear hw; subst hw2) | (go_at_call 24; refine (Rom.holdTexts_nil R _ n6).mono ?_; rintro e w9 ⟨rfl, hw⟩; have hw2 := hw.symm; clear hw; subst hw2) | (go_at_call 25; refine (Rom.holdEntries_nil R _ n8).mono ?_; rintro e w9 ⟨rfl, hw⟩; have hw2 := hw.symm; clear hw; subst hw2) | (go_at_call 26; refine (Rom.holdPairs_nil R _ n10).mono ?_; rintro e w9 ⟨rfl, hw⟩; have hw2 := hw.symm; clear hw; subst hw2) | (go_at_call 27; refine (Rom.holdWrites_nil R _ n12).mono ?_; rintro e w9 ⟨rfl, hw⟩; have hw2 := hw.symm; clear hw; subst hw2) | (go_at_call 28; refine (Rom.holdTables_nil R _ n14).mono ?_; rintro e w9 ⟨rfl, hw⟩; have hw2 := hw.symm; clear hw; subst hw2) | (go_at_call 29; refine (Rom.holdPlaces_nil R _ n16).mono ?_; rintro e w9 ⟨rfl, hw⟩; have hw2 := hw.symm; clear hw; subst hw2) | (go_at_call 30; refine (Rom.holdPlaceds_nil R _ n18).mono ?_; rintro e w9 ⟨rfl, hw⟩; have hw2 := hw.symm; clear hw; subst hw2))
  refine (holdChunks_any w1 R vs fs gs f d HR1.out hl).mono ?_
  rintro e w2 ⟨rfl, hb2⟩
  have HB2 : Hid (Below w.heap.size w w2) := HB1.out.trans (hb2.mono HB1.out.size)
  have HR2 : Hid (Ro w2 R vs fs gs f d) := HR1.out.below hb2
  clear hb2 n2 n4 n6 n8 n10 n12 n14 n16 n18
  have n22 := HR2.out.nil 22 (by omega) (by omega) (by omega) (by omega) (by omega)
  have n24 := HR2.out.nil 24 (by omega) (by omega) (by omega) (by omega) (by omega)
  have n26 := HR2.out.nil 26 (by omega) (by omega) (by omega) (by omega) (by omega)
  go_wp2_with (first | (go_at_call 32; refine (Rom.holdGroups_nil R _ n22).mono ?_; rintro e w9 ⟨rfl, hw⟩; have hw2 := hw.symm; clear hw; subst hw2) | (go_at_call 33; refine (Rom.holdFiles_nil R _ n24).mono ?_; rintro e w9 ⟨rfl, hw⟩; have hw2 := hw.symm; clear hw; subst hw2) | (go_at_call 34; refine (Rom.holdSteps_nil R _ n26).mono ?_; rintro e w9 ⟨rfl, hw⟩; have hw2 := hw.symm; clear hw; subst hw2))
  go_ret
  exact ⟨rfl, HB2.out⟩
end Rqc
end Go.Proofs.Ytanpbknjnpmmnaa
namespace Go.Proofs.Ytanpbknjnpmmnaa
namespace Rqc
open Go.RowKit Laws Irw Crw Byt
open Rom (mark_lt lotN lot_byte lot_any)
set_option linter.unusedVariables false
set_option linter.unusedSimpArgs false
set_option maxRecDepth 400000
/-- What was lent is the lists. -/
theorem Ro.lent {w : World} {R : Nat} {vs fs : List Sv} {gs : List (List Wr)} {f : Option Addr} {d : Nat} (h : Ro w R vs fs gs f d) (hb : ∀ l ∈ gs, ∀ c ∈ l, c < 256) (hw0 : ∀ ws ∈ gs, ws.length ≤ 400000) : Mnf.IsD w f gs := by
  have hl : fs.length = gs.length + 40 := h.fl.ln
  refine ⟨fs.take gs.length, by rw [List.length_take]; omega, fun hne => ?_, fun i v ws hv hw => ?_⟩
  · obtain ⟨b, off, e, hr⟩ := h.full.at_ (by omega)
    refine ⟨b, off, e, hr.1, fun i x hx j u hu => hr.2 i x ?_ j u hu⟩
    have hi := (List.getElem?_eq_some_iff.1 hx).1
    rw [List.length_take] at hi
    rw [List.getElem?_take_of_lt (by omega)] at hx
    exact hx
  · have hi := (List.getElem?_eq_some_iff.1 hw).1
    rw [List.getElem?_take_of_lt hi] at hv
    obtain ⟨q1, p1, b, q2, _, q4, _⟩ := h.fl.ok i v ws hv (by rw [List.getElem?_append_left hi]; exact hw)
    have p2 := hw0 ws (List.mem_of_getElem? hw)
    exact ⟨q1, ⟨fun _ => ⟨b, 0, q2, b_of q4⟩, hb ws (List.mem_of_getElem? hw)⟩, (fun e => by rw [q2] at e; cases e), by omega, by omega⟩
/-- A new room. -/
abbrev roomZ : Obj := .cells #[.slice none 0 0, .slice none 0 0, .slice none 0 0, .slice none 0 0, .slice none 0 0, .slice none 0 0, .slice none 0 0, .slice none 0 0, .slice none 0 0, .slice none 0 0, .slice none 0 0, .slice none 0 0, .slice none 0 0, .slice none 0 0, .slice none 0 0, .slice none 0 0, .slice none 0 0, .slice none 0 0, .slice none 0 0, .slice none 0 0, .slice none 0 0, .slice none 0 0, .slice none 0 0, .slice none 0 0, .slice none 0 0, .slice none 0 0, .slice none 0 0, .slice none 0 0] 41
theorem room_new (w : World) : Rm (Irw.upd (fun _ => 0) w.heap.size 1) (w.alloc roomZ) w.heap.size [] [] := by
  have hc : ∀ j, j < 28 → (w.alloc roomZ).cell? ⟨w.heap.size, j, none⟩ = some (.slice none 0 0) := by
    intro j hj
    rw [World.cell?_alloc_at _ _ _ _ rfl]
    rcases (show j = 0 ∨ j = 1 ∨ j = 2 ∨ j = 3 ∨ j = 4 ∨ j = 5 ∨ j = 6 ∨ j = 7 ∨ j = 8 ∨ j = 9 ∨ j = 10 ∨ j = 11 ∨ j = 12 ∨ j = 13 ∨ j = 14 ∨ j = 15 ∨ j = 16 ∨ j = 17 ∨ j = 18 ∨ j = 19 ∨ j = 20 ∨ j = 21 ∨ j = 22 ∨ j = 23 ∨ j = 24 ∨ j = 25 ∨ j = 26 ∨ j = 27 by omega) with rfl | rfl | rfl | rfl | rfl | rfl | rfl | rfl | rfl | rfl | rfl | rfl | rfl | rfl | rfl | rfl | rfl | rfl | rfl | rfl | rfl | rfl | rfl | rfl | rfl | rfl | rfl | rfl
    all_goals rfl
  have hf : ∀ j, (w.alloc roomZ).frozen? ⟨w.heap.size, j, none⟩ = false := fun j => World.frozen?_alloc_at _ _ _ _ rfl
  exact ⟨by simp, upd_same _ _ _, ⟨_, hc 0 (by omega), OwnK.empty _ _ _⟩, ⟨_, hc 1 (by omega), OwnL.nil _ _ _⟩, fun j q _ _ => hc j q, hf, rfl, fun i v g hv => by simp at hv⟩
set_option maxHeartbeats 4000000 in
theorem chunks_any (w : World) (a : Option Addr) (cap n : Nat) (gs : List (List Wr)) (hn : n = gs.length) (hi : GZ w a gs) (hl : n ≤ 400000) (hw : ∀ ws ∈ gs, ws.length ≤ 400000) :
    Calls Try.prog 5 #[.pointer (some ⟨w.heap.size, 0, none⟩), .slice a n cap] (w.alloc roomZ) fun e w' => LgIs w w.heap.size gs n e w' := by
  have HN : Hid (n = gs.length) := hn
  have HI : Hid (GZ w a gs) := hi
  have HW : Hid (∀ ws ∈ gs, ws.length ≤ 400000) := hw
  clear hn hi hw
  go_enter Try.func5, Try.ntmps5
  go_wp2_with fail
  refine (layChunks_any (Irw.upd (fun _ => 0) w.heap.size 1) w _ w.heap.size a cap n gs (room_new w) (fun b hb => upd_other _ _ (by simp at hb; omega)) (fun b hb => upd_other _ _ (by omega)) ((Below.refl _ _).alloc (Nat.le_refl _) _) HN.out HI.out hl HW.out).mono ?_
  rintro e w1 ⟨b, d, vs, fs, rfl, hr, hb, hlo⟩
  have HF : Hid (Ro w1 w.heap.size vs fs gs (some ⟨b, 0, none⟩) d ∧ Below w.heap.size w w1 ∧ ∀ v ∈ fs, w.heap.size ≤ blk v) := ⟨hr, hb, hlo⟩
  clear hr hb hlo
  go_wp2_with fail
  go_ret
  exact ⟨b, d, vs, fs, rfl, HF.out.1, HF.out.2.1, HF.out.2.2⟩
end Rqc
end Go.Proofs.Ytanpbknjnpmmnaa
