import Derived.Test.YtkjddbplaicmjaaRq4
namespace Go.Proofs.Ytkjddbplaicmjaa
namespace Rq
open Go.RowKit Laws Irw Crw Grp
set_option linter.unusedVariables false
set_option linter.unusedSimpArgs false
set_option maxRecDepth 100000
/-- What layGroups leaves. -/
def LgIs (w0 : World) (R : Nat) (gs : List (List Wr)) (n : Nat) (e : Ending) (w' : World) : Prop :=
  ∃ b d vs fs, e = .returned (.slice (some ⟨b, 0, none⟩) n (n + 40)) ∧ Ro w' R vs fs gs (some ⟨b, 0, none⟩) d ∧ Below w0.heap.size w0 w'
set_option maxHeartbeats 2000000 in
theorem layGroups_any (T : Nat → Nat) (w0 w : World) (R : Nat) (a : Option Addr) (cap n : Nat) (gs : List (List Wr)) (h : Rm T w R [] []) (hz : ∀ b, w.heap.size ≤ b → T b = 0) (h0 : ∀ b, b < w0.heap.size → T b = 0) (hb : Below w0.heap.size w0 w) (hn : n = gs.length) (hi : GZ w0 a gs) (hl : n ≤ 100000) (hw : ∀ ws ∈ gs, ws.length ≤ 100000) :
    Calls Try.prog 19 #[.pointer (some ⟨R, 0, none⟩), .slice a n cap, .int .i64 40] w fun e w' => LgIs w0 R gs n e w' := by
  obtain ⟨iG, hiG, hz0, hz1, hz2⟩ := info_parts infoG'
  obtain ⟨iS, hiS, hy0, hy1, hy2⟩ := info_parts infoS
  obtain ⟨iI, hiI, hx0, hx1, hx2⟩ := info_parts infoI
  have HS : Hid (Lg w0 R [] [] [] 0 (.slice (some ⟨w.heap.size, 0, none⟩) 0 0) (Irw.upd T w.heap.size 4) (w.alloc (.cells #[] 63))) := Lg.start (u := 0) h hz h0 hb
  have HN : Hid (n = gs.length) := hn
  have HI : Hid (GZ w0 a gs) := hi
  have HW : Hid (∀ ws ∈ gs, ws.length ≤ 100000) := hw
  clear h hz h0 hb hn hi hw
  go_enter Try.func19, Try.ntmps19
  go_wp2
  go_loopw [7, 8] (fun v i wr => ∃ (k : Nat) (aa : Option Addr) (cc : Nat), k ≤ n ∧ i = .int .i64 (k : Int) ∧ v = .slice aa k cc ∧ Hid (∃ vs fs T, Lg w0 R vs fs (gs.take k) 0 (.slice aa k cc) T wr)) (fun _ i _ => n - (intOf i).toNat)
  case atStart => exact ⟨0, _, _, by omega, rfl, rfl, ⟨[], [], _, HS.out⟩⟩
  case round =>
    clear HS
    obtain ⟨k, aa, cc, hk, rfl, rfl, HK⟩ := hrel
    obtain ⟨vs, fs, T1, hlg⟩ := HK.out
    by_cases hlt : k < n
    · have q1 : (k : Int) < (n : Int) := by omega
      obtain ⟨ab, ao, ad, c, ws, ha, hws, hab, hcell, hwr, hc0⟩ := (HI.out.below hlg.bl).rd (k := k) (by rw [← HN.out]; exact hlt)
      subst ha
      obtain ⟨m, hm⟩ : ∃ m, m = ws.length := ⟨_, rfl⟩
      rw [← hm] at hcell
      have hm1 : m ≤ 100000 := by rw [hm]; exact HW.out ws (List.mem_of_getElem? hws)
      have htk : gs.take (k + 1) = gs.take k ++ [ws] := by rw [List.take_add_one, hws]; rfl
      have hlk : (gs.take k).length = k := by rw [List.length_take]; have := HN.out; omega
      have hfl : fs.length = k := by have := hlg.fl.ln; omega
      have HL : Hid (Lg w0 R vs fs (gs.take k) 0 (.slice aa k cc) T1 wr ∧ m = ws.length ∧ Chk.IsWr wr ad ws ∧ (ad = none → c = 0) ∧ m ≤ 100000 ∧ gs.take (k + 1) = gs.take k ++ [ws] ∧ (gs.take k).length = k ∧ fs.length = k) := ⟨hlg, hm, hwr, hc0, hm1, htk, hlk, hfl⟩
      clear hlg hm hwr hc0 hm1 htk hlk hfl HK hws
      go_wp2_with (first
        | (go_at_call 47; go_loud (refine (layWrites_any T1 wr R vs (gs.take k) ad c m ws HL.out.1.rm HL.out.1.hi HL.out.2.1 HL.out.2.2.2.1 HL.out.2.2.1 HL.out.2.2.2.2.1 (by rw [HL.out.1.rm.ln, HL.out.2.2.2.2.2.2.1]; omega)).mono ?_; rintro e w2 ⟨b2, c2, T2, rfl, hr2, hg2, hb2⟩; have H2 : Hid (Rm T2 w2 R (vs ++ [(some ⟨b2, 0, none⟩, m + 4, c2)]) (gs.take k ++ [ws]) ∧ Goes u3 T1 wr T2 w2) := ⟨hr2, hg2⟩; clear hr2 hg2 hb2))
        | (at_builtin; go_loud (refine wpList_appK kS _ (by rfl) (.tmp 17) (.tmp 24) 23 (by rfl) iS undG hiS hy0 hy1 hy2 4 T2 (.slice aa k cc) fs (by rfl) ((HL.out.1.ow.goes H2.out.2 (by unfold u3; omega)).below ((Below.refl _ _).alloc (Nat.le_refl _) _)) (some ⟨w2.heap.size, 0, none⟩) 1 1 [(some ⟨b2, 0, none⟩, m, m + 4)] (by rfl) (by rfl) (by simp) (isS_one (v := (some ⟨b2, 0, none⟩, m, m + 4)) rfl) (by have := HL.out.2.2.2.2.2.2.2; rw [this]; simp; omega) ?_; intro a3 c3 T3 w3 hown3 hgo3; have H3 : Hid (∃ vs fs T, Lg w0 R vs fs (gs.take (k + 1)) 0 (.slice a3 (k + 1) c3) T w3) := (by have h9 := HL.out.1.lay HL.out.2.1 H2.out.1 H2.out.2 ((Goes.below ((Below.refl _ _).alloc (Nat.le_refl _) _)).trans hgo3) hown3; rw [HL.out.2.2.2.2.2.2.2, ← HL.out.2.2.2.2.2.1] at h9; exact ⟨_, _, _, h9⟩); clear hown3 hgo3; rw [HL.out.2.2.2.2.2.2.2]; simp only [List.length_cons, List.length_nil, Nat.zero_add])))
      go_roundw
      case rel => exact ⟨k + 1, a3, c3, by omega, by go_num, rfl, H3⟩
      case measure => simp [intOf]; omega
    · obtain rfl : k = n := by omega
      have H1 : Hid (Lg w0 R vs fs gs 0 (.slice aa k cc) T1 wr) := by
        rw [List.take_of_length_le (by rw [← HN.out]; omega)] at hlg
        exact hlg
      clear hlg HK
      go_wp2
      go_loopw [7, 9] (fun v i wr => ∃ (j : Nat) (aa : Option Addr) (cc : Nat), j ≤ 40 ∧ i = .int .i64 (j : Int) ∧ v = .slice aa (k + j) cc ∧ Hid (∃ vs fs T, Lg w0 R vs fs gs j (.slice aa (k + j) cc) T wr)) (fun _ i _ => 40 - (intOf i).toNat)
      case atStart => exact ⟨0, _, _, by omega, rfl, rfl, ⟨_, _, _, H1.out⟩⟩
      case round =>
        clear H1
        obtain ⟨j, aa, cc, hj, rfl, rfl, HK⟩ := hrel
        obtain ⟨vs, fs, T1, hlg⟩ := HK.out
        by_cases hlt : j < 40
        · have q1 : (j : Int) < 40 := by omega
          have hfl : fs.length = k + j := by have := hlg.fl.ln; have := HN.out; omega
          have HL : Hid (Lg w0 R vs fs gs j (.slice aa (k + j) cc) T1 wr ∧ fs.length = k + j) := ⟨hlg, hfl⟩
          clear hlg hfl HK
          go_wp2_with (first
            | (go_at_call 48; go_loud (refine (word_any _ j _ rfl (by omega)).mono ?_; rintro e w' ⟨rfl, hw⟩; have hw2 := hw.symm; clear hw; subst hw2))
            | (at_builtin; go_loud (refine wpList_appK kS _ (by rfl) (.tmp 31) (.tmp 36) 23 (by rfl) iS undG hiS hy0 hy1 hy2 4 T1 (.slice aa (k + j) cc) fs (by rfl) (HL.out.1.ow.below (((Below.refl _ _).alloc (Nat.le_refl _) _).alloc (by simp) _)) (some ⟨wr.heap.size + 1, 0, none⟩) 1 1 [(some ⟨wr.heap.size, 0, none⟩, 1, 1)] (by rfl) (by rfl) (by simp) (isS_one (v := (some ⟨wr.heap.size, 0, none⟩, 1, 1)) (by simp)) (by have := HL.out.2; rw [this]; simp; omega) ?_; intro a3 c3 T3 w3 hown3 hgo3; have H3 : Hid (∃ vs fs T, Lg w0 R vs fs gs (j + 1) (.slice a3 (k + (j + 1)) c3) T w3) := (by have h9 := HL.out.1.mark (((Below.refl _ _).alloc (Nat.le_refl _) _).alloc (by simp) _) (Nat.le_refl _) (by have z := (isK_one (s := wordB j) (u := 65) (w := wr) rfl).below ((Below.refl _ _).alloc (Nat.le_refl _) (.cells #[.slice (some ⟨wr.heap.size, 0, none⟩) 1 1] 63)); obtain ⟨b9, o9, e9, r9⟩ := z (by simp); cases e9; exact r9) hgo3 hown3; rw [HL.out.2] at h9; exact ⟨_, _, _, h9⟩); clear hown3 hgo3; rw [HL.out.2]; simp only [List.length_cons, List.length_nil, Nat.zero_add])))
          go_roundw
          case rel => exact ⟨j + 1, a3, c3, by omega, by go_num, by rw [Nat.add_assoc], H3⟩
          case measure => simp [intOf]; omega
        · obtain rfl : j = 40 := by omega
          have HL : Hid (Lg w0 R vs fs gs 40 (.slice aa (k + 40) cc) T1 wr) := hlg
          have k2 := hlg.rm.nil 22 (by omega) (by omega) (by omega)
          have k3 := hlg.rm.nil 23 (by omega) (by omega) (by omega)
          have f2 := hlg.rm.fz 22
          have f3 := hlg.rm.fz 23
          have hRlt := hlg.rm.lt
          have hcc : k + 40 ≤ cc := by
            obtain ⟨_, _, e, _, hle, _⟩ := hlg.ow.form
            have hf := hlg.fl.ln
            injection e with e1 e2 e3
            omega
          have haa : ∃ b, aa = some ⟨b, 0, none⟩ := by
            rcases hlg.ow.1.2 with ⟨z1, z2⟩ | ⟨g, cap9, cur, hv, _⟩
            · have hf := hlg.fl.ln
              omega
            · injection hv with hv1
              exact ⟨g, hv1⟩
          obtain ⟨b, rfl⟩ := haa
          have HT1 : Hid (T1 R = 1 ∧ R < wr.heap.size) := ⟨hlg.rm.tag, hlg.rm.lt⟩
          have hci : (k : Int) + 40 ≤ (cc : Int) := by omega
          have hn4 : (k : Int) ≤ (k : Int) + 40 := by omega
          clear hlg HK
          go_upto_region 10 with (fail)
          go_wp2_with (first
            | (at_builtin; go_loud (refine wpList_appK kG _ (by rfl) (.tmp 42) (.tmp 44) 37 (by rfl) iG undGG hiG hz0 hz1 hz2 5 T1 (.slice none 0 0) [] (by rfl) (OwnK.empty _ _ _) (some ⟨wr.heap.size, 0, none⟩) 1 1 [(some ⟨b, 0, none⟩, k + 40, cc)] (by rfl) (by rfl) (by simp) (isG_one (v := (some ⟨b, 0, none⟩, k + 40, cc)) rfl) (by simp) ?_; intro a4 c4 T4 w4 hown4 hgo4; have hg4 : Goes (· = 5) T1 wr T4 w4 := (Goes.below ((Below.refl _ _).alloc (Nat.le_refl _) _)).trans hgo4; have HG4 : Hid (OwnK kG 5 T4 w4 (.slice a4 1 c4) [(some ⟨b, 0, none⟩, k + 40, cc)] ∧ Goes (· = 5) T1 wr T4 w4) := ⟨hown4, hg4⟩; have m2 := (hg4.cell HT1.out.2 (by rw [HT1.out.1]; omega)).trans k2; have m3 := (hg4.cell HT1.out.2 (by rw [HT1.out.1]; omega)).trans k3; have n2 : w4.frozen? ⟨R, 22, none⟩ = false := (World.frozen?_of_block (a := ⟨R, 22, none⟩) (hg4.block R HT1.out.2 (by rw [HT1.out.1]; omega))).trans f2; have n3 : w4.frozen? ⟨R, 23, none⟩ = false := (World.frozen?_of_block (a := ⟨R, 23, none⟩) (hg4.block R HT1.out.2 (by rw [HT1.out.1]; omega))).trans f3; simp only [List.length_cons, List.length_nil, Nat.zero_add]; clear hown4 hgo4 hg4 k2 k3 f2 f3))
            | (at_builtin; go_loud (refine wpList_appL _ (by rfl) (.tmp 52) (.tmp 55) 27 (by rfl) iI Try.underlying27 hiI hx0 hx1 hx2 6 T4 (.slice none 0 0) [] (by rfl) (OwnL.nil _ _ _) (some ⟨w4.heap.size, 0, none⟩) 1 1 [(k : Int)] (by rfl) (by rfl) (by simp) (isI_one (by simp)) (by simp) ?_; intro a5 c5 T5 w5 hown5 hgo5 _; have hg5 : Goes (· = 6) T4 (w4.setCell ⟨R, 22, none⟩ (.slice a4 1 c4)) T5 w5 := (Goes.below ((Below.refl _ _).alloc (Nat.le_refl _) _)).trans hgo5; have HF : Hid (Ro (w5.setCell ⟨R, 23, none⟩ (.slice a5 1 c5)) R vs fs gs (some ⟨b, 0, none⟩) cc ∧ Below w0.heap.size w0 (w5.setCell ⟨R, 23, none⟩ (.slice a5 1 c5))) := (by have h9 := HL.out.done HN.out HG4.out.2 HG4.out.1 hg5 hown5; exact ⟨h9.1, h9.2.1⟩); have hR4 : R < (w4.setCell ⟨R, 22, none⟩ (.slice a4 1 c4)).heap.size := (by have := HT1.out.2; have := HG4.out.2.size; simp; omega); have hT4 : ¬ T4 R = 6 := (by rw [(HG4.out.2.tag R HT1.out.2 (by rw [HT1.out.1]; omega)).trans HT1.out.1]; omega); have m5 : w5.cell? ⟨R, 23, none⟩ = some (.slice none 0 0) := (hg5.cell hR4 hT4).trans ((World.cell?_setCell_other _ _ _ _ (by intro z; cases z)).trans m3); have n5 : w5.frozen? ⟨R, 23, none⟩ = false := (World.frozen?_of_block (a := ⟨R, 23, none⟩) (hg5.block R hR4 hT4)).trans (by rw [World.frozen?_setCell]; exact n3); simp only [List.length_cons, List.length_nil, Nat.zero_add]; clear hown5 hgo5 hg5 hR4 hT4 m2 m3 n2 n3)))
          go_ret
          exact ⟨b, cc, vs, fs, rfl, HF.out.1, HF.out.2⟩
end Rq
end Go.Proofs.Ytkjddbplaicmjaa
