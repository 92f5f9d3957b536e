import Derived.Test.YtkjddbplaicmjaaRq1
import Derived.BigQuiet
import Derived.Deep.DeepCutAuto
import Derived.Deep.RegionHeld3
namespace Go.Proofs.Ytkjddbplaicmjaa
namespace Rq
open Go.RowKit Laws Irw Crw Grp
set_option linter.unusedVariables false
set_option linter.unusedSimpArgs false
set_option maxRecDepth 100000
/-- What layWrites leaves. -/
def LayIs (T : Nat → Nat) (w : World) (R : Nat) (vs : List Sv) (gs : List (List Wr)) (ws : List Wr) (n : Nat) (e : Ending) (w' : World) : Prop :=
  ∃ b c T', e = .returned (.slice (some ⟨b, 0, none⟩) n (n + 4)) ∧ Rm T' w' R (vs ++ [(some ⟨b, 0, none⟩, n + 4, c)]) (gs ++ [ws]) ∧ Goes u3 T w T' w' ∧ w.heap.size ≤ b
set_option maxHeartbeats 2000000 in
theorem layWrites_any (T : Nat → Nat) (w : World) (R : Nat) (vs : List Sv) (gs : List (List Wr)) (a : Option Addr) (cap n : Nat) (ws : List Wr) (h : Rm T w R vs gs) (hz : ∀ b, w.heap.size ≤ b → T b = 0) (hn : n = ws.length) (hc : a = none → cap = 0) (hi : Chk.IsWr w a ws) (hl : n ≤ 100000) (hv : vs.length ≤ 100000) :
    Calls Try.prog 47 #[.pointer (some ⟨R, 0, none⟩), .slice a n cap, .int .i64 4] w fun e w' => LayIs T w R vs gs ws n e w' := by
  obtain ⟨iW, hiW, hz0, hz1, hz2⟩ := info_parts infoW'
  obtain ⟨iS, hiS, hy0, hy1, hy2⟩ := info_parts infoS
  obtain ⟨iI, hiI, hx0, hx1, hx2⟩ := info_parts infoI
  have HR : Hid (Rm T w R vs gs) := h
  have HZ : Hid (∀ b, w.heap.size ≤ b → T b = 0) := hz
  have HN : Hid (n = ws.length) := hn
  have HI : Hid (IsK kW (w.alloc (.cells #[] 65)) a ws ∧ (a = none → cap = 0)) := ⟨(isK_wr hi).below ((Below.refl _ _).alloc (Nat.le_refl _) _), hc⟩
  have HV : Hid (vs.length ≤ 100000 ∧ gs.length = vs.length) := ⟨hv, h.ln.symm⟩
  clear h hz hn hc hi hv
  go_enter Try.func47, Try.ntmps47
  go_wp2_with (at_builtin; go_loud (refine wpList_appK kW _ (by rfl) (.tmp 10) (.tmp 11) 63 (by rfl) iW undW' hiW hz0 hz1 hz2 1 (Irw.upd (fun _ => 0) w.heap.size 1) (.slice (some ⟨w.heap.size, 0, none⟩) 0 0) [] (by rfl) (Nw.first w) a n cap ws (by rfl) HN.out HI.out.2 HI.out.1 (by have := HN.out; simp; omega) ?_; intro a1 c1 T1 w1 hown1 hgo1; have H1 : Hid (Nw w w1 (.slice a1 n c1) ws) := (by have h9 := Nw.of ((Below.refl _ _).alloc (Nat.le_refl _) _) (fun b hb => upd_other _ _ (by omega)) hgo1 hown1; rw [List.nil_append, List.length_nil, Nat.zero_add, ← HN.out] at h9; exact h9); clear hown1 hgo1; rw [List.length_nil, Nat.zero_add, ← HN.out]))
  go_loopw [7, 8] (fun v i wr => ∃ (k : Nat) (aa : Option Addr) (cc : Nat), k ≤ 4 ∧ i = .int .i64 (k : Int) ∧ v = .slice aa (n + k) cc ∧ Hid (Nw w wr (.slice aa (n + k) cc) (ws ++ marks k))) (fun _ i _ => 4 - (intOf i).toNat)
  case atStart => exact ⟨0, a1, c1, by omega, rfl, rfl, by rw [Nat.add_zero, show marks 0 = [] from rfl, List.append_nil]; exact H1.out⟩
  case round =>
    clear H1
    obtain ⟨k, aa, cc, hk, rfl, rfl, HK⟩ := hrel
    by_cases hlt : k < 4
    · have q1 : (k : Int) < 4 := by omega
      obtain ⟨T9, ho9, h09, hb9⟩ := HK.out
      have HO : Hid (OwnK kW 1 T9 wr (.slice aa (n + k) cc) (ws ++ marks k) ∧ (∀ b, b < w.heap.size → T9 b = 0) ∧ Below w.heap.size w wr) := ⟨ho9, h09, hb9⟩
      have HLN : Hid ((ws ++ marks k).length = n + k) := by show (ws ++ marks k).length = n + k; rw [List.length_append, marks_length, ← HN.out]
      clear ho9 h09 hb9 HK
      go_wp2_with (first
        | (go_at_call 48; go_loud (refine (word_any _ k _ rfl (by omega)).mono ?_; rintro e w' ⟨rfl, hw⟩; have hw2 := hw.symm; clear hw; subst hw2))
        | (at_builtin; go_loud (refine wpList_appK kW _ (by rfl) (.tmp 18) (.tmp 22) 63 (by rfl) iW undW' hiW hz0 hz1 hz2 1 T9 (.slice aa (n + k) cc) (ws ++ marks k) (by rfl) (HO.out.1.below ((Below.refl _ _).alloc (Nat.le_refl _) _)) (some ⟨wr.heap.size, 0, none⟩) 1 1 [(wordB k, false, ⟨#[]⟩)] (by rfl) (by rfl) (by simp) (isK_one rfl) (by have := HLN.out; rw [this]; simp; omega) ?_; intro a2 c2 T2 w2 hown2 hgo2; have H2 : Hid (Nw w w2 (.slice a2 (n + (k + 1)) c2) (ws ++ marks (k + 1))) := (by have h9 := Nw.of (HO.out.2.2.trans (((Below.refl _ _).alloc (Nat.le_refl _) _).mono HO.out.2.2.size)) HO.out.2.1 hgo2 hown2; rw [HLN.out, List.append_assoc, ← marks_succ] at h9; exact h9); clear hown2 hgo2; rw [HLN.out]; simp only [List.length_cons, List.length_nil, Nat.zero_add])))
      go_roundw
      case rel => exact ⟨k + 1, a2, c2, by omega, by go_num, by rw [Nat.add_assoc], H2⟩
      case measure => simp [intOf]; omega
    · obtain rfl : k = 4 := by omega
      obtain ⟨hlw, hq9, hcc, b, hb, hbw⟩ := HK.out.lw HZ.out
      clear hq9
      subst hb
      obtain ⟨_, _, _, hbe⟩ := HK.out
      have HLW : Hid (Lw T wr (some ⟨b, 0, none⟩, n + 4, cc) ws ∧ w.heap.size ≤ b ∧ Below w.heap.size w wr) := ⟨hlw, hbw, hbe⟩
      have HRr : Hid (Rm T wr R vs gs) := HR.out.below hbe
      obtain ⟨x2, k2, o2⟩ := HRr.out.c12
      obtain ⟨x3, k3, o3⟩ := HRr.out.c13
      obtain ⟨a2, c2, rfl, _⟩ := o2.form
      obtain ⟨a3, c3, rfl, _⟩ := o3.form
      rw [List.length_map, HV.out.2] at k3 o3
      have f2 := HRr.out.fz 12
      have f3 := HRr.out.fz 13
      have HO2 : Hid (OwnK kS 2 T wr (.slice a2 vs.length c2) vs) := o2
      have HO3 : Hid (OwnL 3 T wr (.slice a3 vs.length c3) (gs.map fun g => (g.length : Int))) := o3
      have hlt := HRr.out.lt
      obtain ⟨VN, hVN⟩ : ∃ VN, VN = vs.length := ⟨_, rfl⟩
      have HVN : Hid (VN = vs.length) := hVN
      rw [← hVN] at k2 k3
      rw [← hVN] at HO2 HO3
      clear hlw hbw hbe o2 o3 HK hVN
      have hci : (n : Int) + 4 ≤ (cc : Int) := by omega
      have hn4 : (n : Int) ≤ (n : Int) + 4 := by omega
      have HT1 : Hid (T R = 1 ∧ R < wr.heap.size) := ⟨HRr.out.tag, hlt⟩
      go_upto_region 7 with (fail)
      go_wp2_with (first
        | (at_builtin; go_loud (refine wpList_appK kS _ (by rfl) (.tmp 28) (.tmp 30) 23 (by rfl) iS undG hiS hy0 hy1 hy2 2 T (.slice a2 VN c2) vs (by rfl) (HO2.out.below ((Below.refl _ _).alloc (Nat.le_refl _) _)) (some ⟨wr.heap.size, 0, none⟩) 1 1 [(some ⟨b, 0, none⟩, n + 4, cc)] (by rfl) (by rfl) (by simp) (isS_one (v := (some ⟨b, 0, none⟩, n + 4, cc)) rfl) (by have := HV.out.1; simp; omega) ?_; intro a4 c4 T4 w4 hown4 hgo4; have hg4 : Goes (· = 2) T wr T4 w4 := (Goes.below ((Below.refl _ _).alloc (Nat.le_refl _) _)).trans hgo4; have HG4 : Hid (OwnK kS 2 T4 w4 (.slice a4 (VN + 1) c4) (vs ++ [(some ⟨b, 0, none⟩, n + 4, cc)]) ∧ Goes (· = 2) T wr T4 w4) := ⟨(by rw [HVN.out]; exact hown4), hg4⟩; have m2 := (hg4.cell HT1.out.2 (by rw [HT1.out.1]; omega)).trans k2; have m3 := (hg4.cell HT1.out.2 (by rw [HT1.out.1]; omega)).trans k3; have n2 : w4.frozen? ⟨R, 12, none⟩ = false := (World.frozen?_of_block (a := ⟨R, 12, none⟩) (hg4.block R HT1.out.2 (by rw [HT1.out.1]; omega))).trans f2; have n3 : w4.frozen? ⟨R, 13, none⟩ = false := (World.frozen?_of_block (a := ⟨R, 13, none⟩) (hg4.block R HT1.out.2 (by rw [HT1.out.1]; omega))).trans f3; rw [← HVN.out]; simp only [List.length_cons, List.length_nil, Nat.zero_add]; clear hown4 hgo4 hg4 k2 k3 f2 f3))
        | (at_builtin; go_loud (refine wpList_appL _ (by rfl) (.tmp 38) (.tmp 41) 27 (by rfl) iI Try.underlying27 hiI hx0 hx1 hx2 3 T4 (.slice a3 VN c3) (gs.map fun g => (g.length : Int)) (by rfl) (((HO3.out.goes HG4.out.2 (by omega)).goes (Goes.setCell (t := (· = 1)) ((HG4.out.2.tag R HT1.out.2 (by rw [HT1.out.1]; omega)).trans HT1.out.1)) (by omega)).below ((Below.refl _ _).alloc (Nat.le_refl _) _)) (some ⟨w4.heap.size, 0, none⟩) 1 1 [(n : Int)] (by rfl) (by rfl) (by simp) (isI_one (by simp)) (by have := HV.out; simp; omega) ?_; intro a5 c5 T5 w5 hown5 hgo5 _; have hg5 : Goes (· = 3) T4 (w4.setCell ⟨R, 12, none⟩ (.slice a4 (VN + 1) c4)) T5 w5 := (Goes.below ((Below.refl _ _).alloc (Nat.le_refl _) _)).trans hgo5; have HF : Hid (Rm T5 (w5.setCell ⟨R, 13, none⟩ (.slice a5 (VN + 1) c5)) R (vs ++ [(some ⟨b, 0, none⟩, n + 4, cc)]) (gs ++ [ws]) ∧ Goes u3 T wr T5 (w5.setCell ⟨R, 13, none⟩ (.slice a5 (VN + 1) c5))) := HRr.out.more HLW.out.1 HG4.out.2 HG4.out.1 hg5 (by rw [← HN.out]; rw [List.length_map, HV.out.2, ← HVN.out] at hown5; exact hown5); have hR4 : R < (w4.setCell ⟨R, 12, none⟩ (.slice a4 (VN + 1) c4)).heap.size := (by have := HT1.out.2; have := HG4.out.2.size; simp; omega); have hT4 : ¬ T4 R = 3 := (by rw [(HG4.out.2.tag R HT1.out.2 (by rw [HT1.out.1]; omega)).trans HT1.out.1]; omega); have m5 : w5.cell? ⟨R, 13, none⟩ = some (.slice a3 VN c3) := (hg5.cell hR4 hT4).trans ((World.cell?_setCell_other _ _ _ _ (by intro z; cases z)).trans m3); have n5 : w5.frozen? ⟨R, 13, none⟩ = false := (World.frozen?_of_block (a := ⟨R, 13, none⟩) (hg5.block R hR4 hT4)).trans (by rw [World.frozen?_setCell]; exact n3); rw [List.length_map, HV.out.2, ← HVN.out]; simp only [List.length_cons, List.length_nil, Nat.zero_add]; clear hown5 hgo5 hg5 hR4 hT4 m2 m3 n2 n3)))
      go_ret
      exact ⟨b, cc, T5, rfl, HF.out.1, (Goes.below HLW.out.2.2).trans HF.out.2, HLW.out.2.1⟩
end Rq
end Go.Proofs.Ytkjddbplaicmjaa
