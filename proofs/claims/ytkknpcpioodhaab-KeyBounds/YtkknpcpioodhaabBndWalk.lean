import Derived.Test.YtkknpcpioodhaabKnown
import Derived.Test.YtkknpcpioodhaabBndMath
import Derived.WalkKit
import Derived.Below
import Derived.Deep.RegionHeld3
import Derived.Deep.DrawnRows
import Derived.Deep.QuietTactic
import Derived.BigQuiet
namespace Go.Proofs.Ytkknpcpioodhaab
namespace KeyBounds
open Go.RowKit KMath Cmp Ent Chk Bat Wei Ents Known
set_option linter.unusedVariables false
attribute [local go_sem ↓] Go.wp_at_zero Go.wp_at_succ

theorem keepB {w W w' : World} (hb : Below W.heap.size W w') (h : Below w.heap.size w W) : Below w.heap.size w w' := h.trans (hb.mono h.size)

set_option maxHeartbeats 8000000 in
theorem walk (first : Int) (a : Option Addr) (cap : Nat) (ws : List Wr) (cut : Int) (w : World) (h : IsWr w a ws) (hn : a = none → cap = 0) (hcap : ws.length ≤ cap) (hc63 : cap ≤ maxLen) (hc0 : -9223372036854775808 ≤ cut) (hc1 : cut ≤ 9223372036854775807) :
    Calls Try.prog 4 #[.int .u64 first, .slice a ws.length cap, .int .i64 cut] w fun e w' => e = .returned (.bool true) ∧ Below w.heap.size w w' := by
  have HW : Hid (IsWr w a ws) := h
  have HN : Hid (a = none → cap = 0) := hn
  have hlen := h.2.1
  unfold maxLen at hlen hc63
  clear h hn
  by_cases hl : 4096 < ws.length
  · go_enter Try.func4, Try.ntmps4
    go_wp2
    go_ret
    exact ⟨rfl, Below.refl _ _⟩
  have g4096 : decide (4096 < (ws.length : Int)) = false := decide_eq_false (by omega)
  go_enter Try.func4, Try.ntmps4
  go_wp2_with fail
  refine (known_any _).mono ?_
  rintro e w1 ⟨rfl, hb1⟩
  have HB1 : Hid (Below w.heap.size w w1) := hb1
  clear hb1
  go_wp2_with fail
  refine (entries_any first a cap ws w1 (HW.out.below HB1.out) (by omega)).mono ?_
  rintro e w2 ⟨rfl, hE2, hb2⟩
  have HE2 : Hid (IsEn w2 (some ⟨w1.heap.size, 0, none⟩) (ents first ws)) := hE2
  have HW2 : Hid (IsWr w2 a ws) := (HW.out.below HB1.out).below hb2
  have HB2 : Hid (Below w.heap.size w w2) := HB1.out.trans (hb2.mono HB1.out.size)
  clear hE2 hb2
  go_wp2
  go_loopw [8, 9, 10] (fun s i _ wr => ∃ k : Nat, k ≤ ws.length ∧ i = .int .i64 k ∧ s = .int .i64 (sumF (ws.take k)) ∧ Below w2.heap.size w2 wr) (fun _ i _ _ => ws.length - (intOf i).toNat)
  case atStart => exact ⟨0, Nat.zero_le _, rfl, rfl, Below.refl _ _⟩
  case round =>
    obtain ⟨k, hk, rfl, rfl, hbe⟩ := hrel
    by_cases hlt : k < ws.length
    · obtain ⟨kk, dd, vv, hx⟩ : ∃ kk dd vv, ws[k]? = some (kk, dd, vv) := ⟨_, _, _, List.getElem?_eq_getElem hlt⟩
      have hne' : ents first ws ≠ [] := by intro e; have := ents_length first ws; rw [e] at this; simp at this; omega
      obtain ⟨b', off', eb, hre⟩ := HE2.out hne'
      cases eb
      have hre' := hre.below hbe hre.1
      obtain ⟨c0, c1, c2, c3⟩ := hre'.2 k _ (ents_get hx)
      have hz := hre'.1
      simp only [Nat.zero_add] at c0 c1 c2 c3
      have s1 : kk.size ≤ maxLen := (HW2.out.2.2 _ (List.mem_of_getElem? hx)).1
      have s2 : (val dd vv).size ≤ maxLen := val_size dd vv (HW2.out.2.2 _ (List.mem_of_getElem? hx)).2
      have s3 := s2
      unfold maxLen at s3
      have HS : Hid (sumF (ws.take (k + 1)) = wrap64 (sumF (ws.take k) + wt kk dd vv)) := sumF_take hx
      have HWB : Hid (err kk.size = 0 → (val dd vv).size ≤ 512 → 450 ≤ wt kk dd vv ∧ wt kk dd vv ≤ 1088) := wt_bounds kk dd vv
      clear hx hne' hre hre'
      generalize sumF (ws.take k) = S at *
      generalize seqAt first k = sq at *
      have HBE : Hid (Below w2.heap.size w2 wr) := hbe
      clear hbe
      obtain ⟨T, hT⟩ : ∃ T, wt kk dd (val dd vv) = T := ⟨_, rfl⟩
      have HT : Hid (wt kk dd (val dd vv) = T) := hT
      rw [wt_val] at hT
      rw [hT] at HS HWB
      clear hT
      by_cases he : err kk.size = 0
      · have ge : (err kk.size == 0) = true := by rw [he]; rfl
        by_cases hv : (val dd vv).size ≤ 512
        · obtain ⟨hT0, hT1⟩ := HWB.out he hv
          clear he HWB
          go_wp2_with fail
          refine (weight_any _ _ _ _ _).mono ?_
          rintro e w3 ⟨rfl, hb3⟩
          rw [HT.out]
          have d0 := ((bcell hb3).1 _ _ hz).trans c0
          have d3 := ((bcell hb3).1 _ _ hz).trans c3
          have HB3 : Hid (Below w2.heap.size w2 w3) := HBE.out.trans (hb3.mono HBE.out.size)
          clear hb3 c0 c1 c2 c3
          go_wp2_with fail
          refine (check_any _ _ s1).mono ?_
          rintro e w4 ⟨rfl, hw⟩
          have hw2 := hw.symm
          clear hw
          subst hw2
          go_wp2_with fail
          refine (num_any _ _).mono ?_
          rintro e w4 ⟨rfl, hw⟩
          have hw2 := hw.symm
          clear hw
          subst hw2
          go_wp2_with fail
          exact ⟨⟨k + 1, by omega, by go_num, by rw [HS.out], HB3.out⟩, by simp [intOf]; omega⟩
        · clear he HWB
          go_wp2_with fail
          refine (weight_any _ _ _ _ _).mono ?_
          rintro e w3 ⟨rfl, hb3⟩
          rw [HT.out]
          have d0 := ((bcell hb3).1 _ _ hz).trans c0
          have d3 := ((bcell hb3).1 _ _ hz).trans c3
          have HB3 : Hid (Below w2.heap.size w2 w3) := HBE.out.trans (hb3.mono HBE.out.size)
          clear hb3 c0 c1 c2 c3
          go_wp2_with fail
          refine (check_any _ _ s1).mono ?_
          rintro e w4 ⟨rfl, hw⟩
          have hw2 := hw.symm
          clear hw
          subst hw2
          go_wp2_with fail
          refine (num_any _ _).mono ?_
          rintro e w4 ⟨rfl, hw⟩
          have hw2 := hw.symm
          clear hw
          subst hw2
          go_wp2_with fail
          exact ⟨⟨k + 1, by omega, by go_num, by rw [HS.out], HB3.out⟩, by simp [intOf]; omega⟩
      · have ge : (err kk.size == 0) = false := by rw [beq_eq_false_iff_ne]; exact he
        clear he HWB
        go_wp2_with fail
        refine (weight_any _ _ _ _ _).mono ?_
        rintro e w3 ⟨rfl, hb3⟩
        rw [HT.out]
        have d0 := ((bcell hb3).1 _ _ hz).trans c0
        have d3 := ((bcell hb3).1 _ _ hz).trans c3
        have HB3 : Hid (Below w2.heap.size w2 w3) := HBE.out.trans (hb3.mono HBE.out.size)
        clear hb3 c0 c1 c2 c3
        go_wp2_with fail
        refine (check_any _ _ s1).mono ?_
        rintro e w4 ⟨rfl, hw⟩
        have hw2 := hw.symm
        clear hw
        subst hw2
        go_wp2_with fail
        refine (num_any _ _).mono ?_
        rintro e w4 ⟨rfl, hw⟩
        have hw2 := hw.symm
        clear hw
        subst hw2
        go_wp2_with fail
        exact ⟨⟨k + 1, by omega, by go_num, by rw [HS.out], HB3.out⟩, by simp [intOf]; omega⟩
    · have hkk : k = ws.length := by omega
      subst hkk
      rw [List.take_of_length_le (Nat.le_refl _)]
      have HBE : Hid (Below w2.heap.size w2 wr) := hbe
      have HWR : Hid (IsWr wr a ws) := HW2.out.below hbe
      have HSB : Hid (errB ws = 0 → sumF ws ≤ 17408) := errB_sum ws
      clear hbe HE2
      obtain ⟨c, hc, hcc⟩ : ∃ c : Nat, c ≤ ws.length ∧ ((0 ≤ cut ∧ cut ≤ ws.length ∧ cut = c) ∨ (cut < 0 ∧ c = ws.length / 2) ∨ ((ws.length : Int) < cut ∧ c = ws.length / 2)) := by
        by_cases q : 0 ≤ cut ∧ cut ≤ ws.length
        · exact ⟨cut.toNat, by omega, .inl ⟨q.1, q.2, by omega⟩⟩
        · exact ⟨ws.length / 2, by omega, .inr (by omega)⟩
      have hX : ((ws.length : Int) / 2) = ((ws.length / 2 : Nat) : Int) := by omega
      have HX : Hid (((ws.length : Int) / 2) = ((ws.length / 2 : Nat) : Int)) := hX
      clear hX
      rcases hcc with ⟨q1, q2, q3⟩ | ⟨q1, q3⟩ | ⟨q1, q3⟩
      all_goals
        have HQ : Hid (_ = _) := q3
        clear q3
        go_wp2_with fail
      · rw [HQ.out]
        clear HQ q1 q2
        have p1 : (0 : Int) ≤ (c : Int) := by omega
        have p2 : (c : Int) ≤ (ws.length : Int) := by omega
        have p3 : (c : Int) ≤ (cap : Int) := by omega
        have p4 : (ws.length : Int) ≤ (cap : Int) := by omega
        refine (checkBatch_any _ _ ws _ HWR.out).mono ?_
        rintro e w3 ⟨rfl, hb3⟩
        have HB3 : Hid (Below w2.heap.size w2 w3) := HBE.out.trans (hb3.mono HBE.out.size)
        have HW3 : Hid (IsWr w3 a ws) := HWR.out.below hb3
        obtain ⟨A1, A2, ts, ds, r1, r2, hT1, hT2, hSS⟩ := cutL a cap ws c w3 HW3.out HN.out hc hcap
        have HT1 : Hid (IsWr w3 A1 ts) := hT1
        have HT2 : Hid (IsWr w3 A2 ds) := hT2
        have HSS : Hid (wrap64 (sumF ts + sumF ds) = sumF ws) := hSS
        clear hb3 HX hT1 hT2 hSS HW HW2 HWR
        go_wp2_with fail
        refine (num_any _ _).mono ?_
        rintro e w4 ⟨rfl, hw⟩
        have hw2 := hw.symm
        clear hw
        subst hw2
        by_cases he : errB ws = 0
        · have ge : (errB ws == 0) = true := by rw [he]; rfl
          have hs := HSB.out he
          clear he HSB
          go_wp2
          go_region_held3 (fun w' => Below w3.heap.size w3 w') (first | exact keepB (by assumption) (by assumption) | exact (Below.refl _ _).drew)
            (first
              | (go_at_call_of 13 (Value.slice a ws.length cap); refine (batchWeight_any _ _ ws _ (HW3.out.below (by assumption))).mono ?_; rintro e w' ⟨rfl, hb⟩)
              | (go_at_call_of 13 (Value.slice A1 ts.length cap); refine (batchWeight_any _ _ ts _ (HT1.out.below (by assumption))).mono ?_; rintro e w' ⟨rfl, hb⟩)
              | (go_at_call_of 13 (Value.slice A2 ds.length (cap - c)); refine (batchWeight_any _ _ ds _ (HT2.out.below (by assumption))).mono ?_; rintro e w' ⟨rfl, hb⟩))
          have HB5 : Hid (Below w3.heap.size w3 w') := by assumption
          go_wp2
          go_ret
          refine ⟨?_, HB2.out.trans ((HB3.out.trans (HB5.out.mono HB3.out.size)).mono HB2.out.size)⟩
          have e2 := HSS.out
          rw [← wrapEq] at e2
          simp [e2]
        · have ge : (errB ws == 0) = false := by rw [beq_eq_false_iff_ne]; exact he
          clear he HSB
          go_wp2
          go_region_held3 (fun w' => Below w3.heap.size w3 w') (first | exact keepB (by assumption) (by assumption) | exact (Below.refl _ _).drew)
            (first
              | (go_at_call_of 13 (Value.slice a ws.length cap); refine (batchWeight_any _ _ ws _ (HW3.out.below (by assumption))).mono ?_; rintro e w' ⟨rfl, hb⟩)
              | (go_at_call_of 13 (Value.slice A1 ts.length cap); refine (batchWeight_any _ _ ts _ (HT1.out.below (by assumption))).mono ?_; rintro e w' ⟨rfl, hb⟩)
              | (go_at_call_of 13 (Value.slice A2 ds.length (cap - c)); refine (batchWeight_any _ _ ds _ (HT2.out.below (by assumption))).mono ?_; rintro e w' ⟨rfl, hb⟩))
          have HB5 : Hid (Below w3.heap.size w3 w') := by assumption
          go_wp2
          go_ret
          refine ⟨?_, HB2.out.trans ((HB3.out.trans (HB5.out.mono HB3.out.size)).mono HB2.out.size)⟩
          have e2 := HSS.out
          rw [← wrapEq] at e2
          simp [e2]
      all_goals
        rw [HX.out, ← HQ.out]
        clear HQ q1
        have p1 : (0 : Int) ≤ (c : Int) := by omega
        have p2 : (c : Int) ≤ (ws.length : Int) := by omega
        have p3 : (c : Int) ≤ (cap : Int) := by omega
        have p4 : (ws.length : Int) ≤ (cap : Int) := by omega
        refine (checkBatch_any _ _ ws _ HWR.out).mono ?_
        rintro e w3 ⟨rfl, hb3⟩
        have HB3 : Hid (Below w2.heap.size w2 w3) := HBE.out.trans (hb3.mono HBE.out.size)
        have HW3 : Hid (IsWr w3 a ws) := HWR.out.below hb3
        obtain ⟨A1, A2, ts, ds, r1, r2, hT1, hT2, hSS⟩ := cutL a cap ws c w3 HW3.out HN.out hc hcap
        have HT1 : Hid (IsWr w3 A1 ts) := hT1
        have HT2 : Hid (IsWr w3 A2 ds) := hT2
        have HSS : Hid (wrap64 (sumF ts + sumF ds) = sumF ws) := hSS
        clear hb3 HX hT1 hT2 hSS HW HW2 HWR
        go_wp2_with fail
        refine (num_any _ _).mono ?_
        rintro e w4 ⟨rfl, hw⟩
        have hw2 := hw.symm
        clear hw
        subst hw2
        by_cases he : errB ws = 0
        · have ge : (errB ws == 0) = true := by rw [he]; rfl
          have hs := HSB.out he
          clear he HSB
          go_wp2
          go_region_held3 (fun w' => Below w3.heap.size w3 w') (first | exact keepB (by assumption) (by assumption) | exact (Below.refl _ _).drew)
            (first
              | (go_at_call_of 13 (Value.slice a ws.length cap); refine (batchWeight_any _ _ ws _ (HW3.out.below (by assumption))).mono ?_; rintro e w' ⟨rfl, hb⟩)
              | (go_at_call_of 13 (Value.slice A1 ts.length cap); refine (batchWeight_any _ _ ts _ (HT1.out.below (by assumption))).mono ?_; rintro e w' ⟨rfl, hb⟩)
              | (go_at_call_of 13 (Value.slice A2 ds.length (cap - c)); refine (batchWeight_any _ _ ds _ (HT2.out.below (by assumption))).mono ?_; rintro e w' ⟨rfl, hb⟩))
          have HB5 : Hid (Below w3.heap.size w3 w') := by assumption
          go_wp2
          go_ret
          refine ⟨?_, HB2.out.trans ((HB3.out.trans (HB5.out.mono HB3.out.size)).mono HB2.out.size)⟩
          have e2 := HSS.out
          rw [← wrapEq] at e2
          simp [e2]
        · have ge : (errB ws == 0) = false := by rw [beq_eq_false_iff_ne]; exact he
          clear he HSB
          go_wp2
          go_region_held3 (fun w' => Below w3.heap.size w3 w') (first | exact keepB (by assumption) (by assumption) | exact (Below.refl _ _).drew)
            (first
              | (go_at_call_of 13 (Value.slice a ws.length cap); refine (batchWeight_any _ _ ws _ (HW3.out.below (by assumption))).mono ?_; rintro e w' ⟨rfl, hb⟩)
              | (go_at_call_of 13 (Value.slice A1 ts.length cap); refine (batchWeight_any _ _ ts _ (HT1.out.below (by assumption))).mono ?_; rintro e w' ⟨rfl, hb⟩)
              | (go_at_call_of 13 (Value.slice A2 ds.length (cap - c)); refine (batchWeight_any _ _ ds _ (HT2.out.below (by assumption))).mono ?_; rintro e w' ⟨rfl, hb⟩))
          have HB5 : Hid (Below w3.heap.size w3 w') := by assumption
          go_wp2
          go_ret
          refine ⟨?_, HB2.out.trans ((HB3.out.trans (HB5.out.mono HB3.out.size)).mono HB2.out.size)⟩
          have e2 := HSS.out
          rw [← wrapEq] at e2
          simp [e2]
end KeyBounds
end Go.Proofs.Ytkknpcpioodhaab
