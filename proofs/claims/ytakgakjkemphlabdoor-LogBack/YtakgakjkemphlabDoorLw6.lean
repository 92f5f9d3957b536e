import Derived.Test.YtakgakjkemphlabDoorLd1
import Derived.Test.YtakgakjkemphlabDoorKw1
namespace Go.Proofs.YtakgakjkemphlabDoor
namespace Lgk
open Go.RowKit CMath Byt Cod Lg Lga Lgr Laws Crw Lgl Kwn
set_option linter.unusedVariables false
set_option linter.unusedSimpArgs false
set_option maxRecDepth 20000

theorem below_two {w w1 w2 : World} (h : Below w.heap.size w w1) (h2 : Below w1.heap.size w1 w2) : Below w.heap.size w w2 := h.trans (h2.mono h.size)
def lk (rs : List (List Nat)) (k : Nat) : Nat := (laidF [] (rs.take k)).length
theorem ends_rd {w : World} {base n : Nat} {rs : List (List Nat)} {v : Value} (h : w.ownsRow base 3 1 v n (endsK rs n)) : ∃ ae ce, v = .slice ae n ce ∧ ∀ k, k < n → ∃ g, ae = some ⟨g, 0, none⟩ ∧ g < w.heap.size ∧ w.cell? ⟨g, k, none⟩ = some (.int .i64 (lk rs (k + 1) : Int)) := by
  rcases h.2 with ⟨e, h0⟩ | ⟨g, cap, cur, hv, hb, hh, hr⟩
  · exact ⟨none, 0, by rw [e, h0], fun k hk => by omega⟩
  · subst hv
    refine ⟨some ⟨g, 0, none⟩, cap, rfl, fun k hk => ⟨g, rfl, (h.lt g rfl).2, ?_⟩⟩
    rw [h.cellAt k (by omega)]
    simp [endsK, hk, lk]

theorem isB_take {w : World} {a : Option Addr} {l : List Nat} (h : IsB w a l) (k : Nat) : IsB w a (l.take k) := by
  refine ⟨fun hne => ?_, fun x hx => h.2 x (List.mem_of_mem_take hx)⟩
  obtain ⟨b, off, e, hr⟩ := h.1 (by rintro rfl; simp at hne)
  refine ⟨b, off, e, hr.1, fun i x hx => ?_⟩
  have hi : i < k := by have := (List.getElem?_eq_some_iff.1 hx).1; simp at this; omega
  rw [List.getElem?_take_of_lt hi] at hx
  exact hr.2 i x hx
theorem more_len {rs ys : List (List Nat)} (h : rs <+: ys) : (laidF [] rs).length ≤ (laidF [] ys).length := by
  obtain ⟨t, rfl⟩ := h
  rw [laidF_append]
  exact (laidF_pre t _).length_le

set_option maxHeartbeats 4000000 in
theorem walk (a : Option Addr) (cap : Nat) (rs : List (List Nat)) (cc : Int) (am : Option Addr) (cm : Nat) (lm : List Nat) (w : World) (hD : IsD w a rs) (hna : a = none → cap = 0) (hle : rs.length ≤ cap) (hmx : cap ≤ 9223372036854775807) (hcc : -9223372036854775808 ≤ cc ∧ cc ≤ 9223372036854775807) (hM : IsB w am lm) (hMn : am = none → cm = 0) (hMl : lm.length ≤ cm) (hMx : cm ≤ 9223372036854775807) (ht : Tab w) :
    Calls Tryd.prog 3 #[.slice a rs.length cap, .int .i64 cc, .slice am lm.length cm] w fun e w' => e = .returned (.bool true) ∧ Below w.heap.size w w' := by
  obtain ⟨i8, hi8, hz0, hz1, hz2⟩ := info_parts info8
  have HD : Hid (IsD w a rs ∧ (a = none → cap = 0)) := ⟨hD, hna⟩
  have HM : Hid (IsB w am lm ∧ (am = none → cm = 0)) := ⟨hM, hMn⟩
  have HT : Hid (Tab w) := ht
  obtain ⟨n, hn⟩ : ∃ n, rs.length = n := ⟨_, rfl⟩
  have HN : Hid (rs.length = n) := hn
  rw [hn] at hle ⊢
  clear hD hna hM hMn ht hn
  by_cases hl : 65536 < lm.length
  · have q1 : (65536 : Int) < (lm.length : Int) := by omega
    go_enter Tryd.func3, Tryd.ntmps3
    go_wp2
    go_ret
    exact ⟨rfl, Below.refl _ _⟩
  · have q1 : ¬ (65536 : Int) < (lm.length : Int) := by omega
    go_enter Tryd.func3, Tryd.ntmps3
    go_wp2_with fail
    refine (known_any w HT.out).mono ?_
    rintro e w1 ⟨rfl, hb1⟩
    have HB1 : Hid (Below w.heap.size w w1) := hb1
    clear hb1
    go_wp2_with fail
    refine (laid_any a cap n rs w1 (HD.out.1.below HB1.out) HN.out.symm (by omega) (HT.out.below HB1.out HT.out.lt)).mono ?_
    rintro e w2 (⟨rfl, hb2⟩ | ⟨vb, ve, rfl, hld, hB7, hnB⟩)
    · have HB2 : Hid (Below w.heap.size w w2) := below_two HB1.out hb2
      clear hb2
      go_wp2
      go_ret
      exact ⟨rfl, HB2.out⟩
    · obtain ⟨hld1, hld2, hb2⟩ := hld
      have HB2 : Hid (Below w.heap.size w w2) := below_two HB1.out hb2
      rw [HN.out] at hld2 hnB
      rw [List.take_length] at hld1
      have HRB : Hid (∀ r ∈ rs, ∀ x ∈ r, x < 256) := (fun r hr => by
        obtain ⟨i, hi⟩ := List.getElem?_of_mem hr
        have hil := (List.getElem?_eq_some_iff.1 hi).1
        obtain ⟨b, off, ad, c, _, _, _, hib, _⟩ := HD.out.1.rd hil
        have e : rs.getD i [] = r := by simp [hi]
        rw [e] at hib
        exact hib.2)
      have HBY : Hid (∀ x ∈ laidF [] rs, x < 256) := laidF_byte rs [] (by simp) HRB.out
      obtain ⟨ab, cb, rfl, hnew⟩ := New.of hld1 HBY.out
      obtain ⟨ae, ce, rfl, hends⟩ := ends_rd hld2
      obtain ⟨L, hLL⟩ : ∃ L, (laidF [] rs).length = L := ⟨_, rfl⟩
      have HL : Hid ((laidF [] rs).length = L) := hLL
      have hle2 := hnew.le
      have hmx2 := hnew.max
      rw [hLL] at hB7 hnB hle2 ⊢
      have HW : Hid (New 5 w1.heap.size w2 ab cb (laidF [] rs) ∧ ∀ k, k < n → ∃ g, ae = some ⟨g, 0, none⟩ ∧ g < w2.heap.size ∧ w2.cell? ⟨g, k, none⟩ = some (.int .i64 (lk rs (k + 1) : Int))) := ⟨hnew, hends⟩
      clear hb2 hld1 hld2 hnew hends hLL
      go_wp2_with fail
      refine (read_any cb L (laidF [] rs) w2 ab HW.out.1.isB HW.out.1.cap (HT.out.below HB2.out HT.out.lt) HL.out.symm hle2 (by omega)).mono ?_
      rintro e w3 ⟨rs1, a3, c3, rfl, hR, hC3, _, _, _, _, hb3⟩
      obtain rfl : rs1 = rs := Reads.uniq HBY.out hR (back_all rs)
      rw [if_pos rfl, HL.out, HN.out]
      have H3 : Hid (IsD w3 a3 rs1 ∧ Below w2.heap.size w2 w3) := ⟨hC3.isD, hb3⟩
      clear hR hC3 hb3
      go_wp2_with fail
      refine (sameRecords_any a3 a c3 cap n n rs1 w3 H3.out.1 (HD.out.1.below (below_two HB2.out H3.out.2)) HN.out.symm HN.out.symm (by rw [HN.out]; omega)).mono ?_
      rintro e w' ⟨rfl, d4, rfl⟩
      have H4 : Hid (Below w2.heap.size w2 (w3.drewN d4)) := below_two H3.out.2 (below_drewN (Below.refl _ _) _)
      generalize w3.drewN d4 = w4 at *
      clear H3
      go_wp2_with fail
      refine (num_any _ w4).mono ?_
      rintro e w' ⟨rfl, hw5⟩
      obtain rfl := hw5.symm
      clear hw5
      obtain ⟨m, hm⟩ : ∃ m, Int.tmod cc ((L : Int) + 1) = m := ⟨_, rfl⟩
      have hm1 : -(L : Int) ≤ m ∧ m ≤ L := by
        have h1 := Int.tmod_lt_of_pos cc (show (0 : Int) < (L : Int) + 1 by omega)
        have h2 := Int.tmod_lt_of_pos (-cc) (show (0 : Int) < (L : Int) + 1 by omega)
        rw [Int.neg_tmod] at h2
        omega
      have q2 : ¬ (L : Int) + 1 = 0 := by omega
      by_cases hneg : m < 0
      · obtain ⟨C, hC⟩ : ∃ C : Nat, m + (L : Int) + 1 = (C : Int) := ⟨(m + L + 1).toNat, by omega⟩
        have hCL : C ≤ L := by omega
        go_wp2
        go_loopw [13, 14] (fun vk vl wr => ∃ k : Nat, k ≤ n ∧ vk = .int .i64 (k : Int) ∧ vl = .int .i64 (lk rs1 k : Int) ∧ lk rs1 k ≤ C ∧ Hid (Below w2.heap.size w2 wr)) (fun vk _ _ => n - (intOf vk).toNat)
        case atStart => exact ⟨0, Nat.zero_le _, rfl, by simp [lk, laidF], by simp [lk, laidF], H4.out⟩
        case round =>
          obtain ⟨k, hk, rfl, rfl, hlk, HY⟩ := hrel
          rename World => wr
          obtain ⟨Wk, hWk⟩ : ∃ Wk, lk rs1 k = Wk := ⟨_, rfl⟩
          have HWk : Hid (lk rs1 k = Wk) := hWk
          rw [hWk] at hlk ⊢
          clear hWk
          by_cases hlt : k < n
          · have q3 : (k : Int) < (n : Int) := by omega
            obtain ⟨g, rfl, hg, hcell⟩ := HW.out.2 k hlt
            have x0 : wr.cell? ⟨g, k, none⟩ = some (.int .i64 (lk rs1 (k + 1) : Int)) := (HY.out.cell (p := ⟨g, k, none⟩) hg).trans hcell
            obtain ⟨W1, hW1⟩ : ∃ W1, lk rs1 (k + 1) = W1 := ⟨_, rfl⟩
            have HW1 : Hid (lk rs1 (k + 1) = W1) := hW1
            rw [hW1] at x0
            clear hW1 hcell
            by_cases hle3 : W1 ≤ C
            · have q4 : (W1 : Int) ≤ (C : Int) := by omega
              go_wp2
              go_roundw
              case rel => exact ⟨k + 1, by omega, by go_num, by rw [HW1.out], by rw [HW1.out]; exact hle3, HY.out⟩
              case measure => simp [intOf]; omega
            · have q4 : ¬ (W1 : Int) ≤ (C : Int) := by omega
              have HR : Hid (Reads ((laidF [] rs1).take C) (rs1.take k)) := back_cut rs1 HRB.out C k (by rw [HN.out]; exact hk) (by show lk rs1 k ≤ C; rw [HWk.out]; exact hlk) (fun _ => by show C < lk rs1 (k + 1); rw [HW1.out]; omega)
              have HBW : Hid (Below w.heap.size w wr) := below_two HB2.out HY.out
              have HTC : Hid (((laidF [] rs1).take C).length = C) := by show _ = _; rw [List.length_take, HL.out]; omega
              have HTK : Hid ((rs1.take k).length = k) := by show _ = _; rw [List.length_take, HN.out]; omega
              have t1 : (C : Int) ≤ (cb : Int) := by omega
              have t2 : (k : Int) ≤ (cap : Int) := by omega
              have t3 : (Wk : Int) ≤ (C : Int) := by omega
              go_wp2_with fail
              refine (read_any cb C ((laidF [] rs1).take C) wr ab (isB_take (HW.out.1.isB.below HY.out) C) HW.out.1.cap (HT.out.below HBW.out HT.out.lt) HTC.out.symm (by omega) (by omega)).mono ?_
              rintro e w5 ⟨rs2, a5, c5, rfl, hR2, hC5, _, _, _, _, hb5⟩
              obtain rfl : rs2 = rs1.take k := Reads.uniq (fun x hx => HBY.out x (List.mem_of_mem_take hx)) hR2 HR.out
              rw [show (laidF [] (rs1.take k)).length = Wk from HWk.out, HTC.out, HTK.out]
              have H5 : Hid (IsD w5 a5 (rs1.take k) ∧ Below w2.heap.size w2 w5) := ⟨hC5.isD, below_two HY.out hb5⟩
              clear hR2 hC5 hb5
              by_cases hwc : Wk = C
              · subst hwc
                rw [if_pos rfl]
                go_wp2_with fail
                refine (sameRecords_any a5 a c5 cap k k (rs1.take k) w5 H5.out.1 ((HD.out.1.below (below_two HB2.out H5.out.2)).take k) HTK.out.symm HTK.out.symm (by rw [HTK.out]; omega)).mono ?_
                rintro e w' ⟨rfl, d6, rfl⟩
                have H6 : Hid (Below w2.heap.size w2 (w5.drewN d6)) := below_two H5.out.2 (below_drewN (Below.refl _ _) _)
                generalize w5.drewN d6 = w6 at *
                have hs6 := (below_two HB2.out H6.out).size
                go_wp2_with (first
                  | (go_at_call 11; refine (num_any _ _).mono ?_; rintro e w66 ⟨rfl, hw66⟩; obtain rfl := hw66.symm)
                  | (at_builtin; refine wpList_appB (by rfl) (.const (.slice none 0 0)) (.tmp 124) 23 (by rfl) w.heap.size 5 i8 Tryd.underlying23 hi8 hz0 hz1 hz2 (.slice none 0 0) [] 0 (by rfl) (World.ownsRow_nil _ _ _ _) ab L cb (laidF [] rs1) (by rfl) HL.out.symm HW.out.1.cap (HW.out.1.isB.below H6.out) (by omega) hs6 ?_; intro v7 w7 hown7 hgr7 _; have H7 : Hid (w7.ownsRow w.heap.size 5 1 v7 L (cellsB (laidF [] rs1)) ∧ Below w.heap.size w w7) := ⟨(by rw [List.nil_append, Nat.zero_add] at hown7; exact hown7), below_of (below_two HB2.out H6.out) hgr7 (Nat.le_refl _) (fun j hj => by cases hj)⟩; have hs7 := H7.out.2.size; clear hown7 hgr7)
                  | (at_builtin; refine wpList_appB (by rfl) (.tmp 125) (.tmp 126) 23 (by rfl) w.heap.size 5 i8 Tryd.underlying23 hi8 hz0 hz1 hz2 v7 (laidF [] rs1) L (by rfl) H7.out.1 am lm.length cm lm (by rfl) rfl HM.out.2 (HM.out.1.below H7.out.2) (by omega) hs7 ?_; intro v8 w8 hown8 hgr8 _; obtain ⟨a8, c8, rfl, hn8⟩ := New.of hown8 (by intro x hx; rcases List.mem_append.1 hx with h | h; exact HBY.out x h; exact HM.out.1.2 x h); have hl8 : (laidF [] rs1 ++ lm).length = L + lm.length := (by rw [List.length_append, HL.out]); rw [hl8]; have hle8 := hn8.le; rw [hl8] at hle8; have H8 : Hid (New 5 w.heap.size w8 a8 c8 (laidF [] rs1 ++ lm) ∧ Below w.heap.size w w8 ∧ (laidF [] rs1 ++ lm).length = L + lm.length) := ⟨hn8, below_of H7.out.2 hgr8 (Nat.le_refl _) (fun j hj => (H7.out.1.lt j hj).1), hl8⟩; clear hown8 hgr8 hn8 hl8))
                refine (read_any c8 (L + lm.length) (laidF [] rs1 ++ lm) w8 a8 H8.out.1.isB H8.out.1.cap (HT.out.below H8.out.2.1 HT.out.lt) H8.out.2.2.symm hle8 (by omega)).mono ?_
                rintro e w9 ⟨rs9, a9, c9, rfl, hR9, hC9, hlc9, hnc9, hmc9, _, hb9⟩
                have hpre : rs1 <+: rs9 := Reads.more (by intro x hx; rcases List.mem_append.1 hx with h | h; exact HBY.out x h; exact HM.out.1.2 x h) hR9 (List.prefix_append _ _)
                have htk9 : rs9.take n = rs1 := by rw [← HN.out]; exact (List.prefix_iff_eq_take.1 hpre).symm
                have H9 : Hid (IsD w9 a9 rs1 ∧ Below w.heap.size w w9) := ⟨by have h := hC9.isD.take n; rw [htk9] at h; exact h, below_two H8.out.2.1 hb9⟩
                have hln9 := hpre.length_le
                have hlw9 := more_len hpre
                rw [HN.out] at hln9
                rw [HL.out] at hlw9
                generalize (if (laidF [] rs9).length = (laidF [] rs1 ++ lm).length then (0 : Int) else 70) = EE at *
                obtain ⟨N9, hN9⟩ : ∃ N9, rs9.length = N9 := ⟨_, rfl⟩
                obtain ⟨W9, hW9⟩ : ∃ W9, (laidF [] rs9).length = W9 := ⟨_, rfl⟩
                rw [hN9] at hln9 hlc9
                rw [hW9] at hlw9
                rw [hN9, hW9]
                clear hR9 hC9 hpre htk9 hN9 hW9 hb9
                have y1 : (n : Int) ≤ (N9 : Int) := by omega
                have y2 : (L : Int) ≤ (W9 : Int) := by omega
                have y3 : (n : Int) ≤ (c9 : Int) := by omega
                cases a9 with
                | none =>
                  obtain rfl : c9 = 0 := hnc9 rfl
                  obtain rfl : n = 0 := by omega
                  go_wp2_with fail
                  refine (sameRecords_any none a 0 cap 0 0 rs1 w9 H9.out.1 (HD.out.1.below H9.out.2) HN.out.symm HN.out.symm (by rw [HN.out]; omega)).mono ?_
                  rintro e w' ⟨rfl, d10, rfl⟩
                  have H10 : Hid (Below w.heap.size w (w9.drewN d10)) := below_two H9.out.2 (below_drewN (Below.refl _ _) _)
                  generalize w9.drewN d10 = w10 at *
                  go_wp2
                  go_ret
                  exact ⟨rfl, H10.out⟩
                | some p9 =>
                  clear hnc9
                  go_wp2_with fail
                  refine (sameRecords_any (some p9) a c9 cap n n rs1 w9 H9.out.1 (HD.out.1.below H9.out.2) HN.out.symm HN.out.symm (by rw [HN.out]; omega)).mono ?_
                  rintro e w' ⟨rfl, d10, rfl⟩
                  have H10 : Hid (Below w.heap.size w (w9.drewN d10)) := below_two H9.out.2 (below_drewN (Below.refl _ _) _)
                  generalize w9.drewN d10 = w10 at *
                  go_wp2
                  go_ret
                  exact ⟨rfl, H10.out⟩
              · rw [if_neg hwc]
                have z1 : ¬ (Wk : Int) = (C : Int) := by omega
                go_wp2_with fail
                refine (sameRecords_any a5 a c5 cap k k (rs1.take k) w5 H5.out.1 ((HD.out.1.below (below_two HB2.out H5.out.2)).take k) HTK.out.symm HTK.out.symm (by rw [HTK.out]; omega)).mono ?_
                rintro e w' ⟨rfl, d6, rfl⟩
                have H6 : Hid (Below w2.heap.size w2 (w5.drewN d6)) := below_two H5.out.2 (below_drewN (Below.refl _ _) _)
                generalize w5.drewN d6 = w6 at *
                have hs6 := (below_two HB2.out H6.out).size
                go_wp2_with (first
                  | (go_at_call 11; refine (num_any _ _).mono ?_; rintro e w66 ⟨rfl, hw66⟩; obtain rfl := hw66.symm)
                  | (at_builtin; refine wpList_appB (by rfl) (.const (.slice none 0 0)) (.tmp 124) 23 (by rfl) w.heap.size 5 i8 Tryd.underlying23 hi8 hz0 hz1 hz2 (.slice none 0 0) [] 0 (by rfl) (World.ownsRow_nil _ _ _ _) ab L cb (laidF [] rs1) (by rfl) HL.out.symm HW.out.1.cap (HW.out.1.isB.below H6.out) (by omega) hs6 ?_; intro v7 w7 hown7 hgr7 _; have H7 : Hid (w7.ownsRow w.heap.size 5 1 v7 L (cellsB (laidF [] rs1)) ∧ Below w.heap.size w w7) := ⟨(by rw [List.nil_append, Nat.zero_add] at hown7; exact hown7), below_of (below_two HB2.out H6.out) hgr7 (Nat.le_refl _) (fun j hj => by cases hj)⟩; have hs7 := H7.out.2.size; clear hown7 hgr7)
                  | (at_builtin; refine wpList_appB (by rfl) (.tmp 125) (.tmp 126) 23 (by rfl) w.heap.size 5 i8 Tryd.underlying23 hi8 hz0 hz1 hz2 v7 (laidF [] rs1) L (by rfl) H7.out.1 am lm.length cm lm (by rfl) rfl HM.out.2 (HM.out.1.below H7.out.2) (by omega) hs7 ?_; intro v8 w8 hown8 hgr8 _; obtain ⟨a8, c8, rfl, hn8⟩ := New.of hown8 (by intro x hx; rcases List.mem_append.1 hx with h | h; exact HBY.out x h; exact HM.out.1.2 x h); have hl8 : (laidF [] rs1 ++ lm).length = L + lm.length := (by rw [List.length_append, HL.out]); rw [hl8]; have hle8 := hn8.le; rw [hl8] at hle8; have H8 : Hid (New 5 w.heap.size w8 a8 c8 (laidF [] rs1 ++ lm) ∧ Below w.heap.size w w8 ∧ (laidF [] rs1 ++ lm).length = L + lm.length) := ⟨hn8, below_of H7.out.2 hgr8 (Nat.le_refl _) (fun j hj => (H7.out.1.lt j hj).1), hl8⟩; clear hown8 hgr8 hn8 hl8))
                refine (read_any c8 (L + lm.length) (laidF [] rs1 ++ lm) w8 a8 H8.out.1.isB H8.out.1.cap (HT.out.below H8.out.2.1 HT.out.lt) H8.out.2.2.symm hle8 (by omega)).mono ?_
                rintro e w9 ⟨rs9, a9, c9, rfl, hR9, hC9, hlc9, hnc9, hmc9, _, hb9⟩
                have hpre : rs1 <+: rs9 := Reads.more (by intro x hx; rcases List.mem_append.1 hx with h | h; exact HBY.out x h; exact HM.out.1.2 x h) hR9 (List.prefix_append _ _)
                have htk9 : rs9.take n = rs1 := by rw [← HN.out]; exact (List.prefix_iff_eq_take.1 hpre).symm
                have H9 : Hid (IsD w9 a9 rs1 ∧ Below w.heap.size w w9) := ⟨by have h := hC9.isD.take n; rw [htk9] at h; exact h, below_two H8.out.2.1 hb9⟩
                have hln9 := hpre.length_le
                have hlw9 := more_len hpre
                rw [HN.out] at hln9
                rw [HL.out] at hlw9
                generalize (if (laidF [] rs9).length = (laidF [] rs1 ++ lm).length then (0 : Int) else 70) = EE at *
                obtain ⟨N9, hN9⟩ : ∃ N9, rs9.length = N9 := ⟨_, rfl⟩
                obtain ⟨W9, hW9⟩ : ∃ W9, (laidF [] rs9).length = W9 := ⟨_, rfl⟩
                rw [hN9] at hln9 hlc9
                rw [hW9] at hlw9
                rw [hN9, hW9]
                clear hR9 hC9 hpre htk9 hN9 hW9 hb9
                have y1 : (n : Int) ≤ (N9 : Int) := by omega
                have y2 : (L : Int) ≤ (W9 : Int) := by omega
                have y3 : (n : Int) ≤ (c9 : Int) := by omega
                cases a9 with
                | none =>
                  obtain rfl : c9 = 0 := hnc9 rfl
                  obtain rfl : n = 0 := by omega
                  go_wp2_with fail
                  refine (sameRecords_any none a 0 cap 0 0 rs1 w9 H9.out.1 (HD.out.1.below H9.out.2) HN.out.symm HN.out.symm (by rw [HN.out]; omega)).mono ?_
                  rintro e w' ⟨rfl, d10, rfl⟩
                  have H10 : Hid (Below w.heap.size w (w9.drewN d10)) := below_two H9.out.2 (below_drewN (Below.refl _ _) _)
                  generalize w9.drewN d10 = w10 at *
                  go_wp2
                  go_ret
                  exact ⟨rfl, H10.out⟩
                | some p9 =>
                  clear hnc9
                  go_wp2_with fail
                  refine (sameRecords_any (some p9) a c9 cap n n rs1 w9 H9.out.1 (HD.out.1.below H9.out.2) HN.out.symm HN.out.symm (by rw [HN.out]; omega)).mono ?_
                  rintro e w' ⟨rfl, d10, rfl⟩
                  have H10 : Hid (Below w.heap.size w (w9.drewN d10)) := below_two H9.out.2 (below_drewN (Below.refl _ _) _)
                  generalize w9.drewN d10 = w10 at *
                  go_wp2
                  go_ret
                  exact ⟨rfl, H10.out⟩
          · have q3 : ¬ (k : Int) < (n : Int) := by omega
            have HR : Hid (Reads ((laidF [] rs1).take C) (rs1.take k)) := back_cut rs1 HRB.out C k (by rw [HN.out]; exact hk) (by show lk rs1 k ≤ C; rw [HWk.out]; exact hlk) (fun h => by rw [HN.out] at h; omega)
            have HBW : Hid (Below w.heap.size w wr) := below_two HB2.out HY.out
            have HTC : Hid (((laidF [] rs1).take C).length = C) := by show _ = _; rw [List.length_take, HL.out]; omega
            have HTK : Hid ((rs1.take k).length = k) := by show _ = _; rw [List.length_take, HN.out]; omega
            have t1 : (C : Int) ≤ (cb : Int) := by omega
            have t2 : (k : Int) ≤ (cap : Int) := by omega
            have t3 : (Wk : Int) ≤ (C : Int) := by omega
            go_wp2_with fail
            refine (read_any cb C ((laidF [] rs1).take C) wr ab (isB_take (HW.out.1.isB.below HY.out) C) HW.out.1.cap (HT.out.below HBW.out HT.out.lt) HTC.out.symm (by omega) (by omega)).mono ?_
            rintro e w5 ⟨rs2, a5, c5, rfl, hR2, hC5, _, _, _, _, hb5⟩
            obtain rfl : rs2 = rs1.take k := Reads.uniq (fun x hx => HBY.out x (List.mem_of_mem_take hx)) hR2 HR.out
            rw [show (laidF [] (rs1.take k)).length = Wk from HWk.out, HTC.out, HTK.out]
            have H5 : Hid (IsD w5 a5 (rs1.take k) ∧ Below w2.heap.size w2 w5) := ⟨hC5.isD, below_two HY.out hb5⟩
            clear hR2 hC5 hb5
            by_cases hwc : Wk = C
            · subst hwc
              rw [if_pos rfl]
              go_wp2_with fail
              refine (sameRecords_any a5 a c5 cap k k (rs1.take k) w5 H5.out.1 ((HD.out.1.below (below_two HB2.out H5.out.2)).take k) HTK.out.symm HTK.out.symm (by rw [HTK.out]; omega)).mono ?_
              rintro e w' ⟨rfl, d6, rfl⟩
              have H6 : Hid (Below w2.heap.size w2 (w5.drewN d6)) := below_two H5.out.2 (below_drewN (Below.refl _ _) _)
              generalize w5.drewN d6 = w6 at *
              have hs6 := (below_two HB2.out H6.out).size
              go_wp2_with (first
                | (go_at_call 11; refine (num_any _ _).mono ?_; rintro e w66 ⟨rfl, hw66⟩; obtain rfl := hw66.symm)
                | (at_builtin; refine wpList_appB (by rfl) (.const (.slice none 0 0)) (.tmp 124) 23 (by rfl) w.heap.size 5 i8 Tryd.underlying23 hi8 hz0 hz1 hz2 (.slice none 0 0) [] 0 (by rfl) (World.ownsRow_nil _ _ _ _) ab L cb (laidF [] rs1) (by rfl) HL.out.symm HW.out.1.cap (HW.out.1.isB.below H6.out) (by omega) hs6 ?_; intro v7 w7 hown7 hgr7 _; have H7 : Hid (w7.ownsRow w.heap.size 5 1 v7 L (cellsB (laidF [] rs1)) ∧ Below w.heap.size w w7) := ⟨(by rw [List.nil_append, Nat.zero_add] at hown7; exact hown7), below_of (below_two HB2.out H6.out) hgr7 (Nat.le_refl _) (fun j hj => by cases hj)⟩; have hs7 := H7.out.2.size; clear hown7 hgr7)
                | (at_builtin; refine wpList_appB (by rfl) (.tmp 125) (.tmp 126) 23 (by rfl) w.heap.size 5 i8 Tryd.underlying23 hi8 hz0 hz1 hz2 v7 (laidF [] rs1) L (by rfl) H7.out.1 am lm.length cm lm (by rfl) rfl HM.out.2 (HM.out.1.below H7.out.2) (by omega) hs7 ?_; intro v8 w8 hown8 hgr8 _; obtain ⟨a8, c8, rfl, hn8⟩ := New.of hown8 (by intro x hx; rcases List.mem_append.1 hx with h | h; exact HBY.out x h; exact HM.out.1.2 x h); have hl8 : (laidF [] rs1 ++ lm).length = L + lm.length := (by rw [List.length_append, HL.out]); rw [hl8]; have hle8 := hn8.le; rw [hl8] at hle8; have H8 : Hid (New 5 w.heap.size w8 a8 c8 (laidF [] rs1 ++ lm) ∧ Below w.heap.size w w8 ∧ (laidF [] rs1 ++ lm).length = L + lm.length) := ⟨hn8, below_of H7.out.2 hgr8 (Nat.le_refl _) (fun j hj => (H7.out.1.lt j hj).1), hl8⟩; clear hown8 hgr8 hn8 hl8))
              refine (read_any c8 (L + lm.length) (laidF [] rs1 ++ lm) w8 a8 H8.out.1.isB H8.out.1.cap (HT.out.below H8.out.2.1 HT.out.lt) H8.out.2.2.symm hle8 (by omega)).mono ?_
              rintro e w9 ⟨rs9, a9, c9, rfl, hR9, hC9, hlc9, hnc9, hmc9, _, hb9⟩
              have hpre : rs1 <+: rs9 := Reads.more (by intro x hx; rcases List.mem_append.1 hx with h | h; exact HBY.out x h; exact HM.out.1.2 x h) hR9 (List.prefix_append _ _)
              have htk9 : rs9.take n = rs1 := by rw [← HN.out]; exact (List.prefix_iff_eq_take.1 hpre).symm
              have H9 : Hid (IsD w9 a9 rs1 ∧ Below w.heap.size w w9) := ⟨by have h := hC9.isD.take n; rw [htk9] at h; exact h, below_two H8.out.2.1 hb9⟩
              have hln9 := hpre.length_le
              have hlw9 := more_len hpre
              rw [HN.out] at hln9
              rw [HL.out] at hlw9
              generalize (if (laidF [] rs9).length = (laidF [] rs1 ++ lm).length then (0 : Int) else 70) = EE at *
              obtain ⟨N9, hN9⟩ : ∃ N9, rs9.length = N9 := ⟨_, rfl⟩
              obtain ⟨W9, hW9⟩ : ∃ W9, (laidF [] rs9).length = W9 := ⟨_, rfl⟩
              rw [hN9] at hln9 hlc9
              rw [hW9] at hlw9
              rw [hN9, hW9]
              clear hR9 hC9 hpre htk9 hN9 hW9 hb9
              have y1 : (n : Int) ≤ (N9 : Int) := by omega
              have y2 : (L : Int) ≤ (W9 : Int) := by omega
              have y3 : (n : Int) ≤ (c9 : Int) := by omega
              cases a9 with
              | none =>
                obtain rfl : c9 = 0 := hnc9 rfl
                obtain rfl : n = 0 := by omega
                go_wp2_with fail
                refine (sameRecords_any none a 0 cap 0 0 rs1 w9 H9.out.1 (HD.out.1.below H9.out.2) HN.out.symm HN.out.symm (by rw [HN.out]; omega)).mono ?_
                rintro e w' ⟨rfl, d10, rfl⟩
                have H10 : Hid (Below w.heap.size w (w9.drewN d10)) := below_two H9.out.2 (below_drewN (Below.refl _ _) _)
                generalize w9.drewN d10 = w10 at *
                go_wp2
                go_ret
                exact ⟨rfl, H10.out⟩
              | some p9 =>
                clear hnc9
                go_wp2_with fail
                refine (sameRecords_any (some p9) a c9 cap n n rs1 w9 H9.out.1 (HD.out.1.below H9.out.2) HN.out.symm HN.out.symm (by rw [HN.out]; omega)).mono ?_
                rintro e w' ⟨rfl, d10, rfl⟩
                have H10 : Hid (Below w.heap.size w (w9.drewN d10)) := below_two H9.out.2 (below_drewN (Below.refl _ _) _)
                generalize w9.drewN d10 = w10 at *
                go_wp2
                go_ret
                exact ⟨rfl, H10.out⟩
            · rw [if_neg hwc]
              have z1 : ¬ (Wk : Int) = (C : Int) := by omega
              go_wp2_with fail
              refine (sameRecords_any a5 a c5 cap k k (rs1.take k) w5 H5.out.1 ((HD.out.1.below (below_two HB2.out H5.out.2)).take k) HTK.out.symm HTK.out.symm (by rw [HTK.out]; omega)).mono ?_
              rintro e w' ⟨rfl, d6, rfl⟩
              have H6 : Hid (Below w2.heap.size w2 (w5.drewN d6)) := below_two H5.out.2 (below_drewN (Below.refl _ _) _)
              generalize w5.drewN d6 = w6 at *
              have hs6 := (below_two HB2.out H6.out).size
              go_wp2_with (first
                | (go_at_call 11; refine (num_any _ _).mono ?_; rintro e w66 ⟨rfl, hw66⟩; obtain rfl := hw66.symm)
                | (at_builtin; refine wpList_appB (by rfl) (.const (.slice none 0 0)) (.tmp 124) 23 (by rfl) w.heap.size 5 i8 Tryd.underlying23 hi8 hz0 hz1 hz2 (.slice none 0 0) [] 0 (by rfl) (World.ownsRow_nil _ _ _ _) ab L cb (laidF [] rs1) (by rfl) HL.out.symm HW.out.1.cap (HW.out.1.isB.below H6.out) (by omega) hs6 ?_; intro v7 w7 hown7 hgr7 _; have H7 : Hid (w7.ownsRow w.heap.size 5 1 v7 L (cellsB (laidF [] rs1)) ∧ Below w.heap.size w w7) := ⟨(by rw [List.nil_append, Nat.zero_add] at hown7; exact hown7), below_of (below_two HB2.out H6.out) hgr7 (Nat.le_refl _) (fun j hj => by cases hj)⟩; have hs7 := H7.out.2.size; clear hown7 hgr7)
                | (at_builtin; refine wpList_appB (by rfl) (.tmp 125) (.tmp 126) 23 (by rfl) w.heap.size 5 i8 Tryd.underlying23 hi8 hz0 hz1 hz2 v7 (laidF [] rs1) L (by rfl) H7.out.1 am lm.length cm lm (by rfl) rfl HM.out.2 (HM.out.1.below H7.out.2) (by omega) hs7 ?_; intro v8 w8 hown8 hgr8 _; obtain ⟨a8, c8, rfl, hn8⟩ := New.of hown8 (by intro x hx; rcases List.mem_append.1 hx with h | h; exact HBY.out x h; exact HM.out.1.2 x h); have hl8 : (laidF [] rs1 ++ lm).length = L + lm.length := (by rw [List.length_append, HL.out]); rw [hl8]; have hle8 := hn8.le; rw [hl8] at hle8; have H8 : Hid (New 5 w.heap.size w8 a8 c8 (laidF [] rs1 ++ lm) ∧ Below w.heap.size w w8 ∧ (laidF [] rs1 ++ lm).length = L + lm.length) := ⟨hn8, below_of H7.out.2 hgr8 (Nat.le_refl _) (fun j hj => (H7.out.1.lt j hj).1), hl8⟩; clear hown8 hgr8 hn8 hl8))
              refine (read_any c8 (L + lm.length) (laidF [] rs1 ++ lm) w8 a8 H8.out.1.isB H8.out.1.cap (HT.out.below H8.out.2.1 HT.out.lt) H8.out.2.2.symm hle8 (by omega)).mono ?_
              rintro e w9 ⟨rs9, a9, c9, rfl, hR9, hC9, hlc9, hnc9, hmc9, _, hb9⟩
              have hpre : rs1 <+: rs9 := Reads.more (by intro x hx; rcases List.mem_append.1 hx with h | h; exact HBY.out x h; exact HM.out.1.2 x h) hR9 (List.prefix_append _ _)
              have htk9 : rs9.take n = rs1 := by rw [← HN.out]; exact (List.prefix_iff_eq_take.1 hpre).symm
              have H9 : Hid (IsD w9 a9 rs1 ∧ Below w.heap.size w w9) := ⟨by have h := hC9.isD.take n; rw [htk9] at h; exact h, below_two H8.out.2.1 hb9⟩
              have hln9 := hpre.length_le
              have hlw9 := more_len hpre
              rw [HN.out] at hln9
              rw [HL.out] at hlw9
              generalize (if (laidF [] rs9).length = (laidF [] rs1 ++ lm).length then (0 : Int) else 70) = EE at *
              obtain ⟨N9, hN9⟩ : ∃ N9, rs9.length = N9 := ⟨_, rfl⟩
              obtain ⟨W9, hW9⟩ : ∃ W9, (laidF [] rs9).length = W9 := ⟨_, rfl⟩
              rw [hN9] at hln9 hlc9
              rw [hW9] at hlw9
              rw [hN9, hW9]
              clear hR9 hC9 hpre htk9 hN9 hW9 hb9
              have y1 : (n : Int) ≤ (N9 : Int) := by omega
              have y2 : (L : Int) ≤ (W9 : Int) := by omega
              have y3 : (n : Int) ≤ (c9 : Int) := by omega
              cases a9 with
              | none =>
                obtain rfl : c9 = 0 := hnc9 rfl
                obtain rfl : n = 0 := by omega
                go_wp2_with fail
                refine (sameRecords_any none a 0 cap 0 0 rs1 w9 H9.out.1 (HD.out.1.below H9.out.2) HN.out.symm HN.out.symm (by rw [HN.out]; omega)).mono ?_
                rintro e w' ⟨rfl, d10, rfl⟩
                have H10 : Hid (Below w.heap.size w (w9.drewN d10)) := below_two H9.out.2 (below_drewN (Below.refl _ _) _)
                generalize w9.drewN d10 = w10 at *
                go_wp2
                go_ret
                exact ⟨rfl, H10.out⟩
              | some p9 =>
                clear hnc9
                go_wp2_with fail
                refine (sameRecords_any (some p9) a c9 cap n n rs1 w9 H9.out.1 (HD.out.1.below H9.out.2) HN.out.symm HN.out.symm (by rw [HN.out]; omega)).mono ?_
                rintro e w' ⟨rfl, d10, rfl⟩
                have H10 : Hid (Below w.heap.size w (w9.drewN d10)) := below_two H9.out.2 (below_drewN (Below.refl _ _) _)
                generalize w9.drewN d10 = w10 at *
                go_wp2
                go_ret
                exact ⟨rfl, H10.out⟩
      · obtain ⟨C, hC⟩ : ∃ C : Nat, m = (C : Int) := ⟨m.toNat, by omega⟩
        subst hC
        have hCL : C ≤ L := by omega
        go_wp2
        go_loopw [13, 14] (fun vk vl wr => ∃ k : Nat, k ≤ n ∧ vk = .int .i64 (k : Int) ∧ vl = .int .i64 (lk rs1 k : Int) ∧ lk rs1 k ≤ C ∧ Hid (Below w2.heap.size w2 wr)) (fun vk _ _ => n - (intOf vk).toNat)
        case atStart => exact ⟨0, Nat.zero_le _, rfl, by simp [lk, laidF], by simp [lk, laidF], H4.out⟩
        case round =>
          obtain ⟨k, hk, rfl, rfl, hlk, HY⟩ := hrel
          rename World => wr
          obtain ⟨Wk, hWk⟩ : ∃ Wk, lk rs1 k = Wk := ⟨_, rfl⟩
          have HWk : Hid (lk rs1 k = Wk) := hWk
          rw [hWk] at hlk ⊢
          clear hWk
          by_cases hlt : k < n
          · have q3 : (k : Int) < (n : Int) := by omega
            obtain ⟨g, rfl, hg, hcell⟩ := HW.out.2 k hlt
            have x0 : wr.cell? ⟨g, k, none⟩ = some (.int .i64 (lk rs1 (k + 1) : Int)) := (HY.out.cell (p := ⟨g, k, none⟩) hg).trans hcell
            obtain ⟨W1, hW1⟩ : ∃ W1, lk rs1 (k + 1) = W1 := ⟨_, rfl⟩
            have HW1 : Hid (lk rs1 (k + 1) = W1) := hW1
            rw [hW1] at x0
            clear hW1 hcell
            by_cases hle3 : W1 ≤ C
            · have q4 : (W1 : Int) ≤ (C : Int) := by omega
              go_wp2
              go_roundw
              case rel => exact ⟨k + 1, by omega, by go_num, by rw [HW1.out], by rw [HW1.out]; exact hle3, HY.out⟩
              case measure => simp [intOf]; omega
            · have q4 : ¬ (W1 : Int) ≤ (C : Int) := by omega
              have HR : Hid (Reads ((laidF [] rs1).take C) (rs1.take k)) := back_cut rs1 HRB.out C k (by rw [HN.out]; exact hk) (by show lk rs1 k ≤ C; rw [HWk.out]; exact hlk) (fun _ => by show C < lk rs1 (k + 1); rw [HW1.out]; omega)
              have HBW : Hid (Below w.heap.size w wr) := below_two HB2.out HY.out
              have HTC : Hid (((laidF [] rs1).take C).length = C) := by show _ = _; rw [List.length_take, HL.out]; omega
              have HTK : Hid ((rs1.take k).length = k) := by show _ = _; rw [List.length_take, HN.out]; omega
              have t1 : (C : Int) ≤ (cb : Int) := by omega
              have t2 : (k : Int) ≤ (cap : Int) := by omega
              have t3 : (Wk : Int) ≤ (C : Int) := by omega
              go_wp2_with fail
              refine (read_any cb C ((laidF [] rs1).take C) wr ab (isB_take (HW.out.1.isB.below HY.out) C) HW.out.1.cap (HT.out.below HBW.out HT.out.lt) HTC.out.symm (by omega) (by omega)).mono ?_
              rintro e w5 ⟨rs2, a5, c5, rfl, hR2, hC5, _, _, _, _, hb5⟩
              obtain rfl : rs2 = rs1.take k := Reads.uniq (fun x hx => HBY.out x (List.mem_of_mem_take hx)) hR2 HR.out
              rw [show (laidF [] (rs1.take k)).length = Wk from HWk.out, HTC.out, HTK.out]
              have H5 : Hid (IsD w5 a5 (rs1.take k) ∧ Below w2.heap.size w2 w5) := ⟨hC5.isD, below_two HY.out hb5⟩
              clear hR2 hC5 hb5
              by_cases hwc : Wk = C
              · subst hwc
                rw [if_pos rfl]
                go_wp2_with fail
                refine (sameRecords_any a5 a c5 cap k k (rs1.take k) w5 H5.out.1 ((HD.out.1.below (below_two HB2.out H5.out.2)).take k) HTK.out.symm HTK.out.symm (by rw [HTK.out]; omega)).mono ?_
                rintro e w' ⟨rfl, d6, rfl⟩
                have H6 : Hid (Below w2.heap.size w2 (w5.drewN d6)) := below_two H5.out.2 (below_drewN (Below.refl _ _) _)
                generalize w5.drewN d6 = w6 at *
                have hs6 := (below_two HB2.out H6.out).size
                go_wp2_with (first
                  | (go_at_call 11; refine (num_any _ _).mono ?_; rintro e w66 ⟨rfl, hw66⟩; obtain rfl := hw66.symm)
                  | (at_builtin; refine wpList_appB (by rfl) (.const (.slice none 0 0)) (.tmp 124) 23 (by rfl) w.heap.size 5 i8 Tryd.underlying23 hi8 hz0 hz1 hz2 (.slice none 0 0) [] 0 (by rfl) (World.ownsRow_nil _ _ _ _) ab L cb (laidF [] rs1) (by rfl) HL.out.symm HW.out.1.cap (HW.out.1.isB.below H6.out) (by omega) hs6 ?_; intro v7 w7 hown7 hgr7 _; have H7 : Hid (w7.ownsRow w.heap.size 5 1 v7 L (cellsB (laidF [] rs1)) ∧ Below w.heap.size w w7) := ⟨(by rw [List.nil_append, Nat.zero_add] at hown7; exact hown7), below_of (below_two HB2.out H6.out) hgr7 (Nat.le_refl _) (fun j hj => by cases hj)⟩; have hs7 := H7.out.2.size; clear hown7 hgr7)
                  | (at_builtin; refine wpList_appB (by rfl) (.tmp 125) (.tmp 126) 23 (by rfl) w.heap.size 5 i8 Tryd.underlying23 hi8 hz0 hz1 hz2 v7 (laidF [] rs1) L (by rfl) H7.out.1 am lm.length cm lm (by rfl) rfl HM.out.2 (HM.out.1.below H7.out.2) (by omega) hs7 ?_; intro v8 w8 hown8 hgr8 _; obtain ⟨a8, c8, rfl, hn8⟩ := New.of hown8 (by intro x hx; rcases List.mem_append.1 hx with h | h; exact HBY.out x h; exact HM.out.1.2 x h); have hl8 : (laidF [] rs1 ++ lm).length = L + lm.length := (by rw [List.length_append, HL.out]); rw [hl8]; have hle8 := hn8.le; rw [hl8] at hle8; have H8 : Hid (New 5 w.heap.size w8 a8 c8 (laidF [] rs1 ++ lm) ∧ Below w.heap.size w w8 ∧ (laidF [] rs1 ++ lm).length = L + lm.length) := ⟨hn8, below_of H7.out.2 hgr8 (Nat.le_refl _) (fun j hj => (H7.out.1.lt j hj).1), hl8⟩; clear hown8 hgr8 hn8 hl8))
                refine (read_any c8 (L + lm.length) (laidF [] rs1 ++ lm) w8 a8 H8.out.1.isB H8.out.1.cap (HT.out.below H8.out.2.1 HT.out.lt) H8.out.2.2.symm hle8 (by omega)).mono ?_
                rintro e w9 ⟨rs9, a9, c9, rfl, hR9, hC9, hlc9, hnc9, hmc9, _, hb9⟩
                have hpre : rs1 <+: rs9 := Reads.more (by intro x hx; rcases List.mem_append.1 hx with h | h; exact HBY.out x h; exact HM.out.1.2 x h) hR9 (List.prefix_append _ _)
                have htk9 : rs9.take n = rs1 := by rw [← HN.out]; exact (List.prefix_iff_eq_take.1 hpre).symm
                have H9 : Hid (IsD w9 a9 rs1 ∧ Below w.heap.size w w9) := ⟨by have h := hC9.isD.take n; rw [htk9] at h; exact h, below_two H8.out.2.1 hb9⟩
                have hln9 := hpre.length_le
                have hlw9 := more_len hpre
                rw [HN.out] at hln9
                rw [HL.out] at hlw9
                generalize (if (laidF [] rs9).length = (laidF [] rs1 ++ lm).length then (0 : Int) else 70) = EE at *
                obtain ⟨N9, hN9⟩ : ∃ N9, rs9.length = N9 := ⟨_, rfl⟩
                obtain ⟨W9, hW9⟩ : ∃ W9, (laidF [] rs9).length = W9 := ⟨_, rfl⟩
                rw [hN9] at hln9 hlc9
                rw [hW9] at hlw9
                rw [hN9, hW9]
                clear hR9 hC9 hpre htk9 hN9 hW9 hb9
                have y1 : (n : Int) ≤ (N9 : Int) := by omega
                have y2 : (L : Int) ≤ (W9 : Int) := by omega
                have y3 : (n : Int) ≤ (c9 : Int) := by omega
                cases a9 with
                | none =>
                  obtain rfl : c9 = 0 := hnc9 rfl
                  obtain rfl : n = 0 := by omega
                  go_wp2_with fail
                  refine (sameRecords_any none a 0 cap 0 0 rs1 w9 H9.out.1 (HD.out.1.below H9.out.2) HN.out.symm HN.out.symm (by rw [HN.out]; omega)).mono ?_
                  rintro e w' ⟨rfl, d10, rfl⟩
                  have H10 : Hid (Below w.heap.size w (w9.drewN d10)) := below_two H9.out.2 (below_drewN (Below.refl _ _) _)
                  generalize w9.drewN d10 = w10 at *
                  go_wp2
                  go_ret
                  exact ⟨rfl, H10.out⟩
                | some p9 =>
                  clear hnc9
                  go_wp2_with fail
                  refine (sameRecords_any (some p9) a c9 cap n n rs1 w9 H9.out.1 (HD.out.1.below H9.out.2) HN.out.symm HN.out.symm (by rw [HN.out]; omega)).mono ?_
                  rintro e w' ⟨rfl, d10, rfl⟩
                  have H10 : Hid (Below w.heap.size w (w9.drewN d10)) := below_two H9.out.2 (below_drewN (Below.refl _ _) _)
                  generalize w9.drewN d10 = w10 at *
                  go_wp2
                  go_ret
                  exact ⟨rfl, H10.out⟩
              · rw [if_neg hwc]
                have z1 : ¬ (Wk : Int) = (C : Int) := by omega
                go_wp2_with fail
                refine (sameRecords_any a5 a c5 cap k k (rs1.take k) w5 H5.out.1 ((HD.out.1.below (below_two HB2.out H5.out.2)).take k) HTK.out.symm HTK.out.symm (by rw [HTK.out]; omega)).mono ?_
                rintro e w' ⟨rfl, d6, rfl⟩
                have H6 : Hid (Below w2.heap.size w2 (w5.drewN d6)) := below_two H5.out.2 (below_drewN (Below.refl _ _) _)
                generalize w5.drewN d6 = w6 at *
                have hs6 := (below_two HB2.out H6.out).size
                go_wp2_with (first
                  | (go_at_call 11; refine (num_any _ _).mono ?_; rintro e w66 ⟨rfl, hw66⟩; obtain rfl := hw66.symm)
                  | (at_builtin; refine wpList_appB (by rfl) (.const (.slice none 0 0)) (.tmp 124) 23 (by rfl) w.heap.size 5 i8 Tryd.underlying23 hi8 hz0 hz1 hz2 (.slice none 0 0) [] 0 (by rfl) (World.ownsRow_nil _ _ _ _) ab L cb (laidF [] rs1) (by rfl) HL.out.symm HW.out.1.cap (HW.out.1.isB.below H6.out) (by omega) hs6 ?_; intro v7 w7 hown7 hgr7 _; have H7 : Hid (w7.ownsRow w.heap.size 5 1 v7 L (cellsB (laidF [] rs1)) ∧ Below w.heap.size w w7) := ⟨(by rw [List.nil_append, Nat.zero_add] at hown7; exact hown7), below_of (below_two HB2.out H6.out) hgr7 (Nat.le_refl _) (fun j hj => by cases hj)⟩; have hs7 := H7.out.2.size; clear hown7 hgr7)
                  | (at_builtin; refine wpList_appB (by rfl) (.tmp 125) (.tmp 126) 23 (by rfl) w.heap.size 5 i8 Tryd.underlying23 hi8 hz0 hz1 hz2 v7 (laidF [] rs1) L (by rfl) H7.out.1 am lm.length cm lm (by rfl) rfl HM.out.2 (HM.out.1.below H7.out.2) (by omega) hs7 ?_; intro v8 w8 hown8 hgr8 _; obtain ⟨a8, c8, rfl, hn8⟩ := New.of hown8 (by intro x hx; rcases List.mem_append.1 hx with h | h; exact HBY.out x h; exact HM.out.1.2 x h); have hl8 : (laidF [] rs1 ++ lm).length = L + lm.length := (by rw [List.length_append, HL.out]); rw [hl8]; have hle8 := hn8.le; rw [hl8] at hle8; have H8 : Hid (New 5 w.heap.size w8 a8 c8 (laidF [] rs1 ++ lm) ∧ Below w.heap.size w w8 ∧ (laidF [] rs1 ++ lm).length = L + lm.length) := ⟨hn8, below_of H7.out.2 hgr8 (Nat.le_refl _) (fun j hj => (H7.out.1.lt j hj).1), hl8⟩; clear hown8 hgr8 hn8 hl8))
                refine (read_any c8 (L + lm.length) (laidF [] rs1 ++ lm) w8 a8 H8.out.1.isB H8.out.1.cap (HT.out.below H8.out.2.1 HT.out.lt) H8.out.2.2.symm hle8 (by omega)).mono ?_
                rintro e w9 ⟨rs9, a9, c9, rfl, hR9, hC9, hlc9, hnc9, hmc9, _, hb9⟩
                have hpre : rs1 <+: rs9 := Reads.more (by intro x hx; rcases List.mem_append.1 hx with h | h; exact HBY.out x h; exact HM.out.1.2 x h) hR9 (List.prefix_append _ _)
                have htk9 : rs9.take n = rs1 := by rw [← HN.out]; exact (List.prefix_iff_eq_take.1 hpre).symm
                have H9 : Hid (IsD w9 a9 rs1 ∧ Below w.heap.size w w9) := ⟨by have h := hC9.isD.take n; rw [htk9] at h; exact h, below_two H8.out.2.1 hb9⟩
                have hln9 := hpre.length_le
                have hlw9 := more_len hpre
                rw [HN.out] at hln9
                rw [HL.out] at hlw9
                generalize (if (laidF [] rs9).length = (laidF [] rs1 ++ lm).length then (0 : Int) else 70) = EE at *
                obtain ⟨N9, hN9⟩ : ∃ N9, rs9.length = N9 := ⟨_, rfl⟩
                obtain ⟨W9, hW9⟩ : ∃ W9, (laidF [] rs9).length = W9 := ⟨_, rfl⟩
                rw [hN9] at hln9 hlc9
                rw [hW9] at hlw9
                rw [hN9, hW9]
                clear hR9 hC9 hpre htk9 hN9 hW9 hb9
                have y1 : (n : Int) ≤ (N9 : Int) := by omega
                have y2 : (L : Int) ≤ (W9 : Int) := by omega
                have y3 : (n : Int) ≤ (c9 : Int) := by omega
                cases a9 with
                | none =>
                  obtain rfl : c9 = 0 := hnc9 rfl
                  obtain rfl : n = 0 := by omega
                  go_wp2_with fail
                  refine (sameRecords_any none a 0 cap 0 0 rs1 w9 H9.out.1 (HD.out.1.below H9.out.2) HN.out.symm HN.out.symm (by rw [HN.out]; omega)).mono ?_
                  rintro e w' ⟨rfl, d10, rfl⟩
                  have H10 : Hid (Below w.heap.size w (w9.drewN d10)) := below_two H9.out.2 (below_drewN (Below.refl _ _) _)
                  generalize w9.drewN d10 = w10 at *
                  go_wp2
                  go_ret
                  exact ⟨rfl, H10.out⟩
                | some p9 =>
                  clear hnc9
                  go_wp2_with fail
                  refine (sameRecords_any (some p9) a c9 cap n n rs1 w9 H9.out.1 (HD.out.1.below H9.out.2) HN.out.symm HN.out.symm (by rw [HN.out]; omega)).mono ?_
                  rintro e w' ⟨rfl, d10, rfl⟩
                  have H10 : Hid (Below w.heap.size w (w9.drewN d10)) := below_two H9.out.2 (below_drewN (Below.refl _ _) _)
                  generalize w9.drewN d10 = w10 at *
                  go_wp2
                  go_ret
                  exact ⟨rfl, H10.out⟩
          · have q3 : ¬ (k : Int) < (n : Int) := by omega
            have HR : Hid (Reads ((laidF [] rs1).take C) (rs1.take k)) := back_cut rs1 HRB.out C k (by rw [HN.out]; exact hk) (by show lk rs1 k ≤ C; rw [HWk.out]; exact hlk) (fun h => by rw [HN.out] at h; omega)
            have HBW : Hid (Below w.heap.size w wr) := below_two HB2.out HY.out
            have HTC : Hid (((laidF [] rs1).take C).length = C) := by show _ = _; rw [List.length_take, HL.out]; omega
            have HTK : Hid ((rs1.take k).length = k) := by show _ = _; rw [List.length_take, HN.out]; omega
            have t1 : (C : Int) ≤ (cb : Int) := by omega
            have t2 : (k : Int) ≤ (cap : Int) := by omega
            have t3 : (Wk : Int) ≤ (C : Int) := by omega
            go_wp2_with fail
            refine (read_any cb C ((laidF [] rs1).take C) wr ab (isB_take (HW.out.1.isB.below HY.out) C) HW.out.1.cap (HT.out.below HBW.out HT.out.lt) HTC.out.symm (by omega) (by omega)).mono ?_
            rintro e w5 ⟨rs2, a5, c5, rfl, hR2, hC5, _, _, _, _, hb5⟩
            obtain rfl : rs2 = rs1.take k := Reads.uniq (fun x hx => HBY.out x (List.mem_of_mem_take hx)) hR2 HR.out
            rw [show (laidF [] (rs1.take k)).length = Wk from HWk.out, HTC.out, HTK.out]
            have H5 : Hid (IsD w5 a5 (rs1.take k) ∧ Below w2.heap.size w2 w5) := ⟨hC5.isD, below_two HY.out hb5⟩
            clear hR2 hC5 hb5
            by_cases hwc : Wk = C
            · subst hwc
              rw [if_pos rfl]
              go_wp2_with fail
              refine (sameRecords_any a5 a c5 cap k k (rs1.take k) w5 H5.out.1 ((HD.out.1.below (below_two HB2.out H5.out.2)).take k) HTK.out.symm HTK.out.symm (by rw [HTK.out]; omega)).mono ?_
              rintro e w' ⟨rfl, d6, rfl⟩
              have H6 : Hid (Below w2.heap.size w2 (w5.drewN d6)) := below_two H5.out.2 (below_drewN (Below.refl _ _) _)
              generalize w5.drewN d6 = w6 at *
              have hs6 := (below_two HB2.out H6.out).size
              go_wp2_with (first
                | (go_at_call 11; refine (num_any _ _).mono ?_; rintro e w66 ⟨rfl, hw66⟩; obtain rfl := hw66.symm)
                | (at_builtin; refine wpList_appB (by rfl) (.const (.slice none 0 0)) (.tmp 124) 23 (by rfl) w.heap.size 5 i8 Tryd.underlying23 hi8 hz0 hz1 hz2 (.slice none 0 0) [] 0 (by rfl) (World.ownsRow_nil _ _ _ _) ab L cb (laidF [] rs1) (by rfl) HL.out.symm HW.out.1.cap (HW.out.1.isB.below H6.out) (by omega) hs6 ?_; intro v7 w7 hown7 hgr7 _; have H7 : Hid (w7.ownsRow w.heap.size 5 1 v7 L (cellsB (laidF [] rs1)) ∧ Below w.heap.size w w7) := ⟨(by rw [List.nil_append, Nat.zero_add] at hown7; exact hown7), below_of (below_two HB2.out H6.out) hgr7 (Nat.le_refl _) (fun j hj => by cases hj)⟩; have hs7 := H7.out.2.size; clear hown7 hgr7)
                | (at_builtin; refine wpList_appB (by rfl) (.tmp 125) (.tmp 126) 23 (by rfl) w.heap.size 5 i8 Tryd.underlying23 hi8 hz0 hz1 hz2 v7 (laidF [] rs1) L (by rfl) H7.out.1 am lm.length cm lm (by rfl) rfl HM.out.2 (HM.out.1.below H7.out.2) (by omega) hs7 ?_; intro v8 w8 hown8 hgr8 _; obtain ⟨a8, c8, rfl, hn8⟩ := New.of hown8 (by intro x hx; rcases List.mem_append.1 hx with h | h; exact HBY.out x h; exact HM.out.1.2 x h); have hl8 : (laidF [] rs1 ++ lm).length = L + lm.length := (by rw [List.length_append, HL.out]); rw [hl8]; have hle8 := hn8.le; rw [hl8] at hle8; have H8 : Hid (New 5 w.heap.size w8 a8 c8 (laidF [] rs1 ++ lm) ∧ Below w.heap.size w w8 ∧ (laidF [] rs1 ++ lm).length = L + lm.length) := ⟨hn8, below_of H7.out.2 hgr8 (Nat.le_refl _) (fun j hj => (H7.out.1.lt j hj).1), hl8⟩; clear hown8 hgr8 hn8 hl8))
              refine (read_any c8 (L + lm.length) (laidF [] rs1 ++ lm) w8 a8 H8.out.1.isB H8.out.1.cap (HT.out.below H8.out.2.1 HT.out.lt) H8.out.2.2.symm hle8 (by omega)).mono ?_
              rintro e w9 ⟨rs9, a9, c9, rfl, hR9, hC9, hlc9, hnc9, hmc9, _, hb9⟩
              have hpre : rs1 <+: rs9 := Reads.more (by intro x hx; rcases List.mem_append.1 hx with h | h; exact HBY.out x h; exact HM.out.1.2 x h) hR9 (List.prefix_append _ _)
              have htk9 : rs9.take n = rs1 := by rw [← HN.out]; exact (List.prefix_iff_eq_take.1 hpre).symm
              have H9 : Hid (IsD w9 a9 rs1 ∧ Below w.heap.size w w9) := ⟨by have h := hC9.isD.take n; rw [htk9] at h; exact h, below_two H8.out.2.1 hb9⟩
              have hln9 := hpre.length_le
              have hlw9 := more_len hpre
              rw [HN.out] at hln9
              rw [HL.out] at hlw9
              generalize (if (laidF [] rs9).length = (laidF [] rs1 ++ lm).length then (0 : Int) else 70) = EE at *
              obtain ⟨N9, hN9⟩ : ∃ N9, rs9.length = N9 := ⟨_, rfl⟩
              obtain ⟨W9, hW9⟩ : ∃ W9, (laidF [] rs9).length = W9 := ⟨_, rfl⟩
              rw [hN9] at hln9 hlc9
              rw [hW9] at hlw9
              rw [hN9, hW9]
              clear hR9 hC9 hpre htk9 hN9 hW9 hb9
              have y1 : (n : Int) ≤ (N9 : Int) := by omega
              have y2 : (L : Int) ≤ (W9 : Int) := by omega
              have y3 : (n : Int) ≤ (c9 : Int) := by omega
              cases a9 with
              | none =>
                obtain rfl : c9 = 0 := hnc9 rfl
                obtain rfl : n = 0 := by omega
                go_wp2_with fail
                refine (sameRecords_any none a 0 cap 0 0 rs1 w9 H9.out.1 (HD.out.1.below H9.out.2) HN.out.symm HN.out.symm (by rw [HN.out]; omega)).mono ?_
                rintro e w' ⟨rfl, d10, rfl⟩
                have H10 : Hid (Below w.heap.size w (w9.drewN d10)) := below_two H9.out.2 (below_drewN (Below.refl _ _) _)
                generalize w9.drewN d10 = w10 at *
                go_wp2
                go_ret
                exact ⟨rfl, H10.out⟩
              | some p9 =>
                clear hnc9
                go_wp2_with fail
                refine (sameRecords_any (some p9) a c9 cap n n rs1 w9 H9.out.1 (HD.out.1.below H9.out.2) HN.out.symm HN.out.symm (by rw [HN.out]; omega)).mono ?_
                rintro e w' ⟨rfl, d10, rfl⟩
                have H10 : Hid (Below w.heap.size w (w9.drewN d10)) := below_two H9.out.2 (below_drewN (Below.refl _ _) _)
                generalize w9.drewN d10 = w10 at *
                go_wp2
                go_ret
                exact ⟨rfl, H10.out⟩
            · rw [if_neg hwc]
              have z1 : ¬ (Wk : Int) = (C : Int) := by omega
              go_wp2_with fail
              refine (sameRecords_any a5 a c5 cap k k (rs1.take k) w5 H5.out.1 ((HD.out.1.below (below_two HB2.out H5.out.2)).take k) HTK.out.symm HTK.out.symm (by rw [HTK.out]; omega)).mono ?_
              rintro e w' ⟨rfl, d6, rfl⟩
              have H6 : Hid (Below w2.heap.size w2 (w5.drewN d6)) := below_two H5.out.2 (below_drewN (Below.refl _ _) _)
              generalize w5.drewN d6 = w6 at *
              have hs6 := (below_two HB2.out H6.out).size
              go_wp2_with (first
                | (go_at_call 11; refine (num_any _ _).mono ?_; rintro e w66 ⟨rfl, hw66⟩; obtain rfl := hw66.symm)
                | (at_builtin; refine wpList_appB (by rfl) (.const (.slice none 0 0)) (.tmp 124) 23 (by rfl) w.heap.size 5 i8 Tryd.underlying23 hi8 hz0 hz1 hz2 (.slice none 0 0) [] 0 (by rfl) (World.ownsRow_nil _ _ _ _) ab L cb (laidF [] rs1) (by rfl) HL.out.symm HW.out.1.cap (HW.out.1.isB.below H6.out) (by omega) hs6 ?_; intro v7 w7 hown7 hgr7 _; have H7 : Hid (w7.ownsRow w.heap.size 5 1 v7 L (cellsB (laidF [] rs1)) ∧ Below w.heap.size w w7) := ⟨(by rw [List.nil_append, Nat.zero_add] at hown7; exact hown7), below_of (below_two HB2.out H6.out) hgr7 (Nat.le_refl _) (fun j hj => by cases hj)⟩; have hs7 := H7.out.2.size; clear hown7 hgr7)
                | (at_builtin; refine wpList_appB (by rfl) (.tmp 125) (.tmp 126) 23 (by rfl) w.heap.size 5 i8 Tryd.underlying23 hi8 hz0 hz1 hz2 v7 (laidF [] rs1) L (by rfl) H7.out.1 am lm.length cm lm (by rfl) rfl HM.out.2 (HM.out.1.below H7.out.2) (by omega) hs7 ?_; intro v8 w8 hown8 hgr8 _; obtain ⟨a8, c8, rfl, hn8⟩ := New.of hown8 (by intro x hx; rcases List.mem_append.1 hx with h | h; exact HBY.out x h; exact HM.out.1.2 x h); have hl8 : (laidF [] rs1 ++ lm).length = L + lm.length := (by rw [List.length_append, HL.out]); rw [hl8]; have hle8 := hn8.le; rw [hl8] at hle8; have H8 : Hid (New 5 w.heap.size w8 a8 c8 (laidF [] rs1 ++ lm) ∧ Below w.heap.size w w8 ∧ (laidF [] rs1 ++ lm).length = L + lm.length) := ⟨hn8, below_of H7.out.2 hgr8 (Nat.le_refl _) (fun j hj => (H7.out.1.lt j hj).1), hl8⟩; clear hown8 hgr8 hn8 hl8))
              refine (read_any c8 (L + lm.length) (laidF [] rs1 ++ lm) w8 a8 H8.out.1.isB H8.out.1.cap (HT.out.below H8.out.2.1 HT.out.lt) H8.out.2.2.symm hle8 (by omega)).mono ?_
              rintro e w9 ⟨rs9, a9, c9, rfl, hR9, hC9, hlc9, hnc9, hmc9, _, hb9⟩
              have hpre : rs1 <+: rs9 := Reads.more (by intro x hx; rcases List.mem_append.1 hx with h | h; exact HBY.out x h; exact HM.out.1.2 x h) hR9 (List.prefix_append _ _)
              have htk9 : rs9.take n = rs1 := by rw [← HN.out]; exact (List.prefix_iff_eq_take.1 hpre).symm
              have H9 : Hid (IsD w9 a9 rs1 ∧ Below w.heap.size w w9) := ⟨by have h := hC9.isD.take n; rw [htk9] at h; exact h, below_two H8.out.2.1 hb9⟩
              have hln9 := hpre.length_le
              have hlw9 := more_len hpre
              rw [HN.out] at hln9
              rw [HL.out] at hlw9
              generalize (if (laidF [] rs9).length = (laidF [] rs1 ++ lm).length then (0 : Int) else 70) = EE at *
              obtain ⟨N9, hN9⟩ : ∃ N9, rs9.length = N9 := ⟨_, rfl⟩
              obtain ⟨W9, hW9⟩ : ∃ W9, (laidF [] rs9).length = W9 := ⟨_, rfl⟩
              rw [hN9] at hln9 hlc9
              rw [hW9] at hlw9
              rw [hN9, hW9]
              clear hR9 hC9 hpre htk9 hN9 hW9 hb9
              have y1 : (n : Int) ≤ (N9 : Int) := by omega
              have y2 : (L : Int) ≤ (W9 : Int) := by omega
              have y3 : (n : Int) ≤ (c9 : Int) := by omega
              cases a9 with
              | none =>
                obtain rfl : c9 = 0 := hnc9 rfl
                obtain rfl : n = 0 := by omega
                go_wp2_with fail
                refine (sameRecords_any none a 0 cap 0 0 rs1 w9 H9.out.1 (HD.out.1.below H9.out.2) HN.out.symm HN.out.symm (by rw [HN.out]; omega)).mono ?_
                rintro e w' ⟨rfl, d10, rfl⟩
                have H10 : Hid (Below w.heap.size w (w9.drewN d10)) := below_two H9.out.2 (below_drewN (Below.refl _ _) _)
                generalize w9.drewN d10 = w10 at *
                go_wp2
                go_ret
                exact ⟨rfl, H10.out⟩
              | some p9 =>
                clear hnc9
                go_wp2_with fail
                refine (sameRecords_any (some p9) a c9 cap n n rs1 w9 H9.out.1 (HD.out.1.below H9.out.2) HN.out.symm HN.out.symm (by rw [HN.out]; omega)).mono ?_
                rintro e w' ⟨rfl, d10, rfl⟩
                have H10 : Hid (Below w.heap.size w (w9.drewN d10)) := below_two H9.out.2 (below_drewN (Below.refl _ _) _)
                generalize w9.drewN d10 = w10 at *
                go_wp2
                go_ret
                exact ⟨rfl, H10.out⟩

end Lgk
end Go.Proofs.YtakgakjkemphlabDoor
