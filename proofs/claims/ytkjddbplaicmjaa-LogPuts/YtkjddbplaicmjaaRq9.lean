import Derived.Test.YtkjddbplaicmjaaRq8
namespace Go.Proofs.Ytkjddbplaicmjaa
namespace LogPuts
open Go.RowKit CMath Byt Cod Laws Grp Crw Irw Rq Lg
set_option linter.unusedVariables false
set_option linter.unusedSimpArgs false
set_option maxRecDepth 20000
set_option maxHeartbeats 1000000 in
theorem walk (first : Nat) (hf : first < 18446744073709551616) (a : Option Addr) (cap : Nat) (gs : List (List Rq.Wr)) (w : World) (h : GZ w a gs ∧ (gs.length : Int) ≤ 9223372036854775807) :
    Calls Try.prog 3 #[.int .u64 (first : Int), .slice a gs.length cap] w fun e w' => e = .returned (.bool true) ∧ Below w.heap.size w w' := by
  have HI : Hid (GZ w a gs) := h.1
  have HM : Hid ((gs.length : Int) ≤ 9223372036854775807) := h.2
  clear h
  go_enter Try.func3, Try.ntmps3
  go_wp2_with fail
  refine (small_any w a cap gs HM.out HI.out.isG).mono ?_
  rintro r w1 ⟨⟨ok, rfl, hok⟩, hb1⟩
  have HB1 : Hid (Below w.heap.size w w1) := hb1
  have HI1 : Hid (GZ w1 a gs) := HI.out.below hb1
  clear hb1 HI
  cases ok with
  | false =>
    clear hok
    go_wp2
    go_ret
    exact ⟨rfl, HB1.out⟩
  | true =>
    have hbk : bulkG gs ≤ 32768 := hok rfl
    have hsum : (gs.map bulkS).sum ≤ 32768 := by unfold bulkG at hbk; omega
    have hlen : gs.length ≤ 32768 := by unfold bulkG at hbk; omega
    have hwl : ∀ ws ∈ gs, ws.length ≤ 100000 := fun ws hws => by have := bulk_ws ws; have := bulk_in hws; omega
    have hpl := Lgp.putB_bulk first gs hf hbk
    have HW : Hid (bulkG gs ≤ 32768 ∧ (∀ ws ∈ gs, ws.length ≤ 100000) ∧ (putB first gs).length ≤ 2000000 ∧ 0 < (putB first gs).length ∧ (∀ x ∈ putB first gs, x < 256)) := ⟨hbk, hwl, by omega, by rw [putB, List.length_append]; have := num_pos first; omega, putB_byte first gs⟩
    obtain ⟨n, hn⟩ : ∃ n, n = gs.length := ⟨_, rfl⟩
    have HN : Hid (n = gs.length) := hn
    rw [← hn] at hlen
    rw [← hn]
    clear hok hbk hsum hwl hpl hn
    obtain ⟨L, hL⟩ : ∃ L, L = (putB first gs).length := ⟨_, rfl⟩
    have HL : Hid (L = (putB first gs).length) := hL
    clear hL
    go_wp2_with fail
    refine (groups_any w1 a cap n gs HN.out HI1.out (by omega) HW.out.2.1).mono ?_
    rintro e w2 ⟨b, d, vs, fs, rfl, hr, hb2⟩
    have HB2 : Hid (Below w.heap.size w w2) := HB1.out.trans (hb2.mono HB1.out.size)
    have HR2 : Hid (Ro w2 w1.heap.size vs fs gs (some ⟨b, 0, none⟩) d) := hr
    have HI2 : Hid (GZ w2 a gs) := HI1.out.below hb2
    clear hr hb2
    go_wp2_with fail
    refine (Lgp.put_any first (some ⟨b, 0, none⟩) (n + 40) n gs w2 hf HN.out (HR2.out.lent HI2.out) HW.out.1).mono ?_
    rintro e w3 ⟨v3, rfl, ho3, hb3⟩
    obtain ⟨g3, c3, rfl, _, _, _, hi3⟩ := ho3.isB
    rw [← HL.out]
    have HX3 : Hid (IsB w3 (some ⟨g3, 0, none⟩) (putB first gs)) := hi3
    have HB3 : Hid (Below w.heap.size w w3) := HB2.out.trans (hb3.mono HB2.out.size)
    have HR3 : Hid (Ro w3 w1.heap.size vs fs gs (some ⟨b, 0, none⟩) d) := HR2.out.below hb3
    have HI3 : Hid (GZ w3 a gs) := HI2.out.below hb3
    clear ho3 hb3 hi3
    go_wp2_with fail
    refine (Rfp.refPut_any first a cap n gs w3 hf HN.out HI3.out.isG HW.out.1).mono ?_
    rintro e w4 ⟨v4, rfl, ho4, hb4⟩
    obtain ⟨g4, c4, rfl, _, _, _, hi4⟩ := (Byt.Own.pos ho4 HW.out.2.2.2.2 HW.out.2.2.2.1).isB
    rw [← HL.out]
    have HX4 : Hid (IsB w4 (some ⟨g3, 0, none⟩) (putB first gs) ∧ IsB w4 (some ⟨g4, 0, none⟩) (putB first gs)) := ⟨HX3.out.below hb4, hi4⟩
    have HB4 : Hid (Below w.heap.size w w4) := HB3.out.trans (hb4.mono HB3.out.size)
    have HR4 : Hid (Ro w4 w1.heap.size vs fs gs (some ⟨b, 0, none⟩) d) := HR3.out.below hb4
    have HI4 : Hid (GZ w4 a gs) := HI3.out.below hb4
    clear ho4 hb4 hi4
    go_wp2_with fail
    refine (same_any (some ⟨g3, 0, none⟩) (some ⟨g4, 0, none⟩) c3 c4 L L (putB first gs) w4 HX4.out.1 HX4.out.2 (by have := HW.out.2.2.1; omega) HL.out HL.out).mono ?_
    rintro e w' ⟨rfl, d5, rfl⟩
    have hb5 : Below w4.heap.size w4 (w4.drewN d5) := below_drewN (Below.refl _ _) _
    have HB5 : Hid (Below w.heap.size w (w4.drewN d5)) := HB4.out.trans (hb5.mono HB4.out.size)
    have HR5 : Hid (Ro (w4.drewN d5) w1.heap.size vs fs gs (some ⟨b, 0, none⟩) d) := HR4.out.below hb5
    have HI5 : Hid (GZ (w4.drewN d5) a gs) := HI4.out.below hb5
    clear hb5 HX4
    generalize w4.drewN d5 = w5 at *
    go_wp2_with fail
    refine (sameGroups_any (some ⟨b, 0, none⟩) a (n + 40) cap n n gs w5 (HR5.out.lent HI5.out) HI5.out.isG HN.out HN.out (by rw [← HN.out]; omega)).mono ?_
    rintro e w' ⟨rfl, d6, rfl⟩
    have hb6 : Below w5.heap.size w5 (w5.drewN d6) := below_drewN (Below.refl _ _) _
    have HB6 : Hid (Below w.heap.size w (w5.drewN d6)) := HB5.out.trans (hb6.mono HB5.out.size)
    have HR6 : Hid (Ro (w5.drewN d6) w1.heap.size vs fs gs (some ⟨b, 0, none⟩) d) := HR5.out.below hb6
    clear hb6
    generalize w5.drewN d6 = w6 at *
    go_wp2_with fail
    refine (hold_any w6 w1.heap.size vs fs gs _ d HR6.out (by rw [← HN.out]; omega) HW.out.2.1).mono ?_
    rintro e w7 ⟨rfl, hb7⟩
    have HB7 : Hid (Below w.heap.size w w7) := HB6.out.trans (hb7.mono HB6.out.size)
    clear hb7
    go_wp2_with fail
    go_ret
    exact ⟨rfl, HB7.out⟩
end LogPuts
end Go.Proofs.Ytkjddbplaicmjaa
