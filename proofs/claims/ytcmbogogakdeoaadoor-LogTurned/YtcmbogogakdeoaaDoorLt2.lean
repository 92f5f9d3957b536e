import Derived.Test.YtcmbogogakdeoaaDoorLd1
import Derived.Test.YtcmbogogakdeoaaDoorKw1
import Derived.Test.YtcmbogogakdeoaaDoorLt1
import Derived.Test.YtcmbogogakdeoaaDoorBSet
namespace Go.Proofs.YtcmbogogakdeoaaDoor
namespace Lgu
open Go.RowKit CMath Byt Cod Lg Lga Lgr Laws Crw Lgl Kwn
set_option linter.unusedVariables false
set_option linter.unusedSimpArgs false
set_option maxRecDepth 20000
theorem below_two {w w1 w2 : World} (h : Below w.heap.size w w1) (h2 : Below w1.heap.size w1 w2) : Below w.heap.size w w2 := h.trans (h2.mono h.size)
theorem ends_rd {w : World} {base n : Nat} {rs : List (List Nat)} {v : Value} (h : w.ownsRow base 3 1 v n (endsK rs n)) : ∃ ae ce, v = .slice ae n ce ∧ ∀ k, k < n → ∃ g, ae = some ⟨g, 0, none⟩ ∧ g < w.heap.size ∧ w.cell? ⟨g, k, none⟩ = some (.int .i64 (Pk rs (k + 1) : Int)) := by
  rcases h.2 with ⟨e, h0⟩ | ⟨g, cap, cur, hv, hb, hh, hr⟩
  · exact ⟨none, 0, by rw [e, h0], fun k hk => by omega⟩
  · subst hv
    refine ⟨some ⟨g, 0, none⟩, cap, rfl, fun k hk => ⟨g, rfl, (h.lt g rfl).2, ?_⟩⟩
    rw [h.cellAt k (by omega)]
    simp [endsK, hk, Pk]
theorem pk_mono {rs : List (List Nat)} {j k : Nat} (h : j ≤ k) : Pk rs j ≤ Pk rs k := by
  have := (laidF_take [] (rs.take k) j).length_le
  rw [List.take_take, Nat.min_eq_left h] at this
  exact this
/-- What the law's first loop knows of a station. -/
theorem stn_pc {rs : List (List Nat)} (hr : ∀ r ∈ rs, ∀ x ∈ r, x < 256) {k n : Nat} (h : Stn rs k n) : n < pcE (laidF [] rs) n ∧ pcE (laidF [] rs) n ≤ (laidF [] rs).length ∧ (8 ≤ 512 - n % 512 → n + 7 ≤ (laidF [] rs).length) ∧ (pcE (laidF [] rs) n < (laidF [] rs).length → ∃ k', Stn rs k' (pcE (laidF [] rs) n)) := by
  have hz : 512 - n % 512 < 8 → pcE (laidF [] rs) n = n - n % 512 + 512 := fun h8 => by unfold pcE; rw [if_pos h8]
  have hp : 8 ≤ 512 - n % 512 → pcE (laidF [] rs) n = n + 7 + hl ((laidF [] rs).drop n) := fun h8 => by unfold pcE; rw [if_neg (by omega)]
  obtain ⟨h1, h2, h3⟩ := stn_on hr h hz hp
  exact ⟨h1, h2, fun h8 => by have := hp h8; omega, h3⟩
theorem tn_reads {rs : List (List Nat)} (hr : ∀ r ∈ rs, ∀ x ∈ r, x < 256) {k n A t : Nat} {l : List Nat} (hs : Stn rs k n) (h : Tn (laidF [] rs) A (pcE (laidF [] rs) n) n (pcI n) 32 l t) (ht : t ≠ 0) (h8 : n ≤ A / 8) : Reads l (rs.take k) :=
  h.reads hr hs ht (by omega) (fun h8 => by unfold pcE; rw [if_pos h8]) (fun h8 => ⟨by unfold pcE; rw [if_neg (by omega)], by unfold pcI; exact decide_eq_true h8⟩)
theorem bitz (t j : Nat) : ((t : Int) / 2 ^ j).tmod 2 = ((t / 2 ^ j % 2 : Nat) : Int) := by
  have e : (t : Int) / 2 ^ j = ((t / 2 ^ j : Nat) : Int) := by simp
  rw [e]
  generalize t / 2 ^ j = q
  rw [Int.tmod_eq_emod_of_nonneg (by omega)]
  omega
theorem xorP {z r : Nat} (hz : z < 256) (hr : r < 8) : bits .xor .u8 (z : Int) ((2 : Int) ^ r % 256) = ((z ^^^ 2 ^ r : Nat) : Int) := by
  have h := pow_lt8 hr
  have e : (2 : Int) ^ r % 256 = ((2 ^ r : Nat) : Int) := by
    have e1 : (2 : Int) ^ r = ((2 ^ r : Nat) : Int) := by simp
    rw [e1]
    generalize 2 ^ r = q at *
    omega
  rw [e]
  exact u8_xor_nat z (2 ^ r) hz h
set_option maxHeartbeats 8000000 in
theorem walk (a : Option Addr) (cap : Nat) (rs : List (List Nat)) (cc : Int) (bits : Nat) (w : World) (hD : IsD w a rs) (hna : a = none → cap = 0) (hle : rs.length ≤ cap) (hmx : cap ≤ 9223372036854775807) (hcc : -9223372036854775808 ≤ cc ∧ cc ≤ 9223372036854775807) (hbt : bits < 4294967296) (ht : Tab w) :
    Calls Tryd.prog 4 #[.slice a rs.length cap, .int .i64 cc, .int .u32 (bits : Int)] w fun e w' => e = .returned (.bool true) ∧ Below w.heap.size w w' := by
  have HD : Hid (IsD w a rs ∧ (a = none → cap = 0)) := ⟨hD, hna⟩
  have HT : Hid (Tab w) := ht
  obtain ⟨N, hn⟩ : ∃ n, rs.length = n := ⟨_, rfl⟩
  have HN : Hid (rs.length = N) := hn
  rw [hn] at hle ⊢
  clear hD hna ht hn
  go_enter Tryd.func4, Tryd.ntmps4
  go_wp2_with fail
  refine (known_any w HT.out).mono ?_
  rintro e w1 ⟨rfl, hb1⟩
  have HB1 : Hid (Below w.heap.size w w1) := hb1
  clear hb1
  go_wp2_with fail
  refine (laid_any a cap N rs w1 (HD.out.1.below HB1.out) HN.out.symm (by omega) (HT.out.below HB1.out HT.out.lt)).mono ?_
  rintro e w2 (⟨rfl, hb2⟩ | ⟨vb, ve, rfl, hld, hB7, hnB⟩)
  · have HB2 : Hid (Below w.heap.size w w2) := below_two HB1.out hb2
    clear hb2
    go_wp2
    go_ret
    exact ⟨rfl, HB2.out⟩
  · obtain ⟨hld1, hld2, hb2⟩ := hld
    have HB2 : Hid (Below w.heap.size w w2) := below_two HB1.out hb2
    rw [HN.out] at hld2 hnB
    rw [List.take_length] at hld1
    have HRB : Hid (∀ r ∈ rs, ∀ x ∈ r, x < 256) := (fun r hr => by
      obtain ⟨i, hi⟩ := List.getElem?_of_mem hr
      have hil := (List.getElem?_eq_some_iff.1 hi).1
      obtain ⟨b, off, ad, c, _, _, _, hib, _⟩ := HD.out.1.rd hil
      have e : rs.getD i [] = r := by simp [hi]
      rw [e] at hib
      exact hib.2)
    have HBY : Hid (∀ x ∈ laidF [] rs, x < 256) := laidF_byte rs [] (by simp) HRB.out
    obtain ⟨ab, cb, rfl, hnew⟩ := New.of hld1 HBY.out
    obtain ⟨ae, ce, rfl, hends⟩ := ends_rd hld2
    obtain ⟨L, hLL⟩ : ∃ L, (laidF [] rs).length = L := ⟨_, rfl⟩
    have HL : Hid ((laidF [] rs).length = L) := hLL
    have hle2 := hnew.le
    have hmx2 := hnew.max
    rw [hLL] at hB7 hnB hle2 ⊢
    have HW : Hid (New 5 w1.heap.size w2 ab cb (laidF [] rs) ∧ ∀ k, k < N → ∃ g, ae = some ⟨g, 0, none⟩ ∧ g < w2.heap.size ∧ w2.cell? ⟨g, k, none⟩ = some (.int .i64 (Pk rs (k + 1) : Int))) := ⟨hnew, hends⟩
    clear hb2 hld1 hld2 hnew hends hLL
    by_cases hL0 : L = 0
    · have q1 : ((L : Int) == 0) = true := by simp; omega
      go_wp2
      go_ret
      exact ⟨rfl, HB2.out⟩
    · have q1 : ((L : Int) == 0) = false := by simp; omega
      by_cases hb0 : bits = 0
      · have q2 : ((bits : Int) == 0) = true := by simp; omega
        go_wp2
        go_ret
        exact ⟨rfl, HB2.out⟩
      · have q2 : ((bits : Int) == 0) = false := by simp; omega
        obtain ⟨g, hg1, hgf, hrf, hff⟩ := Byt.New.at HW.out.1 (by rw [HL.out]; omega)
        subst hg1
        have hgw : w.heap.size ≤ g := Nat.le_trans HB1.out.size hgf
        have HR : Hid (BRow w2 g 0 (laidF [] rs) ∧ ∀ j, w2.frozen? ⟨g, j, none⟩ = false) := ⟨hrf, hff⟩
        clear hgf hrf hff
        have HK0 : Hid (Stn rs 0 0) := by
          have h0 : 0 < rs.length := by
            rcases Nat.eq_zero_or_pos rs.length with z | z
            · have e0 : rs = [] := List.eq_nil_of_length_eq_zero z
              have := HL.out
              rw [e0] at this
              simp [laidF] at this
              omega
            · exact z
          have := stn_first h0
          rw [show Pk rs 0 = 0 from rfl] at this
          exact this
        obtain ⟨m, hm⟩ : ∃ m, Int.tmod cc (8 * (L : Int)) = m := ⟨_, rfl⟩
        have hm1 : -(8 * (L : Int)) < m ∧ m < 8 * (L : Int) := by
          have h1 := Int.tmod_lt_of_pos cc (show (0 : Int) < 8 * (L : Int) by omega)
          have h2 := Int.tmod_lt_of_pos (-cc) (show (0 : Int) < 8 * (L : Int) by omega)
          rw [Int.neg_tmod] at h2
          omega
        have q3 : ¬ (8 * (L : Int)) = 0 := by omega
        by_cases hneg : m < 0
        · obtain ⟨A, hA⟩ : ∃ A : Nat, m + 8 * (L : Int) = (A : Int) := ⟨(m + 8 * L).toNat, by omega⟩
          have hAL : A < 8 * L := by omega
          go_wp2_with fail
          refine (piece_any (some ⟨g, 0, none⟩) cb L 0 (laidF [] rs) w2 HW.out.1.isB HL.out.symm (by omega) (by omega) (fun h8 => by have := (stn_pc HRB.out HK0.out).2.2.1 h8; rw [HL.out] at this; exact this)).mono ?_
          rintro e w' ⟨rfl, d3, hw3⟩
          have HB3 : Hid (Below w2.heap.size w2 w') := (by rw [hw3]; exact below_drewN (Below.refl _ _) _)
          clear hw3
          obtain ⟨E0, hE0⟩ : ∃ E, pcE (laidF [] rs) 0 = E := ⟨_, rfl⟩
          obtain ⟨I0, hI0⟩ : ∃ I, pcI 0 = I := ⟨_, rfl⟩
          have HE0 : Hid (pcE (laidF [] rs) 0 = E0 ∧ pcI 0 = I0) := ⟨hE0, hI0⟩
          rw [hE0, hI0]
          clear hE0 hI0
          go_wp2_with fail
          go_loopw [10, 12, 13] (fun vf ve vi wr => ∃ (k n E : Nat) (I : Bool), vf = .int .i64 (n : Int) ∧ ve = .int .i64 (E : Int) ∧ vi = .bool I ∧ n ≤ A / 8 ∧ n < E ∧ E ≤ L ∧ Hid (Stn rs k n ∧ pcE (laidF [] rs) n = E ∧ pcI n = I ∧ Below w2.heap.size w2 wr)) (fun vf _ _ _ => L - (intOf vf).toNat)
          case atStart =>
            have h9 := stn_pc HRB.out HK0.out
            rw [HE0.out.1, HL.out] at h9
            exact ⟨0, 0, E0, I0, rfl, rfl, rfl, Nat.zero_le _, h9.1, h9.2.1, HK0.out, HE0.out.1, HE0.out.2, HB3.out⟩
          case round =>
            clear HE0 HB3
            obtain ⟨k, n, E, I, rfl, rfl, rfl, hnA, hnE, hEL, HS⟩ := hrel
            have p1 : (n : Int) < (E : Int) := by omega
            by_cases hmore : E ≤ A / 8
            · have p2 : (E : Int) ≤ (A : Int) / 8 := by omega
              obtain ⟨k2, hk2⟩ := (stn_pc HRB.out HS.out.1).2.2.2 (by rw [HS.out.2.1, HL.out]; omega)
              rw [HS.out.2.1] at hk2
              have HS2 : Hid (Stn rs k2 E) := hk2
              clear hk2
              go_wp2_with fail
              refine (piece_any (some ⟨g, 0, none⟩) cb L E (laidF [] rs) wr (HW.out.1.isB.below HS.out.2.2.2) HL.out.symm (by omega) hEL (fun h8 => by have := (stn_pc HRB.out HS2.out).2.2.1 h8; rw [HL.out] at this; exact this)).mono ?_
              rintro e w' ⟨rfl, d3, hw3⟩
              have HB3 : Hid (Below w2.heap.size w2 w') := (by rw [hw3]; exact below_drewN HS.out.2.2.2 _)
              clear hw3
              obtain ⟨E2, hE2⟩ : ∃ E', pcE (laidF [] rs) E = E' := ⟨_, rfl⟩
              obtain ⟨I2, hI2⟩ : ∃ I, pcI E = I := ⟨_, rfl⟩
              have HE2 : Hid (pcE (laidF [] rs) E = E2 ∧ pcI E = I2) := ⟨hE2, hI2⟩
              rw [hE2, hI2]
              have h9 := stn_pc HRB.out HS2.out
              rw [HE2.out.1, HL.out] at h9
              have h91 := h9.1
              have h92 := h9.2.1
              clear hE2 hI2 h9
              go_wp2_with fail
              go_roundw
              case rel => exact ⟨k2, E, E2, I2, rfl, rfl, rfl, hmore, h91, h92, HS2.out, HE2.out.1, HE2.out.2, HB3.out⟩
              case measure => simp [intOf]; omega
            · have p2 : ¬ (E : Int) ≤ (A : Int) / 8 := by omega
              have p3 : ¬ (E : Int) ≤ (n : Int) := by omega
              have hin := stn_in HS.out.1
              have hkN : k < N := by have := HN.out; omega
              have HP : Hid (Pk rs k ≤ n ∧ n < Pk rs (k + 1)) := ⟨hin.1, hin.2.1⟩
              have HBx : Hid (Below w.heap.size w wr) := below_two HB2.out HS.out.2.2.2
              clear hin
              go_wp2_with fail
              go_loopw [11] (fun vk wx => ∃ j : Nat, j ≤ k ∧ vk = .int .i64 (j : Int) ∧ wx = wr) (fun vk _ => N - (intOf vk).toNat)
              case atStart => exact ⟨0, Nat.zero_le _, rfl, rfl⟩
              case round =>
                obtain ⟨j, hj, rfl, hwx⟩ := hrel
                subst hwx
                rename World => wx
                have p4 : (j : Int) < (N : Int) := by omega
                obtain ⟨ge, rfl, hge, hcell⟩ := HW.out.2 j (by omega)
                have x0 : wx.cell? ⟨ge, j, none⟩ = some (.int .i64 (Pk rs (j + 1) : Int)) := (HS.out.2.2.2.cell (p := ⟨ge, j, none⟩) hge).trans hcell
                obtain ⟨W1, hW1⟩ : ∃ W1, Pk rs (j + 1) = W1 := ⟨_, rfl⟩
                rw [hW1] at x0
                clear hcell
                by_cases hjk : j < k
                · have p5 : (W1 : Int) ≤ (n : Int) := by have := pk_mono (rs := rs) (show j + 1 ≤ k by omega); have := HP.out.1; omega
                  clear hW1
                  go_wp2_with fail
                  go_roundw
                  case rel => exact ⟨j + 1, by omega, by go_num, trivial⟩
                  case measure => simp [intOf]; omega
                · obtain rfl : j = k := by omega
                  have p5 : ¬ (W1 : Int) ≤ (n : Int) := by have := HP.out.2; omega
                  have p6 : ((j : Int) == (N : Int)) = false := by simp; omega
                  clear hW1
                  go_wp2_with fail
                  go_loopw [14, 15] (fun vt vi wr => ∃ (t i : Nat) (l : List Nat), i ≤ 32 ∧ t ≤ i ∧ vi = .int .i64 (i : Int) ∧ vt = .int .i64 (t : Int) ∧ Hid (Tn (laidF [] rs) A E n I i l t ∧ BRow wr g 0 l ∧ (∀ q, wr.frozen? ⟨g, q, none⟩ = false) ∧ Below w.heap.size w wr)) (fun _ vi _ => 32 - (intOf vi).toNat)
                  case atStart => exact ⟨0, 0, laidF [] rs, by omega, by omega, rfl, rfl, Tn.zero HBY.out _ _ _ _, HR.out.1.below HS.out.2.2.2 HR.out.1.1, fun q => (World.frozen?_of_block (a := ⟨g, q, none⟩) (HS.out.2.2.2.block g HR.out.1.1)).trans (HR.out.2 q), HBx.out⟩
                  case round =>
                    obtain ⟨t, i, l, hi, hti, rfl, rfl, HX⟩ := hrel
                    rename World => wy
                    have hlL : l.length = L := by have := HX.out.1.len; have := HL.out; omega
                    by_cases hlt : i < 32
                    · have p7 : (i : Int) < 32 := by omega
                      by_cases hbit : bits / 2 ^ i % 2 = 0
                      · have g1 : (((bits : Int) / 2 ^ i).tmod 2 == 0) = true := by rw [bitz, hbit]; rfl
                        go_wp2_with fail
                        go_roundw
                        case rel => exact ⟨t, i + 1, l, by omega, by omega, by go_num, rfl, HX.out.1.skip, HX.out.2⟩
                        case measure => simp [intOf]; omega
                      · have g1 : (((bits : Int) / 2 ^ i).tmod 2 == 0) = false := by
                          rw [bitz]
                          exact beq_eq_false_iff_ne.2 (by omega)
                        by_cases hend : E ≤ (A + i) / 8
                        · have g2 : (E : Int) ≤ ((A : Int) + (i : Int)) / 8 := by omega
                          go_wp2_with fail
                          go_roundw
                          case rel => exact ⟨t, i + 1, l, by omega, by omega, by go_num, rfl, HX.out.1.skip, HX.out.2⟩
                          case measure => simp [intOf]; omega
                        · have g2 : ¬ (E : Int) ≤ ((A : Int) + (i : Int)) / 8 := by omega
                          have g3 : ¬ (L : Int) ≤ ((A : Int) + (i : Int)) / 8 := by omega
                          by_cases hsk : I = true ∧ ((A + i) / 8 = n + 4 ∨ (A + i) / 8 = n + 5)
                          · obtain ⟨rfl, hs4⟩ := hsk
                            rcases hs4 with hs4 | hs4
                            · have g4 : (((A : Int) + (i : Int)) / 8 == (n : Int) + 4) = true := by simp; omega
                              go_wp2_with fail
                              go_roundw
                              case rel => exact ⟨t, i + 1, l, by omega, by omega, by go_num, rfl, HX.out.1.skip, HX.out.2⟩
                              case measure => simp [intOf]; omega
                            · have g4 : (((A : Int) + (i : Int)) / 8 == (n : Int) + 4) = false := by simp; omega
                              have g5 : (((A : Int) + (i : Int)) / 8 == (n : Int) + 5) = true := by simp; omega
                              go_wp2_with fail
                              go_roundw
                              case rel => exact ⟨t, i + 1, l, by omega, by omega, by go_num, rfl, HX.out.1.skip, HX.out.2⟩
                              case measure => simp [intOf]; omega
                          · obtain ⟨z, hz⟩ : ∃ z, l[(A + i) / 8]? = some z := ⟨_, List.getElem?_eq_getElem (by omega)⟩
                            have hzb : z < 256 := HX.out.1.byte z (List.mem_of_getElem? hz)
                            have c0 := HX.out.2.1.2 _ z hz
                            rw [Nat.zero_add] at c0
                            have f0 := HX.out.2.2.1 ((A + i) / 8)
                            have HZ : Hid (l[(A + i) / 8]? = some z ∧ (I = true → (A + i) / 8 ≠ n + 4 ∧ (A + i) / 8 ≠ n + 5)) := ⟨hz, fun h1 => ⟨fun z => hsk ⟨h1, .inl z⟩, fun z => hsk ⟨h1, .inr z⟩⟩⟩
                            clear hz
                            cases I with
                            | false =>
                              clear hsk
                              go_wp2_with fail
                              go_roundw
                              case rel => exact ⟨t + 1, i + 1, l.set ((A + i) / 8) (z ^^^ 2 ^ ((A + i) % 8)), by omega, by omega, by go_num, by go_num, HX.out.1.bit HZ.out.1 (by omega) HZ.out.2, Byt.BRow.set HX.out.2.1 (by omega) _ _ (xorP hzb (by omega)), fun q => by rw [World.frozen?_setCell]; exact HX.out.2.2.1 q, HX.out.2.2.2.setCell hgw _⟩
                              case measure => simp [intOf]; omega
                            | true =>
                              have g4 : (((A : Int) + (i : Int)) / 8 == (n : Int) + 4) = false := by have := (HZ.out.2 rfl).1; simp; omega
                              have g5 : (((A : Int) + (i : Int)) / 8 == (n : Int) + 5) = false := by have := (HZ.out.2 rfl).2; simp; omega
                              clear hsk
                              go_wp2_with fail
                              go_roundw
                              case rel => exact ⟨t + 1, i + 1, l.set ((A + i) / 8) (z ^^^ 2 ^ ((A + i) % 8)), by omega, by omega, by go_num, by go_num, HX.out.1.bit HZ.out.1 (by omega) HZ.out.2, Byt.BRow.set HX.out.2.1 (by omega) _ _ (xorP hzb (by omega)), fun q => by rw [World.frozen?_setCell]; exact HX.out.2.2.1 q, HX.out.2.2.2.setCell hgw _⟩
                              case measure => simp [intOf]; omega
                    · obtain rfl : i = 32 := by omega
                      have p7 : ¬ ((32 : Nat) : Int) < 32 := by omega
                      by_cases ht0 : t = 0
                      · have g1 : ((t : Int) == 0) = true := by simp; omega
                        go_wp2_with fail
                        go_ret
                        exact ⟨rfl, HX.out.2.2.2⟩
                      · have g1 : ((t : Int) == 0) = false := by simp; omega
                        have HRd : Hid (Reads l (rs.take j)) := tn_reads HRB.out HS.out.1 (by rw [HS.out.2.1, HS.out.2.2.1]; exact HX.out.1) ht0 hnA
                        go_wp2_with fail
                        refine (read_any cb L l wy (some ⟨g, 0, none⟩) (IsB.some HX.out.2.1 HX.out.1.byte) (by simp) (HT.out.below HX.out.2.2.2 HT.out.lt) hlL.symm hle2 (by omega)).mono ?_
                        rintro e w5 ⟨rs1, a5, c5, rfl, hR5, hC5, hc5, _, _, _, hb5⟩
                        obtain rfl := Reads.uniq HX.out.1.byte hR5 HRd.out
                        rw [if_neg (by rw [hlL, ← HL.out]; exact reads_short HS.out.1)]
                        have e5 : (rs.take j).length = j := by rw [List.length_take, HN.out]; omega
                        rw [e5]
                        have H5 : Hid (IsD w5 a5 (rs.take j) ∧ IsD w5 a (rs.take j) ∧ Below w.heap.size w w5) := ⟨hC5.isD, (HD.out.1.take j).below (below_two HX.out.2.2.2 hb5), below_two HX.out.2.2.2 hb5⟩
                        have HE5 : Hid ((rs.take j).length = j) := e5
                        have p8 : (j : Int) ≤ (cap : Int) := by omega
                        have p9 : (j : Int) ≤ (N : Int) := by omega
                        generalize (laidF [] (rs.take j)).length = Z5
                        clear hR5 hC5 hb5 e5 hc5
                        go_wp2_with fail
                        refine (sameRecords_any a5 a c5 cap j j (rs.take j) w5 H5.out.1 H5.out.2.1 HE5.out.symm HE5.out.symm (by rw [HE5.out]; omega)).mono ?_
                        rintro e w' ⟨rfl, d6, hw6⟩
                        have H6 : Hid (Below w.heap.size w w') := (by rw [hw6]; exact below_drewN H5.out.2.2 _)
                        clear hw6
                        go_wp2_with fail
                        refine (num_any _ w').mono ?_
                        rintro e w7 ⟨rfl, hw7⟩
                        obtain rfl := hw7.symm
                        clear hw7
                        go_wp2_with fail
                        go_ret
                        exact ⟨rfl, H6.out⟩
        · obtain ⟨A, hA⟩ : ∃ A : Nat, m = (A : Int) := ⟨m.toNat, by omega⟩
          subst hA
          have hAL : A < 8 * L := by omega
          go_wp2_with fail
          refine (piece_any (some ⟨g, 0, none⟩) cb L 0 (laidF [] rs) w2 HW.out.1.isB HL.out.symm (by omega) (by omega) (fun h8 => by have := (stn_pc HRB.out HK0.out).2.2.1 h8; rw [HL.out] at this; exact this)).mono ?_
          rintro e w' ⟨rfl, d3, hw3⟩
          have HB3 : Hid (Below w2.heap.size w2 w') := (by rw [hw3]; exact below_drewN (Below.refl _ _) _)
          clear hw3
          obtain ⟨E0, hE0⟩ : ∃ E, pcE (laidF [] rs) 0 = E := ⟨_, rfl⟩
          obtain ⟨I0, hI0⟩ : ∃ I, pcI 0 = I := ⟨_, rfl⟩
          have HE0 : Hid (pcE (laidF [] rs) 0 = E0 ∧ pcI 0 = I0) := ⟨hE0, hI0⟩
          rw [hE0, hI0]
          clear hE0 hI0
          go_wp2_with fail
          go_loopw [10, 12, 13] (fun vf ve vi wr => ∃ (k n E : Nat) (I : Bool), vf = .int .i64 (n : Int) ∧ ve = .int .i64 (E : Int) ∧ vi = .bool I ∧ n ≤ A / 8 ∧ n < E ∧ E ≤ L ∧ Hid (Stn rs k n ∧ pcE (laidF [] rs) n = E ∧ pcI n = I ∧ Below w2.heap.size w2 wr)) (fun vf _ _ _ => L - (intOf vf).toNat)
          case atStart =>
            have h9 := stn_pc HRB.out HK0.out
            rw [HE0.out.1, HL.out] at h9
            exact ⟨0, 0, E0, I0, rfl, rfl, rfl, Nat.zero_le _, h9.1, h9.2.1, HK0.out, HE0.out.1, HE0.out.2, HB3.out⟩
          case round =>
            clear HE0 HB3
            obtain ⟨k, n, E, I, rfl, rfl, rfl, hnA, hnE, hEL, HS⟩ := hrel
            have p1 : (n : Int) < (E : Int) := by omega
            by_cases hmore : E ≤ A / 8
            · have p2 : (E : Int) ≤ (A : Int) / 8 := by omega
              obtain ⟨k2, hk2⟩ := (stn_pc HRB.out HS.out.1).2.2.2 (by rw [HS.out.2.1, HL.out]; omega)
              rw [HS.out.2.1] at hk2
              have HS2 : Hid (Stn rs k2 E) := hk2
              clear hk2
              go_wp2_with fail
              refine (piece_any (some ⟨g, 0, none⟩) cb L E (laidF [] rs) wr (HW.out.1.isB.below HS.out.2.2.2) HL.out.symm (by omega) hEL (fun h8 => by have := (stn_pc HRB.out HS2.out).2.2.1 h8; rw [HL.out] at this; exact this)).mono ?_
              rintro e w' ⟨rfl, d3, hw3⟩
              have HB3 : Hid (Below w2.heap.size w2 w') := (by rw [hw3]; exact below_drewN HS.out.2.2.2 _)
              clear hw3
              obtain ⟨E2, hE2⟩ : ∃ E', pcE (laidF [] rs) E = E' := ⟨_, rfl⟩
              obtain ⟨I2, hI2⟩ : ∃ I, pcI E = I := ⟨_, rfl⟩
              have HE2 : Hid (pcE (laidF [] rs) E = E2 ∧ pcI E = I2) := ⟨hE2, hI2⟩
              rw [hE2, hI2]
              have h9 := stn_pc HRB.out HS2.out
              rw [HE2.out.1, HL.out] at h9
              have h91 := h9.1
              have h92 := h9.2.1
              clear hE2 hI2 h9
              go_wp2_with fail
              go_roundw
              case rel => exact ⟨k2, E, E2, I2, rfl, rfl, rfl, hmore, h91, h92, HS2.out, HE2.out.1, HE2.out.2, HB3.out⟩
              case measure => simp [intOf]; omega
            · have p2 : ¬ (E : Int) ≤ (A : Int) / 8 := by omega
              have p3 : ¬ (E : Int) ≤ (n : Int) := by omega
              have hin := stn_in HS.out.1
              have hkN : k < N := by have := HN.out; omega
              have HP : Hid (Pk rs k ≤ n ∧ n < Pk rs (k + 1)) := ⟨hin.1, hin.2.1⟩
              have HBx : Hid (Below w.heap.size w wr) := below_two HB2.out HS.out.2.2.2
              clear hin
              go_wp2_with fail
              go_loopw [11] (fun vk wx => ∃ j : Nat, j ≤ k ∧ vk = .int .i64 (j : Int) ∧ wx = wr) (fun vk _ => N - (intOf vk).toNat)
              case atStart => exact ⟨0, Nat.zero_le _, rfl, rfl⟩
              case round =>
                obtain ⟨j, hj, rfl, hwx⟩ := hrel
                subst hwx
                rename World => wx
                have p4 : (j : Int) < (N : Int) := by omega
                obtain ⟨ge, rfl, hge, hcell⟩ := HW.out.2 j (by omega)
                have x0 : wx.cell? ⟨ge, j, none⟩ = some (.int .i64 (Pk rs (j + 1) : Int)) := (HS.out.2.2.2.cell (p := ⟨ge, j, none⟩) hge).trans hcell
                obtain ⟨W1, hW1⟩ : ∃ W1, Pk rs (j + 1) = W1 := ⟨_, rfl⟩
                rw [hW1] at x0
                clear hcell
                by_cases hjk : j < k
                · have p5 : (W1 : Int) ≤ (n : Int) := by have := pk_mono (rs := rs) (show j + 1 ≤ k by omega); have := HP.out.1; omega
                  clear hW1
                  go_wp2_with fail
                  go_roundw
                  case rel => exact ⟨j + 1, by omega, by go_num, trivial⟩
                  case measure => simp [intOf]; omega
                · obtain rfl : j = k := by omega
                  have p5 : ¬ (W1 : Int) ≤ (n : Int) := by have := HP.out.2; omega
                  have p6 : ((j : Int) == (N : Int)) = false := by simp; omega
                  clear hW1
                  go_wp2_with fail
                  go_loopw [14, 15] (fun vt vi wr => ∃ (t i : Nat) (l : List Nat), i ≤ 32 ∧ t ≤ i ∧ vi = .int .i64 (i : Int) ∧ vt = .int .i64 (t : Int) ∧ Hid (Tn (laidF [] rs) A E n I i l t ∧ BRow wr g 0 l ∧ (∀ q, wr.frozen? ⟨g, q, none⟩ = false) ∧ Below w.heap.size w wr)) (fun _ vi _ => 32 - (intOf vi).toNat)
                  case atStart => exact ⟨0, 0, laidF [] rs, by omega, by omega, rfl, rfl, Tn.zero HBY.out _ _ _ _, HR.out.1.below HS.out.2.2.2 HR.out.1.1, fun q => (World.frozen?_of_block (a := ⟨g, q, none⟩) (HS.out.2.2.2.block g HR.out.1.1)).trans (HR.out.2 q), HBx.out⟩
                  case round =>
                    obtain ⟨t, i, l, hi, hti, rfl, rfl, HX⟩ := hrel
                    rename World => wy
                    have hlL : l.length = L := by have := HX.out.1.len; have := HL.out; omega
                    by_cases hlt : i < 32
                    · have p7 : (i : Int) < 32 := by omega
                      by_cases hbit : bits / 2 ^ i % 2 = 0
                      · have g1 : (((bits : Int) / 2 ^ i).tmod 2 == 0) = true := by rw [bitz, hbit]; rfl
                        go_wp2_with fail
                        go_roundw
                        case rel => exact ⟨t, i + 1, l, by omega, by omega, by go_num, rfl, HX.out.1.skip, HX.out.2⟩
                        case measure => simp [intOf]; omega
                      · have g1 : (((bits : Int) / 2 ^ i).tmod 2 == 0) = false := by
                          rw [bitz]
                          exact beq_eq_false_iff_ne.2 (by omega)
                        by_cases hend : E ≤ (A + i) / 8
                        · have g2 : (E : Int) ≤ ((A : Int) + (i : Int)) / 8 := by omega
                          go_wp2_with fail
                          go_roundw
                          case rel => exact ⟨t, i + 1, l, by omega, by omega, by go_num, rfl, HX.out.1.skip, HX.out.2⟩
                          case measure => simp [intOf]; omega
                        · have g2 : ¬ (E : Int) ≤ ((A : Int) + (i : Int)) / 8 := by omega
                          have g3 : ¬ (L : Int) ≤ ((A : Int) + (i : Int)) / 8 := by omega
                          by_cases hsk : I = true ∧ ((A + i) / 8 = n + 4 ∨ (A + i) / 8 = n + 5)
                          · obtain ⟨rfl, hs4⟩ := hsk
                            rcases hs4 with hs4 | hs4
                            · have g4 : (((A : Int) + (i : Int)) / 8 == (n : Int) + 4) = true := by simp; omega
                              go_wp2_with fail
                              go_roundw
                              case rel => exact ⟨t, i + 1, l, by omega, by omega, by go_num, rfl, HX.out.1.skip, HX.out.2⟩
                              case measure => simp [intOf]; omega
                            · have g4 : (((A : Int) + (i : Int)) / 8 == (n : Int) + 4) = false := by simp; omega
                              have g5 : (((A : Int) + (i : Int)) / 8 == (n : Int) + 5) = true := by simp; omega
                              go_wp2_with fail
                              go_roundw
                              case rel => exact ⟨t, i + 1, l, by omega, by omega, by go_num, rfl, HX.out.1.skip, HX.out.2⟩
                              case measure => simp [intOf]; omega
                          · obtain ⟨z, hz⟩ : ∃ z, l[(A + i) / 8]? = some z := ⟨_, List.getElem?_eq_getElem (by omega)⟩
                            have hzb : z < 256 := HX.out.1.byte z (List.mem_of_getElem? hz)
                            have c0 := HX.out.2.1.2 _ z hz
                            rw [Nat.zero_add] at c0
                            have f0 := HX.out.2.2.1 ((A + i) / 8)
                            have HZ : Hid (l[(A + i) / 8]? = some z ∧ (I = true → (A + i) / 8 ≠ n + 4 ∧ (A + i) / 8 ≠ n + 5)) := ⟨hz, fun h1 => ⟨fun z => hsk ⟨h1, .inl z⟩, fun z => hsk ⟨h1, .inr z⟩⟩⟩
                            clear hz
                            cases I with
                            | false =>
                              clear hsk
                              go_wp2_with fail
                              go_roundw
                              case rel => exact ⟨t + 1, i + 1, l.set ((A + i) / 8) (z ^^^ 2 ^ ((A + i) % 8)), by omega, by omega, by go_num, by go_num, HX.out.1.bit HZ.out.1 (by omega) HZ.out.2, Byt.BRow.set HX.out.2.1 (by omega) _ _ (xorP hzb (by omega)), fun q => by rw [World.frozen?_setCell]; exact HX.out.2.2.1 q, HX.out.2.2.2.setCell hgw _⟩
                              case measure => simp [intOf]; omega
                            | true =>
                              have g4 : (((A : Int) + (i : Int)) / 8 == (n : Int) + 4) = false := by have := (HZ.out.2 rfl).1; simp; omega
                              have g5 : (((A : Int) + (i : Int)) / 8 == (n : Int) + 5) = false := by have := (HZ.out.2 rfl).2; simp; omega
                              clear hsk
                              go_wp2_with fail
                              go_roundw
                              case rel => exact ⟨t + 1, i + 1, l.set ((A + i) / 8) (z ^^^ 2 ^ ((A + i) % 8)), by omega, by omega, by go_num, by go_num, HX.out.1.bit HZ.out.1 (by omega) HZ.out.2, Byt.BRow.set HX.out.2.1 (by omega) _ _ (xorP hzb (by omega)), fun q => by rw [World.frozen?_setCell]; exact HX.out.2.2.1 q, HX.out.2.2.2.setCell hgw _⟩
                              case measure => simp [intOf]; omega
                    · obtain rfl : i = 32 := by omega
                      have p7 : ¬ ((32 : Nat) : Int) < 32 := by omega
                      by_cases ht0 : t = 0
                      · have g1 : ((t : Int) == 0) = true := by simp; omega
                        go_wp2_with fail
                        go_ret
                        exact ⟨rfl, HX.out.2.2.2⟩
                      · have g1 : ((t : Int) == 0) = false := by simp; omega
                        have HRd : Hid (Reads l (rs.take j)) := tn_reads HRB.out HS.out.1 (by rw [HS.out.2.1, HS.out.2.2.1]; exact HX.out.1) ht0 hnA
                        go_wp2_with fail
                        refine (read_any cb L l wy (some ⟨g, 0, none⟩) (IsB.some HX.out.2.1 HX.out.1.byte) (by simp) (HT.out.below HX.out.2.2.2 HT.out.lt) hlL.symm hle2 (by omega)).mono ?_
                        rintro e w5 ⟨rs1, a5, c5, rfl, hR5, hC5, hc5, _, _, _, hb5⟩
                        obtain rfl := Reads.uniq HX.out.1.byte hR5 HRd.out
                        rw [if_neg (by rw [hlL, ← HL.out]; exact reads_short HS.out.1)]
                        have e5 : (rs.take j).length = j := by rw [List.length_take, HN.out]; omega
                        rw [e5]
                        have H5 : Hid (IsD w5 a5 (rs.take j) ∧ IsD w5 a (rs.take j) ∧ Below w.heap.size w w5) := ⟨hC5.isD, (HD.out.1.take j).below (below_two HX.out.2.2.2 hb5), below_two HX.out.2.2.2 hb5⟩
                        have HE5 : Hid ((rs.take j).length = j) := e5
                        have p8 : (j : Int) ≤ (cap : Int) := by omega
                        have p9 : (j : Int) ≤ (N : Int) := by omega
                        generalize (laidF [] (rs.take j)).length = Z5
                        clear hR5 hC5 hb5 e5 hc5
                        go_wp2_with fail
                        refine (sameRecords_any a5 a c5 cap j j (rs.take j) w5 H5.out.1 H5.out.2.1 HE5.out.symm HE5.out.symm (by rw [HE5.out]; omega)).mono ?_
                        rintro e w' ⟨rfl, d6, hw6⟩
                        have H6 : Hid (Below w.heap.size w w') := (by rw [hw6]; exact below_drewN H5.out.2.2 _)
                        clear hw6
                        go_wp2_with fail
                        refine (num_any _ w').mono ?_
                        rintro e w7 ⟨rfl, hw7⟩
                        obtain rfl := hw7.symm
                        clear hw7
                        go_wp2_with fail
                        go_ret
                        exact ⟨rfl, H6.out⟩
end Lgu
end Go.Proofs.YtcmbogogakdeoaaDoor
