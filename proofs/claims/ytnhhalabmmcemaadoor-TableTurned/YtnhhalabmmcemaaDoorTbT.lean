import Derived.Test.YtnhhalabmmcemaaDoorTbM
namespace Go.Proofs.YtnhhalabmmcemaaDoor
namespace TableTurned
open Go.RowKit CMath Byt Laws Irw Crw Cod Qb Tbl
set_option linter.unusedVariables false
set_option linter.unusedSimpArgs false
set_option maxRecDepth 100000

set_option maxHeartbeats 4000000 in
theorem walk (w : World) (ht : Tab w) (bb r bits : Int) (hr : -9223372036854775808 ≤ r ∧ r ≤ 9223372036854775807) (hbt : -9223372036854775808 ≤ bits ∧ bits ≤ 9223372036854775807) (a : Option Addr) (cap : Nat) (l : List Qb.En) (hl : Erw.IsE w a l) (hmx : (l.length : Int) ≤ 9223372036854775807) (hsz : ∀ e ∈ l, e.1.size ≤ maxLen ∧ e.2.2.2.size ≤ maxLen ∧ 0 ≤ e.2.1 ∧ e.2.1 ≤ 18446744073709551615)
    (at' : Int) (hat : -9223372036854775808 ≤ at' ∧ at' ≤ 9223372036854775807) (t' : Int) (ht' : 0 ≤ t' ∧ t' < 4294967296) :
    Calls Tryd.prog 4 #[.int .i64 bb, .int .i64 r, .int .i64 bits, .slice a l.length cap, .int .i64 at', .int .u32 t'] w fun e w' => e = .returned (.bool true) ∧ Below w.heap.size w w' := by
  obtain ⟨t, rfl⟩ : ∃ t : Nat, t' = (t : Int) := ⟨t'.toNat, by omega⟩
  have HT := Qb.hid ht
  have HL : Hid (Erw.IsE w a l ∧ ∀ e ∈ l, 0 ≤ e.2.1 ∧ e.2.1 ≤ 18446744073709551615) := ⟨hl, fun e he => (hsz e he).2.2⟩
  have HR := Qb.hid hr
  have HBT := Qb.hid hbt
  have HSM : Hid (Calls Tryd.prog 6 #[.slice a l.length cap] w fun r w' => Qg.SmIs w l r w') := Qg.small_any w a cap _ l rfl hmx hl (fun e he => ⟨(hsz e he).1, (hsz e he).2.1⟩)
  clear ht hl hr hsz hbt hmx
  go_enter Tryd.func4, Tryd.ntmps4
  go_wp2_with (go_at_call 6; fail)
  refine HSM.out.mono ?_
  rintro e w1 ⟨⟨b, rfl, hbs⟩, hb1⟩
  have HB1 : Hid (Below w.heap.size w w1) := hb1
  dsimp only
  cases b with
  | false =>
    clear hbs hb1
    go_wp2
    go_ret
    exact ⟨rfl, HB1.out⟩
  | true =>
    obtain ⟨h300, hbulk⟩ := hbs rfl
    have hs := sz_of hbulk
    have HS : Hid (∀ e ∈ l, e.1.size ≤ 1000000 ∧ e.2.2.2.size ≤ 1000000 ∧ 0 ≤ e.2.1 ∧ e.2.1 < 18446744073709551616) := fun e he => ⟨by have := (hs e he).1; omega, by have := (hs e he).2; omega, (HL.out.2 e he).1, by have := (HL.out.2 e he).2; omega⟩
    have HT1 : Hid (Tab w1) := HT.out.below hb1 HT.out.lt
    have HN := Qb.hid h300
    clear hbs hb1 hbulk hs h300
    go_wp2_with (first
      | (go_at_call 7; go_loud (refine (known_any w1 HT1.out).mono ?_; rintro e w2 ⟨rfl, hb2⟩; have HB2 : Hid (Below w.heap.size w w2) := HB1.out.trans (hb2.mono HB1.out.size); clear hb2))
      | (go_at_call 9; go_loud (refine (config_any bb r bits w2).mono ?_; rintro e w3 ⟨f, rfl, h13, h14, h15, hb3⟩; have HF := Qb.hid (And.intro h13 (And.intro h14 h15)); have HB3 : Hid (Below w.heap.size w w3) := HB2.out.trans (hb3.mono HB2.out.size); generalize hV : cfgA f = V; have HV := Qb.hid hV.symm; clear h13 h14 h15 hb3 hV))
      | (go_at_call 8; fail))
    have HMD : Hid (Calls Tryd.prog 8 #[.agg V, .slice a l.length cap] w3 fun e w' => MtIs w3 e w') :=
      (tmade_any w3 f V HV.out a cap l.length l (HT.out.below HB3.out HT.out.lt) (HL.out.1.below HB3.out) rfl (by have := HN.out; omega) HS.out (by rw [HF.out.2.1]; exact HR.out) (by rw [HF.out.2.2]; exact HBT.out)).mono fun e w' h => mt_of HN.out h
    clear HSM HL HS HN HV HF
    refine HMD.out.mono ?_
    clear HMD
    rintro e w4 ⟨hb4, h | h⟩
    · obtain ⟨m, rfl⟩ := h
      have HB4 : Hid (Below w.heap.size w w4) := HB3.out.trans (hb4.mono HB3.out.size)
      clear hb4
      dsimp only
      go_wp2
      go_ret
      refine ⟨rfl, ?_⟩
      exact HB4.out.alloc HB4.out.size _
    · obtain ⟨g, c4, a5, c5, N, n, B, m, rfl, hNB, hn0, hn1, hN9, hNm, hg, hgl, hrow, hfz, hB8, hop⟩ := h
      have HB4 : Hid (Below w.heap.size w w4) := HB3.out.trans (hb4.mono HB3.out.size)
      have HOP := Qb.hid hop
      have HNB := Qb.hid hNB
      have hgw : w.heap.size ≤ g := Nat.le_trans HB3.out.size hg
      have HG := Qb.hid (And.intro hrow (And.intro hfz (And.intro hB8 (And.intro hgl hgw))))
      clear hb4 hop hNB hrow hfz hB8 hg hgl hgw
      obtain ⟨W, hW⟩ : ∃ W, w4.alloc (.cells #[.int .u64 0, .int .i64 m.wt, .int .i64 m.by_, .int .i64 (m.n : Int), .string m.lo, .string m.hi] 28) = W := ⟨_, rfl⟩
      have h4W : Below w4.heap.size w4 W := by rw [← hW]; exact (Below.refl _ _).alloc (Nat.le_refl _) _
      have HBW : Hid (Below w.heap.size w W) := HB4.out.trans (h4W.mono HB4.out.size)
      have HRW : Hid (BRow W g 0 B ∧ ∀ j, W.frozen? ⟨g, j, none⟩ = false) := ⟨HG.out.1.below h4W HG.out.2.2.2.1, fun j => (h4W.frozen HG.out.2.2.2.1).trans (HG.out.2.1 j)⟩
      clear h4W
      obtain ⟨tq, htq⟩ : ∃ tq : Int, Int.tmod at' (8 * (N : Int)) = tq := ⟨_, rfl⟩
      have ht1 : tq < 8 * (N : Int) := by rw [← htq]; exact Int.tmod_lt_of_pos _ (by omega)
      have ht2 : -(8 * (N : Int)) < tq := by
        have := Int.lt_tmod_of_pos at' (show 0 < 8 * (N : Int) by omega)
        omega
      have hl0 : ¬ ((N : Int) = 0) := by omega
      have hl1 : ((N : Int) == 0) = false := by simpa using hl0
      have hm0 : ¬ (8 * (N : Int) = 0) := by omega
      have hm1 : ((8 * (N : Int)) == 0) = false := by simpa using hm0
      have hn2 : ¬ ((n : Int) = 0) := by omega
      have hn3 : ((n : Int) == 0) = false := by simpa using hn2
      dsimp only
      by_cases h0 : tq < 0
      · obtain ⟨T, hT⟩ : ∃ T : Nat, tq + 8 * (N : Int) = (T : Int) := ⟨(tq + 8 * (N : Int)).toNat, by omega⟩
        have hTN : T < 8 * N := by omega
        go_wp2_with fail
        clear hW
        clear hT h0 ht1 ht2
        go_loopw [18, 19] (fun kv i wr => ∃ (j k : Nat) (c : List Nat), j ≤ 32 ∧ kv = .int .i64 (k : Int) ∧ i = .int .i64 (j : Int) ∧ Hid (Dk B c T t (8 * N - T) j k ∧ BRow wr g 0 c ∧ (∀ q, wr.frozen? ⟨g, q, none⟩ = false) ∧ Below w.heap.size w wr)) (fun _ i _ => 32 - (intOf i).toNat)
        case atStart => exact ⟨0, 0, B, by omega, rfl, rfl, Dk.start HG.out.2.2.1 _ _ _, HRW.out.1, HRW.out.2, HBW.out⟩
        case round =>
          obtain ⟨j, k, c, hj, rfl, rfl, HK⟩ := hrel
          rename World => wr
          have hkj : k ≤ j := HK.out.1.le
          by_cases hlt : j < 32
          · by_cases h1 : T + j < 8 * N
            · by_cases h2 : t / 2 ^ j % 2 = 1
              · have h8 : (T + j) / 8 < N := by omega
                have hcl : c.length = N := by rw [HK.out.1.dt.len, HNB.out]
                obtain ⟨z, hz⟩ : ∃ z, c[(T + j) / 8]? = some z := ⟨_, List.getElem?_eq_getElem (by omega)⟩
                have hzb : z < 256 := HK.out.1.dt.byte z (List.mem_of_getElem? hz)
                have c0 := HK.out.2.1.2 _ z hz
                rw [Nat.zero_add] at c0
                have f0 := HK.out.2.2.1 ((T + j) / 8)
                have HZ : Hid (c[(T + j) / 8]? = some z ∧ c.length = N) := ⟨hz, hcl⟩
                have g1 : (((t : Int) / 2 ^ j).tmod 2 == 1) = true := by
                  rw [bit_mod, h2]; rfl
                clear hz hcl
                go_wp2_with fail
                go_roundw
                case rel =>
                  exact ⟨j + 1, k + 1, c.set ((T + j) / 8) (z ^^^ 2 ^ ((T + j) % 8)), by omega, by go_num, by go_num, HK.out.1.on (by omega) h2 HZ.out.1, Byt.BRow.set HK.out.2.1 (by rw [HZ.out.2]; exact h8) _ _ (xorP hzb (by omega)), fun q => by rw [World.frozen?_setCell]; exact HK.out.2.2.1 q, HK.out.2.2.2.setCell (p := ⟨g, (T + j) / 8, none⟩) HG.out.2.2.2.2 _⟩
                case measure => simp [intOf]; omega
              · have g1 : (((t : Int) / 2 ^ j).tmod 2 == 1) = false := by
                  rw [bit_mod]
                  generalize t / 2 ^ j % 2 = q at *
                  exact beq_eq_false_iff_ne.2 (by omega)
                go_wp2_with fail
                go_roundw
                case rel =>
                  exact ⟨j + 1, k, c, by omega, rfl, by go_num, HK.out.1.off (fun _ => h2), HK.out.2.1, HK.out.2.2.1, HK.out.2.2.2⟩
                case measure => simp [intOf]; omega
            · have HOC := Qb.hid (HOP.out wr c T t (8 * N - T) k (HK.out.1.stop (by omega) hj) (IsB.some HK.out.2.1 HK.out.1.dt.byte) (HT.out.below HK.out.2.2.2 HT.out.lt))
              have HBR := Qb.hid HK.out.2.2.2
              clear HK
              by_cases hk0 : k = 0
              · subst hk0
                go_wp2_with (go_at_call 10; fail)
                refine HOC.out.mono ?_
                rintro e w6 ⟨hb6, ⟨_, M, rfl⟩ | ⟨hz, _⟩⟩
                · have HB6 : Hid (Below w.heap.size w w6) := HBR.out.trans (hb6.mono HBR.out.size)
                  clear hb6
                  dsimp only
                  go_wp2_with (go_at_call 11; go_loud (refine (Tbl.num_any _ _).mono ?_; rintro e w' ⟨rfl, hw⟩; have hw2 := hw.symm; clear hw; subst hw2))
                  go_ret
                  exact ⟨rfl, HB6.out⟩
                · exact absurd rfl hz
              · have hk1 : ¬ ((k : Int) = 0) := by omega
                have hk2 : ((k : Int) == 0) = false := by simpa using hk1
                go_wp2_with (go_at_call 10; fail)
                refine HOC.out.mono ?_
                rintro e w6 ⟨hb6, ⟨hz, _⟩ | ⟨_, rfl⟩⟩
                · exact absurd hz hk0
                · have HB6 : Hid (Below w.heap.size w w6) := HBR.out.trans (hb6.mono HBR.out.size)
                  clear hb6
                  dsimp only
                  go_wp2_with (go_at_call 11; go_loud (refine (Tbl.num_any _ _).mono ?_; rintro e w' ⟨rfl, hw⟩; have hw2 := hw.symm; clear hw; subst hw2))
                  go_ret
                  exact ⟨rfl, HB6.out⟩
          · obtain rfl : j = 32 := by omega
            have hj32 : ((32 : Nat) : Int) = 32 := rfl
            rw [hj32]
            have HOC := Qb.hid (HOP.out wr c T t (8 * N - T) k HK.out.1 (IsB.some HK.out.2.1 HK.out.1.dt.byte) (HT.out.below HK.out.2.2.2 HT.out.lt))
            have HBR := Qb.hid HK.out.2.2.2
            clear HK
            by_cases hk0 : k = 0
            · subst hk0
              go_wp2_with (go_at_call 10; fail)
              refine HOC.out.mono ?_
              rintro e w6 ⟨hb6, ⟨_, M, rfl⟩ | ⟨hz, _⟩⟩
              · have HB6 : Hid (Below w.heap.size w w6) := HBR.out.trans (hb6.mono HBR.out.size)
                clear hb6
                dsimp only
                go_wp2_with (go_at_call 11; go_loud (refine (Tbl.num_any _ _).mono ?_; rintro e w' ⟨rfl, hw⟩; have hw2 := hw.symm; clear hw; subst hw2))
                go_ret
                exact ⟨rfl, HB6.out⟩
              · exact absurd rfl hz
            · have hk1 : ¬ ((k : Int) = 0) := by omega
              have hk2 : ((k : Int) == 0) = false := by simpa using hk1
              go_wp2_with (go_at_call 10; fail)
              refine HOC.out.mono ?_
              rintro e w6 ⟨hb6, ⟨hz, _⟩ | ⟨_, rfl⟩⟩
              · exact absurd hz hk0
              · have HB6 : Hid (Below w.heap.size w w6) := HBR.out.trans (hb6.mono HBR.out.size)
                clear hb6
                dsimp only
                go_wp2_with (go_at_call 11; go_loud (refine (Tbl.num_any _ _).mono ?_; rintro e w' ⟨rfl, hw⟩; have hw2 := hw.symm; clear hw; subst hw2))
                go_ret
                exact ⟨rfl, HB6.out⟩
      · obtain ⟨T, hT⟩ : ∃ T : Nat, tq = (T : Int) := ⟨tq.toNat, by omega⟩
        have hTN : T < 8 * N := by omega
        go_wp2_with fail
        clear hW
        clear hT h0 ht1 ht2
        go_loopw [18, 19] (fun kv i wr => ∃ (j k : Nat) (c : List Nat), j ≤ 32 ∧ kv = .int .i64 (k : Int) ∧ i = .int .i64 (j : Int) ∧ Hid (Dk B c T t (8 * N - T) j k ∧ BRow wr g 0 c ∧ (∀ q, wr.frozen? ⟨g, q, none⟩ = false) ∧ Below w.heap.size w wr)) (fun _ i _ => 32 - (intOf i).toNat)
        case atStart => exact ⟨0, 0, B, by omega, rfl, rfl, Dk.start HG.out.2.2.1 _ _ _, HRW.out.1, HRW.out.2, HBW.out⟩
        case round =>
          obtain ⟨j, k, c, hj, rfl, rfl, HK⟩ := hrel
          rename World => wr
          have hkj : k ≤ j := HK.out.1.le
          by_cases hlt : j < 32
          · by_cases h1 : T + j < 8 * N
            · by_cases h2 : t / 2 ^ j % 2 = 1
              · have h8 : (T + j) / 8 < N := by omega
                have hcl : c.length = N := by rw [HK.out.1.dt.len, HNB.out]
                obtain ⟨z, hz⟩ : ∃ z, c[(T + j) / 8]? = some z := ⟨_, List.getElem?_eq_getElem (by omega)⟩
                have hzb : z < 256 := HK.out.1.dt.byte z (List.mem_of_getElem? hz)
                have c0 := HK.out.2.1.2 _ z hz
                rw [Nat.zero_add] at c0
                have f0 := HK.out.2.2.1 ((T + j) / 8)
                have HZ : Hid (c[(T + j) / 8]? = some z ∧ c.length = N) := ⟨hz, hcl⟩
                have g1 : (((t : Int) / 2 ^ j).tmod 2 == 1) = true := by
                  rw [bit_mod, h2]; rfl
                clear hz hcl
                go_wp2_with fail
                go_roundw
                case rel =>
                  exact ⟨j + 1, k + 1, c.set ((T + j) / 8) (z ^^^ 2 ^ ((T + j) % 8)), by omega, by go_num, by go_num, HK.out.1.on (by omega) h2 HZ.out.1, Byt.BRow.set HK.out.2.1 (by rw [HZ.out.2]; exact h8) _ _ (xorP hzb (by omega)), fun q => by rw [World.frozen?_setCell]; exact HK.out.2.2.1 q, HK.out.2.2.2.setCell (p := ⟨g, (T + j) / 8, none⟩) HG.out.2.2.2.2 _⟩
                case measure => simp [intOf]; omega
              · have g1 : (((t : Int) / 2 ^ j).tmod 2 == 1) = false := by
                  rw [bit_mod]
                  generalize t / 2 ^ j % 2 = q at *
                  exact beq_eq_false_iff_ne.2 (by omega)
                go_wp2_with fail
                go_roundw
                case rel =>
                  exact ⟨j + 1, k, c, by omega, rfl, by go_num, HK.out.1.off (fun _ => h2), HK.out.2.1, HK.out.2.2.1, HK.out.2.2.2⟩
                case measure => simp [intOf]; omega
            · have HOC := Qb.hid (HOP.out wr c T t (8 * N - T) k (HK.out.1.stop (by omega) hj) (IsB.some HK.out.2.1 HK.out.1.dt.byte) (HT.out.below HK.out.2.2.2 HT.out.lt))
              have HBR := Qb.hid HK.out.2.2.2
              clear HK
              by_cases hk0 : k = 0
              · subst hk0
                go_wp2_with (go_at_call 10; fail)
                refine HOC.out.mono ?_
                rintro e w6 ⟨hb6, ⟨_, M, rfl⟩ | ⟨hz, _⟩⟩
                · have HB6 : Hid (Below w.heap.size w w6) := HBR.out.trans (hb6.mono HBR.out.size)
                  clear hb6
                  dsimp only
                  go_wp2_with (go_at_call 11; go_loud (refine (Tbl.num_any _ _).mono ?_; rintro e w' ⟨rfl, hw⟩; have hw2 := hw.symm; clear hw; subst hw2))
                  go_ret
                  exact ⟨rfl, HB6.out⟩
                · exact absurd rfl hz
              · have hk1 : ¬ ((k : Int) = 0) := by omega
                have hk2 : ((k : Int) == 0) = false := by simpa using hk1
                go_wp2_with (go_at_call 10; fail)
                refine HOC.out.mono ?_
                rintro e w6 ⟨hb6, ⟨hz, _⟩ | ⟨_, rfl⟩⟩
                · exact absurd hz hk0
                · have HB6 : Hid (Below w.heap.size w w6) := HBR.out.trans (hb6.mono HBR.out.size)
                  clear hb6
                  dsimp only
                  go_wp2_with (go_at_call 11; go_loud (refine (Tbl.num_any _ _).mono ?_; rintro e w' ⟨rfl, hw⟩; have hw2 := hw.symm; clear hw; subst hw2))
                  go_ret
                  exact ⟨rfl, HB6.out⟩
          · obtain rfl : j = 32 := by omega
            have hj32 : ((32 : Nat) : Int) = 32 := rfl
            rw [hj32]
            have HOC := Qb.hid (HOP.out wr c T t (8 * N - T) k HK.out.1 (IsB.some HK.out.2.1 HK.out.1.dt.byte) (HT.out.below HK.out.2.2.2 HT.out.lt))
            have HBR := Qb.hid HK.out.2.2.2
            clear HK
            by_cases hk0 : k = 0
            · subst hk0
              go_wp2_with (go_at_call 10; fail)
              refine HOC.out.mono ?_
              rintro e w6 ⟨hb6, ⟨_, M, rfl⟩ | ⟨hz, _⟩⟩
              · have HB6 : Hid (Below w.heap.size w w6) := HBR.out.trans (hb6.mono HBR.out.size)
                clear hb6
                dsimp only
                go_wp2_with (go_at_call 11; go_loud (refine (Tbl.num_any _ _).mono ?_; rintro e w' ⟨rfl, hw⟩; have hw2 := hw.symm; clear hw; subst hw2))
                go_ret
                exact ⟨rfl, HB6.out⟩
              · exact absurd rfl hz
            · have hk1 : ¬ ((k : Int) = 0) := by omega
              have hk2 : ((k : Int) == 0) = false := by simpa using hk1
              go_wp2_with (go_at_call 10; fail)
              refine HOC.out.mono ?_
              rintro e w6 ⟨hb6, ⟨hz, _⟩ | ⟨_, rfl⟩⟩
              · exact absurd hz hk0
              · have HB6 : Hid (Below w.heap.size w w6) := HBR.out.trans (hb6.mono HBR.out.size)
                clear hb6
                dsimp only
                go_wp2_with (go_at_call 11; go_loud (refine (Tbl.num_any _ _).mono ?_; rintro e w' ⟨rfl, hw⟩; have hw2 := hw.symm; clear hw; subst hw2))
                go_ret
                exact ⟨rfl, HB6.out⟩
end TableTurned
end Go.Proofs.YtnhhalabmmcemaaDoor
