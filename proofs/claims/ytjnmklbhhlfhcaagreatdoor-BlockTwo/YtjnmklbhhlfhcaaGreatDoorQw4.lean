import Derived.Test.YtjnmklbhhlfhcaaGreatDoorQw3
import Derived.Test.YtjnmklbhhlfhcaaGreatDoorSam
import Derived.BigQuiet
import Derived.Deep.DeepCutAuto
import Derived.Deep.RegionHeld3
namespace Go.Proofs.YtjnmklbhhlfhcaaGreatDoor
namespace BlockTwo
open Go.RowKit Go.Shelf CMath Byt Laws Irw Crw Cod Qb Qw Opn
set_option linter.unusedVariables false
set_option linter.unusedSimpArgs false
set_option maxRecDepth 100000
theorem two_in {r0 r1 : Int} (h0 : -9223372036854775808 ≤ r0 ∧ r0 ≤ 9223372036854775807) (h1 : -9223372036854775808 ≤ r1 ∧ r1 ≤ 9223372036854775807) (i : Nat) : -9223372036854775808 ≤ two r0 r1 i ∧ two r0 r1 i ≤ 9223372036854775807 := by
  unfold two; split <;> assumption
set_option maxHeartbeats 8000000 in
theorem walk (w : World) (ht : Tab w) (r0 r1 : Int) (hr0 : -9223372036854775808 ≤ r0 ∧ r0 ≤ 9223372036854775807) (hr1 : -9223372036854775808 ≤ r1 ∧ r1 ≤ 9223372036854775807) (a : Option Addr) (cap N : Nat) (l : List OpT) (hN : l.length = N) (hl : IsOT w a l) (hmx : (N : Int) ≤ 9223372036854775807) (hsz : ∀ o ∈ l, o.2.2.1.size ≤ maxLen ∧ o.2.2.2.2.2.size ≤ maxLen ∧ 0 ≤ o.2.2.2.1 ∧ o.2.2.2.1 ≤ 18446744073709551615) :
    Calls Tryz.prog 3 #[.int .i64 r0, .int .i64 r1, .slice a N cap] w fun e w' => e = .returned (.bool true) ∧ Below w.heap.size w w' := by
  have HR : Hid (∀ i, -9223372036854775808 ≤ two r0 r1 i ∧ two r0 r1 i ≤ 9223372036854775807) := two_in hr0 hr1
  have HT : Hid (Tab w) := ht
  have HD : Hid (IsOT w a l ∧ l.length = N ∧ ∀ o ∈ l, o.2.2.1.size ≤ maxLen ∧ o.2.2.2.2.2.size ≤ maxLen ∧ 0 ≤ o.2.2.2.1 ∧ o.2.2.2.1 ≤ 18446744073709551615) := ⟨hl, hN, hsz⟩
  obtain ⟨i0, hi0, hz0, hz1, hz2⟩ := info_parts Erw.infoE
  obtain ⟨iS, hiS, hy0, hy1, hy2⟩ := info_parts infoSh
  clear ht hl hr0 hr1 hsz hN
  go_enter Tryz.func3, Tryz.ntmps3
  by_cases h200 : 200 < N
  · have q1 : (200 : Int) < (N : Int) := by omega
    clear h200
    go_wp2
    go_ret
    exact ⟨rfl, Below.refl _ _⟩
  · have h200' : (N : Int) ≤ 200 := by omega
    go_wp2_with (first | (refine BookB.wpList_book (by rfl) (by rfl) ?_) | (go_at_call 4; fail))
    have HK0 : Hid (BookB.Kept (BookB.upd (fun _ => 0) w.heap.size 1) (w.alloc (.cells BookB.bookZ 45)) w.heap.size 0) := BookB.Kept.first w
    have hb2 : Below w.heap.size w (w.alloc (.cells BookB.bookZ 45)) := (Below.refl _ _).alloc (Nat.le_refl _) _
    have hs2 : (w.alloc (.cells BookB.bookZ 45)).heap.size = w.heap.size + 1 := by simp
    generalize (w.alloc (.cells BookB.bookZ 45)) = W2 at *
    refine (newMaker_any 9000010 (BookB.upd (fun _ => 0) w.heap.size 1) W2 r0).mono ?_
    rintro e w3 ⟨rfl, hm3, hb3, hs3⟩
    have H3 : Hid (MakerAt 9000010 (Irw.upd (BookB.upd (fun _ => 0) w.heap.size 1) W2.heap.size 9000010) w3 W2.heap.size r0 st0 ∧ Below W2.heap.size W2 w3 ∧ w3.heap.size = W2.heap.size + 1 ∧ Below w.heap.size w W2 ∧ W2.heap.size = w.heap.size + 1) := ⟨hm3, hb3, hs3, hb2, hs2⟩
    obtain ⟨M0, hM0⟩ : ∃ M0, M0 = W2.heap.size := ⟨_, rfl⟩
    rw [← hM0]
    clear hm3 hb3 hs3 hb2 hs2
    dsimp only
    go_wp2_with (go_at_call 4; fail)
    refine (newMaker_any 9000013 (Irw.upd (BookB.upd (fun _ => 0) w.heap.size 1) W2.heap.size 9000010) w3 r1).mono ?_
    rintro e w4 ⟨rfl, hm4, hb4, hs4⟩
    have H4 : Hid (∃ T, Tw w w.heap.size 0 w4.heap.size (w4.heap.size + 1) (w4.heap.size + 2) (two W2.heap.size w3.heap.size) (two r0 r1) (fun _ => []) (fun _ => []) (fun _ => (none, 0, 0)) (.slice none 0 0) [] [] T
      (((w4.alloc (.cells #[.pointer (some ⟨W2.heap.size, 0, none⟩), .pointer (some ⟨w3.heap.size, 0, none⟩)] 46)).alloc (.cells #[.int .i64 r0, .int .i64 r1] 3)).alloc (.cells #[.slice none 0 0, .slice none 0 0] 50))) := Tw.first HK0.out H3.out.2.2.2.1 H3.out.2.2.2.2 H3.out.1 H3.out.2.1 H3.out.2.2.1 hm4 hb4 hs4
    obtain ⟨M1, hM1⟩ : ∃ M1, M1 = w3.heap.size := ⟨_, rfl⟩
    obtain ⟨Kb, hKb⟩ : ∃ Kb, Kb = w.heap.size := ⟨_, rfl⟩
    rw [← hM0, ← hM1, ← hKb] at H4
    rw [← hM1, ← hKb]
    clear hm4 hb4 hs4 H3 HK0 hM0 hM1 hKb
    dsimp only
    go_upto_region 7 with (fail)
    obtain ⟨ib, hib⟩ : ∃ ib, ib = w4.heap.size + 1 + 1 := ⟨_, rfl⟩
    obtain ⟨rb, hrb⟩ : ∃ rb, rb = w4.heap.size + 1 := ⟨_, rfl⟩
    obtain ⟨mb, hmb⟩ : ∃ mb, mb = w4.heap.size := ⟨_, rfl⟩
    rw [show w4.heap.size + 2 = ib from hib.symm, ← hrb, ← hmb] at H4
    rw [← hib, ← hrb, ← hmb]
    generalize (((w4.alloc (.cells #[.pointer (some ⟨M0, 0, none⟩), .pointer (some ⟨M1, 0, none⟩)] 46)).alloc (.cells #[.int .i64 r0, .int .i64 r1] 3)).alloc (.cells #[.slice none 0 0, .slice none 0 0] 50)) = W7 at H4 ⊢
    clear hib hrb hmb
    generalize two M0 M1 = M at H4
    generalize two r0 r1 = r at H4 HR
    go_wp2
    go_loopw [11, 12] (fun s i wr => ∃ (k XN : Nat) (sa : Option Addr) (sc : Nat), k ≤ N ∧ i = .int .i64 (k : Int) ∧ s = .slice sa XN sc ∧ XN ≤ k ∧ Hid (∃ T q xs ys A v, Tw w Kb q mb rb ib M r A A v (.slice sa XN sc) xs ys T wr ∧ q ≤ k ∧ xs.length = XN ∧ ∀ j, j < 2 → Fit (A j) ∧ (A j).length ≤ k)) (fun _ i _ => N - (intOf i).toNat)
    case atStart =>
      obtain ⟨T, hT⟩ := H4.out
      exact ⟨0, 0, none, 0, Nat.zero_le _, rfl, rfl, Nat.le_refl _, T, 0, [], [], _, _, hT, Nat.le_refl _, rfl, fun j _ => ⟨⟨trivial, by simp⟩, by simp⟩⟩
    case round =>
      clear H4
      obtain ⟨k, XN, sa, sc, hkN, rfl, rfl, hXk, HS⟩ := hrel
      rename World => wr
      by_cases hlt : k < N
      · have q1 : (k : Int) < (N : Int) := by omega
        have hkl : k < l.length := by rw [HD.out.2.1]; exact hlt
        obtain ⟨T, q, xs, ys, A, v, hst, hqk, hxl, hfit⟩ := HS.out
        have HST : Hid (Tw w Kb q mb rb ib M r A A v (.slice sa XN sc) xs ys T wr) := hst
        have HF : Hid (q ≤ k ∧ xs.length = XN ∧ ∀ j, j < 2 → Fit (A j) ∧ (A j).length ≤ k) := ⟨hqk, hxl, hfit⟩
        obtain ⟨b, off, rfl, hr⟩ := (HD.out.1.below hst.bl) (by intro e; rw [e] at hkl; simp at hkl)
        obtain ⟨⟨kd, wv, yk, ys', yd, yv⟩, hx⟩ : ∃ x, l[k]? = some x := ⟨_, List.getElem?_eq_getElem hkl⟩
        obtain ⟨x0, x1, x2, x3, x4, x5⟩ := hr.2 k _ hx
        obtain ⟨z1, z2, z3, z4⟩ := HD.out.2.2 _ (List.mem_of_getElem? hx)
        dsimp only at x0 x1 x2 x3 x4 x5 z1 z2 z3 z4
        obtain ⟨s9, rfl⟩ : ∃ s : Nat, ys' = (s : Int) := ⟨ys'.toNat, by omega⟩
        have HZ : Hid (yk.size ≤ 9223372036854775807 ∧ yv.size ≤ 9223372036854775807) := ⟨z1, z2⟩
        clear z1 z2 z3 z4 hx hr hkl hst hqk hxl hfit HS
        go_upto_region 13 with (fail)
        have HO1 : Hid (OB T (wr.alloc (.cells #[.int .i64 kd, .int .i64 wv, .string yk, .int .u64 (s9 : Int), .bool yd, .string yv] 56)) wr.heap.size kd wv (yk, (s9 : Int), yd, yv)) := OB.new (e := (yk, (s9 : Int), yd, yv)) HST.out.kept.2
        have HST1 : Hid (Tw w Kb q mb rb ib M r A A v (.slice sa XN sc) xs ys T (wr.alloc (.cells #[.int .i64 kd, .int .i64 wv, .string yk, .int .u64 (s9 : Int), .bool yd, .string yv] 56))) := HST.out.below ((Below.refl _ _).alloc (Nat.le_refl _) _)
        obtain ⟨ob, hob⟩ : ∃ ob, ob = wr.heap.size := ⟨_, rfl⟩
        rw [← hob] at HO1
        rw [← hob]
        generalize (wr.alloc (.cells #[.int .i64 kd, .int .i64 wv, .string yk, .int .u64 (s9 : Int), .bool yd, .string yv] 56)) = W1 at HO1 HST1 ⊢
        clear hob HST x0 x1 x2 x3 x4 x5
        have o1 := HO1.out.c1
        go_upto_if 45 with (fail)
        clear o1
        go_cut [14] (fun u w' => ∃ wh : Nat, wh < 2 ∧ u = .int .i64 (wh : Int) ∧ w' = W1)
        case first =>
          by_cases hw : wv = 1
          · have hw1 : (wv == 1) = true := by simpa using hw
            go_wp2
            go_meet
            case rel => exact ⟨1, by omega, rfl, rfl⟩
          · have hw1 : (wv == 1) = false := by simpa using hw
            go_wp2
            go_meet
            case rel => exact ⟨0, by omega, rfl, rfl⟩
        case rest =>
          obtain ⟨wh, hwh, rfl, hW⟩ := hcut
          have hW2 := hW.symm
          clear hW
          subst hW2
          have q2 : (wh : Int) < 2 := by omega
          have q3 : (0 : Int) ≤ (wh : Int) := by omega
          have p0 := HST1.out.mc wh hwh
          have p1 := HST1.out.bx wh hwh
          obtain ⟨va, vn, vc, hv⟩ : ∃ va vn vc, v wh = (va, vn, vc) := ⟨_, _, _, rfl⟩
          rw [hv] at p1
          have HV : Hid (v wh = (va, vn, vc) ∧ wh < 2) := ⟨hv, hwh⟩
          have HN : Hid (Fit (A wh) ∧ (A wh).length ≤ 200) := ⟨(HF.out.2.2 wh hwh).1, by have := (HF.out.2.2 wh hwh).2; omega⟩
          have HSM : Hid (Calls Tryz.prog 5 #[.slice va vn vc] W1 fun e w' => Qg.SmIs W1 (A wh) e w') := HST1.out.cSmall hwh hv HN.out.1 HN.out.2
          obtain ⟨Mw, hMw⟩ : ∃ Mw, Mw = M wh := ⟨_, rfl⟩
          have HM : Hid (Mw = M wh) := hMw
          rw [← hMw] at p0
          clear hv hMw hwh
          go_wp2_with (go_at_call 5; fail)
          refine HSM.out.mono ?_
          rintro e w2 ⟨⟨b2, rfl, hb2s⟩, hb2⟩
          have HST2 : Hid (Tw w Kb q mb rb ib M r A A v (.slice sa XN sc) xs ys T w2) := HST1.out.below hb2
          have HO2 : Hid (OB T w2 ob kd wv (yk, (s9 : Int), yd, yv)) := HO1.out.below hb2
          clear hb2 HSM HST1 HO1 p0 p1
          have p0 := HST2.out.mc wh HV.out.2
          rw [← HM.out] at p0
          dsimp only
          cases b2 with
          | false =>
            clear hb2s
            go_wp2
            go_ret
            exact ⟨rfl, HST2.out.bl⟩
          | true =>
            clear hb2s
            have o0 := HO2.out.c0
            by_cases k1 : kd = 1
            · as_aux_lemma =>
              subst k1
              obtain ⟨ad, had⟩ : ∃ ad, ad = adds (lastE ⟨#[]⟩ (A wh)) (yk, (s9 : Int), yd, yv) := ⟨_, rfl⟩
              have HAD : Hid (ad = adds (lastE ⟨#[]⟩ (A wh)) (yk, (s9 : Int), yd, yv)) := had
              have HS1 : Hid (∀ W, Below w2.heap.size w2 W → Below w2.heap.size w2 W ∧ W.cell? ⟨ib, wh, none⟩ = some (.slice va vn vc) ∧ W.cell? ⟨ob, 2, none⟩ = some (.string yk) ∧ W.cell? ⟨ob, 3, none⟩ = some (.int .u64 (s9 : Int)) ∧ W.cell? ⟨ob, 4, none⟩ = some (.bool yd) ∧ W.cell? ⟨ob, 5, none⟩ = some (.string yv)) := fun W hb => by
                have h1 := (HST2.out.below hb).bx wh HV.out.2
                rw [HV.out.1] at h1
                have h2 := HO2.out.below hb
                exact ⟨hb, h1, h2.c2, h2.c3, h2.c4, h2.c5⟩
              have HADS : Hid (∀ W, (Below w2.heap.size w2 W ∧ W.cell? ⟨ib, wh, none⟩ = some (.slice va vn vc) ∧ W.cell? ⟨ob, 2, none⟩ = some (.string yk) ∧ W.cell? ⟨ob, 3, none⟩ = some (.int .u64 (s9 : Int)) ∧ W.cell? ⟨ob, 4, none⟩ = some (.bool yd) ∧ W.cell? ⟨ob, 5, none⟩ = some (.string yv)) → Calls Tryz.prog 6 #[.slice va vn vc, .agg #[.string yk, .int .u64 (s9 : Int), .bool yd, .string yv]] W fun e w' => e = .returned (.int .i64 ad) ∧ Below W.heap.size W w') := fun W hS => by
                rw [HAD.out]
                exact (HST2.out.below hS.1).cAdds HV.out.2 HV.out.1 HN.out.2 yk s9 yd yv HZ.out.1 HZ.out.2
              clear had
              go_upto_region 19 with (fail)
              clear p0 o0
              go_cut [15] (fun u w' => u = .int .i64 ad ∧ Hid (Below w2.heap.size w2 w'))
              case first =>
                go_region_held3 (fun W => Below w2.heap.size w2 W ∧ W.cell? ⟨ib, wh, none⟩ = some (.slice va vn vc) ∧ W.cell? ⟨ob, 2, none⟩ = some (.string yk) ∧ W.cell? ⟨ob, 3, none⟩ = some (.int .u64 (s9 : Int)) ∧ W.cell? ⟨ob, 4, none⟩ = some (.bool yd) ∧ W.cell? ⟨ob, 5, none⟩ = some (.string yv)) (first | assumption | exact HS1.out _ (Below.refl _ _).drew | exact keepS HS1.out (by assumption) (by assumption))
                  (first
                    | (go_at_call 6; refine (HADS.out _ (by assumption)).mono ?_; rintro e w8 ⟨rfl, hb8⟩))
                go_wp2
                go_meet
                case rel => exact ⟨rfl, drewB hb8⟩
              case rest =>
                obtain ⟨rfl, HB3⟩ := hcut
                rename World => w3
                have HST3 : Hid (Tw w Kb q mb rb ib M r A A v (.slice sa XN sc) xs ys T w3.drew) := (HST2.out.below HB3.out).below (Below.refl _ _).drew
                have HO3 : Hid (OB T w3.drew ob 1 wv (yk, (s9 : Int), yd, yv)) := (HO2.out.below HB3.out).below (Below.refl _ _).drew
                have HS2 : Hid ((fun W => W.cell? ⟨mb, wh, none⟩ = some (.pointer (some ⟨Mw, 0, none⟩)) ∧ W.cell? ⟨ob, 2, none⟩ = some (.string yk) ∧ W.cell? ⟨ob, 3, none⟩ = some (.int .u64 (s9 : Int)) ∧ W.cell? ⟨ob, 4, none⟩ = some (.bool yd) ∧ W.cell? ⟨ob, 5, none⟩ = some (.string yv)) w3.drew) := by
                  have h1 := HST3.out.mc wh HV.out.2
                  rw [← HM.out] at h1
                  exact ⟨h1, HO3.out.c2, HO3.out.c3, HO3.out.c4, HO3.out.c5⟩
                have HADD : Hid (Calls Tryz.prog 8 #[.pointer (some ⟨Mw, 0, none⟩), .agg #[.string yk, .int .u64 (s9 : Int), .bool yd, .string yv]] w3.drew fun e w' => e = .returned (.int .i64 ad) ∧ Hid (∃ T', Tw w Kb q mb rb ib M r (put A wh (if ad = 0 then A wh ++ [(yk, (s9 : Int), yd, yv)] else A wh)) A v (.slice sa XN sc) xs ys T' w' ∧ OB T' w' ob 1 wv (yk, (s9 : Int), yd, yv)) ∧ (fun W => W.cell? ⟨mb, wh, none⟩ = some (.pointer (some ⟨Mw, 0, none⟩)) ∧ W.cell? ⟨ob, 2, none⟩ = some (.string yk) ∧ W.cell? ⟨ob, 3, none⟩ = some (.int .u64 (s9 : Int)) ∧ W.cell? ⟨ob, 4, none⟩ = some (.bool yd) ∧ W.cell? ⟨ob, 5, none⟩ = some (.string yv)) w') := by
                  have h0 := HST3.out.cAdd HV.out.2 HN.out.1 HN.out.2 (HR.out wh) yk s9 yd yv HZ.out.1 HZ.out.2
                  rw [← HAD.out, ← HM.out] at h0
                  refine h0.mono fun e w' h => ?_
                  obtain ⟨h1, T', h2, h3⟩ := h
                  have h4 := HO3.out.goes h3 (by unfold Mk; omega)
                  have h5 := h2.mc wh HV.out.2
                  rw [← HM.out] at h5
                  exact ⟨h1, ⟨T', h2, h4⟩, h5, h4.c2, h4.c3, h4.c4, h4.c5⟩
                clear HS1 HADS
                go_upto_region 20 with (fail)
                go_cut [82] (fun u w' => u = .bool false ∧ Hid (∃ T', Tw w Kb q mb rb ib M r (put A wh (if ad = 0 then A wh ++ [(yk, (s9 : Int), yd, yv)] else A wh)) A v (.slice sa XN sc) xs ys T' w' ∧ OB T' w' ob 1 wv (yk, (s9 : Int), yd, yv)))
                case first =>
                  go_region_held3 (fun W => W.cell? ⟨mb, wh, none⟩ = some (.pointer (some ⟨Mw, 0, none⟩)) ∧ W.cell? ⟨ob, 2, none⟩ = some (.string yk) ∧ W.cell? ⟨ob, 3, none⟩ = some (.int .u64 (s9 : Int)) ∧ W.cell? ⟨ob, 4, none⟩ = some (.bool yd) ∧ W.cell? ⟨ob, 5, none⟩ = some (.string yv)) (first | assumption | exact HS2.out)
                    (first
                      | (go_at_call 8; refine HADD.out.mono ?_; rintro e w8 ⟨rfl, HW8, hS8⟩)
                      | (go_at_call 7; refine (num_any _ _).mono ?_; rintro e w9 ⟨rfl, hw⟩; have hw2 := hw.symm; clear hw; subst hw2))
                  go_wp2
                  go_meet
                  case rel => exact ⟨by simp, HW8⟩
                case rest =>
                  obtain ⟨rfl, HW4⟩ := hcut
                  rename World => w4
                  clear HS2 HADD HST3 HO3 HB3 HST2 HO2
                  obtain ⟨T4, hst4, hob4⟩ := HW4.out
                  by_cases ha0 : ad = 0
                  · subst ha0
                    rw [if_pos rfl] at hst4
                    have HST4 : Hid (Tw w Kb q mb rb ib M r (put A wh (A wh ++ [(yk, (s9 : Int), yd, yv)])) A v (.slice sa XN sc) xs ys T4 w4) := hst4
                    have HO4 : Hid (OB T4 w4 ob 1 wv (yk, (s9 : Int), yd, yv)) := hob4
                    have HLV : Hid (vn = (A wh).length) := by
                      have := (hst4.isE HV.out.2).2.1
                      rw [HV.out.1] at this
                      exact this
                    have HOW : Hid (Erw.OwnE (9000020 + wh) T4 w4 (.slice va vn vc) (A wh)) := by
                      have := hst4.ow wh HV.out.2
                      rw [HV.out.1] at this
                      exact this
                    have HG1 : Hid (Below w4.heap.size w4 (w4.drew.alloc (.cells #[.string yk, .int .u64 (s9 : Int), .bool yd, .string yv] 54))) := (Below.refl _ _).drew.alloc (Nat.le_refl _) _
                    have b0 : w4.cell? ⟨ib, wh, none⟩ = some (.slice va vn vc) := by
                      have := hst4.bx wh HV.out.2
                      rw [HV.out.1] at this
                      exact this
                    have hne4 : ib < w4.heap.size := hst4.il
                    have b2 := hob4.c2
                    have b3 := hob4.c3
                    have b4 := hob4.c4
                    have b5 := hob4.c5
                    dsimp only at b2 b3 b4 b5
                    clear hst4 hob4 HW4
                    go_upto_region 23 with (fail)
                    go_region_law (first
                      | (go_loud (refine Erw.step_appE _ (by rfl) (.tmp 88) (.tmp 91) 49 (by rfl) i0 Tryz.underlying49 hi0 hz0 hz1 hz2 (9000020 + wh) T4 (.slice va vn vc) (A wh) (by simp [Act.eval, Act.put]) (HOW.out.below HG1.out) (some ⟨w4.heap.size, 0, none⟩) 1 1 [(yk, (s9 : Int), yd, yv)] (by simp [Act.eval, Act.put]) (by rfl) (by simp) isE_new10 (by have := HN.out.2; simp; omega) ?_; intro a5 c5 T5 w5 hown5 hgo5 _; have hg5 : Goes (· = 9000020 + wh) T4 w4 T5 w5 := (Goes.below HG1.out).trans hgo5; have HF5 := hid (HST4.out.appO HV.out.2 HO4.out hown5 hg5); obtain ⟨v0, hc5⟩ := HF5.out.2.1; have hf5 := HF5.out.2.2; clear hown5 hgo5 hg5)))
                    all_goals (
                      have HST5 := hid HF5.out.1.1
                      have HFT : Hid (∀ j, j < 2 → Fit ((put A wh (A wh ++ [(yk, (s9 : Int), yd, yv)])) j) ∧ ((put A wh (A wh ++ [(yk, (s9 : Int), yd, yv)])) j).length ≤ k + 1) := fun j hj => by
                        by_cases e : j = wh
                        · subst e
                          rw [put_same]
                          exact ⟨fit_snoc HN.out.1 HAD.out.symm (by show (0 : Int) ≤ (s9 : Int); omega), by have := (HF.out.2.2 j hj).2; simp; omega⟩
                        · rw [put_other _ _ e]
                          exact ⟨(HF.out.2.2 j hj).1, by have := (HF.out.2.2 j hj).2; omega⟩
                      clear HF5 HST4 HO4 HOW HG1 b0 b2 b3 b4 b5 hne4
                      go_wp2_with (go_at_call 17; fail)
                      refine HST5.out.kept.hold.mono ?_
                      rintro e wz ⟨rfl, hbz⟩
                      have HZ9 := hid (HST5.out.below hbz)
                      clear hbz HST5
                      dsimp only
                      go_wp2
                      go_roundw
                      case rel => exact ⟨k + 1, XN, sa, sc, by omega, by go_num, rfl, by omega, T5, q, xs, ys, (put A wh (A wh ++ [(yk, (s9 : Int), yd, yv)])), _, HZ9.out, by have := HF.out.1; omega, HF.out.2.1, HFT.out⟩
                      case measure => simp [intOf]; omega

                      )
                  · rw [if_neg ha0, put_self] at hst4
                    have HST4 : Hid (Tw w Kb q mb rb ib M r A A v (.slice sa XN sc) xs ys T4 w4) := hst4
                    have ha1 : (ad == 0) = false := by simpa using ha0
                    clear hst4 hob4 HW4
                    go_wp2_with (go_at_call 17; fail)
                    refine HST4.out.kept.hold.mono ?_
                    rintro e wz ⟨rfl, hbz⟩
                    have HZ9 := hid (HST4.out.below hbz)
                    clear hbz HST4
                    dsimp only
                    go_wp2
                    go_roundw
                    case rel => exact ⟨k + 1, XN, sa, sc, by omega, by go_num, rfl, by omega, T4, q, xs, ys, A, v, HZ9.out, by have := HF.out.1; omega, HF.out.2.1, fun j hj => ⟨(HF.out.2.2 j hj).1, by have := (HF.out.2.2 j hj).2; omega⟩⟩
                    case measure => simp [intOf]; omega
            · have k1' : (kd == 1) = false := by simpa using k1
              by_cases k2 : kd = 2
              · as_aux_lemma =>
                subst k2
                obtain ⟨L, hL⟩ : ∃ L, L = (bk (r wh) (A wh)).length := ⟨_, rfl⟩
                have HLL : Hid (L = (bk (r wh) (A wh)).length) := hL
                have HS1 : Hid (∀ W, Below w2.heap.size w2 W → Below w2.heap.size w2 W ∧ W.cell? ⟨mb, wh, none⟩ = some (.pointer (some ⟨Mw, 0, none⟩)) ∧ W.cell? ⟨ib, wh, none⟩ = some (.slice va vn vc) ∧ W.cell? ⟨rb, wh, none⟩ = some (.int .i64 (r wh))) := fun W hb => by
                  have h1 := (HST2.out.below hb).bx wh HV.out.2
                  rw [HV.out.1] at h1
                  have h2 := (HST2.out.below hb).mc wh HV.out.2
                  rw [← HM.out] at h2
                  exact ⟨hb, h2, h1, (HST2.out.below hb).rs wh HV.out.2⟩
                have HSIZ : Hid (∀ W, (Below w2.heap.size w2 W ∧ W.cell? ⟨mb, wh, none⟩ = some (.pointer (some ⟨Mw, 0, none⟩)) ∧ W.cell? ⟨ib, wh, none⟩ = some (.slice va vn vc) ∧ W.cell? ⟨rb, wh, none⟩ = some (.int .i64 (r wh))) → Calls Tryz.prog 9 #[.pointer (some ⟨Mw, 0, none⟩)] W fun e w' => e = .returned (.int .i64 (L : Int)) ∧ Below W.heap.size W w') := fun W hS => by
                  have h0 := (HST2.out.below hS.1).cSize HV.out.2 HN.out.1 HN.out.2
                  rw [← HM.out, ← HLL.out] at h0
                  exact h0
                have HREF : Hid (∀ W, (Below w2.heap.size w2 W ∧ W.cell? ⟨mb, wh, none⟩ = some (.pointer (some ⟨Mw, 0, none⟩)) ∧ W.cell? ⟨ib, wh, none⟩ = some (.slice va vn vc) ∧ W.cell? ⟨rb, wh, none⟩ = some (.int .i64 (r wh))) → Calls Tryz.prog 10 #[.slice va vn vc, .int .i64 (r wh)] W fun e w' => ∃ g c, e = .returned (.slice (some ⟨g, 0, none⟩) L c) ∧ IsB w' (some ⟨g, 0, none⟩) (bk (r wh) (A wh)) ∧ Below W.heap.size W w') := fun W hS => by
                  have h0 := (HST2.out.below hS.1).cRef HV.out.2 HV.out.1 HN.out.1 HN.out.2 (HR.out wh)
                  rw [← HLL.out] at h0
                  exact h0
                clear hL
                go_upto_region 25 with (fail)
                clear p0 o0
                go_cut [110] (fun u w' => u = .bool false ∧ Hid (Below w2.heap.size w2 w'))
                case first =>
                  go_region_held3 (fun W => Below w2.heap.size w2 W ∧ W.cell? ⟨mb, wh, none⟩ = some (.pointer (some ⟨Mw, 0, none⟩)) ∧ W.cell? ⟨ib, wh, none⟩ = some (.slice va vn vc) ∧ W.cell? ⟨rb, wh, none⟩ = some (.int .i64 (r wh))) (first | assumption | exact HS1.out _ (Below.refl _ _).drew | exact keepS HS1.out (by assumption) (by assumption))
                    (first
                      | (go_at_call 9; refine (HSIZ.out _ (by assumption)).mono ?_; rintro e w8 ⟨rfl, hb8⟩)
                      | (go_at_call 10; refine (HREF.out _ (by assumption)).mono ?_; rintro e w7 ⟨g7, c7, rfl, hi7, hb7⟩))
                  all_goals (
                    go_wp2
                    go_meet
                    case rel => exact ⟨by simp, by first | exact (drewB hb8).trans (hb7.mono (drewB hb8).size) | exact (drewB hb7).trans (hb8.mono (drewB hb7).size)⟩)
                case rest =>
                  obtain ⟨rfl, HB3⟩ := hcut
                  rename World => w3
                  have HST3 : Hid (Tw w Kb q mb rb ib M r A A v (.slice sa XN sc) xs ys T w3) := HST2.out.below HB3.out
                  clear HS1 HSIZ HREF HB3 HST2 HO2
                  go_wp2_with (go_at_call 17; fail)
                  refine HST3.out.kept.hold.mono ?_
                  rintro e wz ⟨rfl, hbz⟩
                  have HZ9 := hid (HST3.out.below hbz)
                  clear hbz HST3
                  dsimp only
                  go_wp2
                  go_roundw
                  case rel => exact ⟨k + 1, XN, sa, sc, by omega, by go_num, rfl, by omega, T, q, xs, ys, A, v, HZ9.out, by have := HF.out.1; omega, HF.out.2.1, fun j hj => ⟨(HF.out.2.2 j hj).1, by have := (HF.out.2.2 j hj).2; omega⟩⟩
                  case measure => simp [intOf]; omega
              · have k2' : (kd == 2) = false := by simpa using k2
                by_cases k3 : kd = 3
                · as_aux_lemma =>
                  subst k3
                  have HBYT : Hid (Calls Tryz.prog 11 #[.pointer (some ⟨Mw, 0, none⟩)] w2 fun e w' => ∃ vb, e = .returned vb ∧ Byt.Own 5 w2.heap.size w' vb (bk (r wh) (A wh)) ∧ Below w2.heap.size w2 w') := by
                    have h0 := HST2.out.cBytes HV.out.2 HT.out HN.out.1 HN.out.2
                    rw [← HM.out] at h0
                    exact h0
                  go_wp2_with (go_at_call 11; fail)
                  refine HBYT.out.mono ?_
                  rintro e w3 ⟨vb, rfl, hown3, hb3⟩
                  obtain ⟨g3, c3, T3, e3, hlc3, hcm3, hg3, hst3, hlv3, hkp3⟩ := HST2.out.make hb3 hown3
                  subst e3
                  have HST3 : Hid (Tw w Kb q mb rb ib M r A A v (.slice sa XN sc) xs ys T3 w3) := hst3
                  have HLV3 : Hid (BookB.Live 1 T3 w3 (some ⟨g3, 0, none⟩) c3 (bk (r wh) (A wh))) := hlv3
                  have HO3 : Hid (OB T3 w3 ob 3 wv (yk, (s9 : Int), yd, yv)) := (HO2.out.below hb3).tag (hkp3 ob (by have := HO2.out.lt; omega))
                  have HC3 : Hid (c3 ≤ 9223372036854775807) := hcm3
                  obtain ⟨L, hL⟩ : ∃ L, L = (bk (r wh) (A wh)).length := ⟨_, rfl⟩
                  have HLL : Hid (L = (bk (r wh) (A wh)).length ∧ L ≤ 1000000) := ⟨hL, by rw [hL]; exact (bk_len HN.out.1 HN.out.2 _).2⟩
                  rw [← hL]
                  clear hL hown3 hb3 hlc3 hcm3 hg3 hst3 hlv3 hkp3 HBYT HST2 HO2 p0 o0
                  have HS1 : Hid (∀ W, Below w3.heap.size w3 W → Below w3.heap.size w3 W ∧ W.cell? ⟨ib, wh, none⟩ = some (.slice va vn vc) ∧ W.cell? ⟨rb, wh, none⟩ = some (.int .i64 (r wh))) := fun W hb => by
                    have h1 := (HST3.out.below hb).bx wh HV.out.2
                    rw [HV.out.1] at h1
                    exact ⟨hb, h1, (HST3.out.below hb).rs wh HV.out.2⟩
                  have HREF : Hid (∀ W, (Below w3.heap.size w3 W ∧ W.cell? ⟨ib, wh, none⟩ = some (.slice va vn vc) ∧ W.cell? ⟨rb, wh, none⟩ = some (.int .i64 (r wh))) → Calls Tryz.prog 10 #[.slice va vn vc, .int .i64 (r wh)] W fun e w' => ∃ g c, e = .returned (.slice (some ⟨g, 0, none⟩) L c) ∧ IsB w' (some ⟨g, 0, none⟩) (bk (r wh) (A wh)) ∧ Below W.heap.size W w') := fun W hS => by
                    have h0 := (HST3.out.below hS.1).cRef HV.out.2 HV.out.1 HN.out.1 HN.out.2 (HR.out wh)
                    rw [← HLL.out.1] at h0
                    exact h0
                  have HSAM : Hid (∀ W g c, (Below w3.heap.size w3 W ∧ W.cell? ⟨ib, wh, none⟩ = some (.slice va vn vc) ∧ W.cell? ⟨rb, wh, none⟩ = some (.int .i64 (r wh))) → IsB W (some ⟨g, 0, none⟩) (bk (r wh) (A wh)) → Calls Tryz.prog 12 #[.slice (some ⟨g3, 0, none⟩) L c3, .slice (some ⟨g, 0, none⟩) L c] W fun e w' => e = .returned (.bool true) ∧ Below W.heap.size W w') := fun W g c hS hi => (same_any (some ⟨g3, 0, none⟩) (some ⟨g, 0, none⟩) c3 c L L (bk (r wh) (A wh)) W (HLV3.out.below hS.1).isB hi (by have := HLL.out; omega) HLL.out.1 HLL.out.1).mono fun e w' h => by
                    obtain ⟨h1, n9, h2⟩ := h
                    exact ⟨h1, by rw [h2]; exact below_drewN (Below.refl _ _) _⟩
                  dsimp only
                  go_upto_region 30 with (fail)
                  go_cut [129] (fun u w' => u = .bool false ∧ Hid (Below w3.heap.size w3 w'))
                  case first =>
                    go_region_held3 (fun W => Below w3.heap.size w3 W ∧ W.cell? ⟨ib, wh, none⟩ = some (.slice va vn vc) ∧ W.cell? ⟨rb, wh, none⟩ = some (.int .i64 (r wh))) (first | assumption | exact HS1.out _ (Below.refl _ _).drew | exact keepS HS1.out (by assumption) (by assumption))
                      (first
                        | (go_at_call 10; refine (HREF.out _ (by assumption)).mono ?_; rintro e w7 ⟨g7, c7, rfl, hi7, hb7⟩)
                        | (go_at_call 12; refine (HSAM.out _ _ _ (by assumption) hi7).mono ?_; rintro e w8 ⟨rfl, hb8⟩))
                    go_wp2
                    go_meet
                    case rel => exact ⟨rfl, (drewB hb7).trans (hb8.mono (drewB hb7).size)⟩
                  case rest =>
                    obtain ⟨rfl, HB4⟩ := hcut
                    rename World => w4
                    have HST4 : Hid (Tw w Kb q mb rb ib M r A A v (.slice sa XN sc) xs ys T3 w4) := HST3.out.below HB4.out
                    have HLV4 : Hid (BookB.Live 1 T3 w4 (some ⟨g3, 0, none⟩) c3 (bk (r wh) (A wh))) := HLV3.out.below HB4.out
                    have HO4 : Hid (OB T3 w4 ob 3 wv (yk, (s9 : Int), yd, yv)) := HO3.out.below HB4.out
                    clear HS1 HREF HSAM HB4 HST3 HLV3 HO3
                    go_wp2_with (go_at_call 13; fail)
                    refine (HST4.out.cOpen HV.out.2 HT.out HN.out.1 HN.out.2 HLV4.out HLL.out.1 HC3.out).mono ?_
                    rintro e w5 ⟨B5, rfl, hk5, hb5⟩
                    have HST5 : Hid (Tw w Kb q mb rb ib M r A A v (.slice sa XN sc) xs ys T3 w5) := HST4.out.below hb5
                    have HLV5 : Hid (BookB.Live 1 T3 w5 (some ⟨g3, 0, none⟩) c3 (bk (r wh) (A wh))) := HLV4.out.below hb5
                    have HO5 : Hid (OB T3 w5 ob 3 wv (yk, (s9 : Int), yd, yv)) := HO4.out.below hb5
                    have HK5 : Hid (Blk0 T3 w5 B5 (pushes (Rn (r wh)) st0 (A wh))) := hk5
                    clear HST4 HLV4 HO4 hk5 hb5
                    dsimp only
                    go_upto_region 33 with (fail)
                    have o0 := HO5.out.c0
                    go_cut [155] (fun u w' => u = .bool false ∧ Hid (Below w5.heap.size w5 w'))
                    case first =>
                      go_big_region
                      go_wp2
                      go_meet
                      case rel => exact ⟨rfl, (Below.refl _ _).drew⟩
                    case rest =>
                      obtain ⟨rfl, HB6⟩ := hcut
                      rename World => w6
                      have HST6 : Hid (Tw w Kb q mb rb ib M r A A v (.slice sa XN sc) xs ys T3 w6) := HST5.out.below HB6.out
                      have HLV6 : Hid (BookB.Live 1 T3 w6 (some ⟨g3, 0, none⟩) c3 (bk (r wh) (A wh))) := HLV5.out.below HB6.out
                      have HO6 : Hid (OB T3 w6 ob 3 wv (yk, (s9 : Int), yd, yv)) := HO5.out.below HB6.out
                      have HK6 : Hid (Blk0 T3 w6 B5 (pushes (Rn (r wh)) st0 (A wh))) := HK5.out.below HB6.out
                      clear HST5 HLV5 HO5 HK5 HB6
                      have hq : q + 1 ≤ 1000 := by have := HF.out.1; omega
                      go_wp2_with (go_at_call 16; fail)
                      refine (HST6.out.book hq _ HLV6.out (by have := HLL.out; omega) HLL.out.1).mono ?_
                      rintro e w7 ⟨rfl, T7, hst7, hg7⟩
                      have HST7 : Hid (Tw w Kb (q + 1) mb rb ib M r A A v (.slice sa XN sc) xs ys T7 w7) := hst7
                      have HO7 : Hid (OB T7 w7 ob 3 wv (yk, (s9 : Int), yd, yv)) := HO6.out.goes hg7 (by omega)
                      have HK7 : Hid (Blk0 T7 w7 B5 (pushes (Rn (r wh)) st0 (A wh))) := blk_goes HK6.out hg7 (by omega)
                      clear hst7 hg7 HST6 HLV6 HO6 HK6 hq
                      dsimp only
                      go_upto_region 36 with (fail)
                      have o0 := HO7.out.c0
                      go_cut [173] (fun u w' => u = .bool false ∧ Hid (Below w7.heap.size w7 w'))
                      case first =>
                        go_big_region
                        go_wp2
                        go_meet
                        case rel => exact ⟨rfl, (Below.refl _ _).drew⟩
                      case rest =>
                        obtain ⟨rfl, HB8⟩ := hcut
                        rename World => w8
                        have HST8 : Hid (Tw w Kb (q + 1) mb rb ib M r A A v (.slice sa XN sc) xs ys T7 w8) := HST7.out.below HB8.out
                        have HO8 : Hid (OB T7 w8 ob 3 wv (yk, (s9 : Int), yd, yv)) := HO7.out.below HB8.out
                        clear HST7 HO7 HK7 HB8 o0
                        have o0 := HO8.out.c0
                        go_wp2_with (go_at_call 17; fail)
                        refine HST8.out.kept.hold.mono ?_
                        rintro e wz ⟨rfl, hbz⟩
                        have HZ9 := hid (HST8.out.below hbz)
                        clear hbz HST8
                        dsimp only
                        go_wp2
                        go_roundw
                        case rel => exact ⟨k + 1, XN, sa, sc, by omega, by go_num, rfl, by omega, T7, (q + 1), xs, ys, A, v, HZ9.out, by have := HF.out.1; omega, HF.out.2.1, fun j hj => ⟨(HF.out.2.2 j hj).1, by have := (HF.out.2.2 j hj).2; omega⟩⟩
                        case measure => simp [intOf]; omega
                · have k3' : (kd == 3) = false := by simpa using k3
                  by_cases k4 : kd = 4
                  · as_aux_lemma =>
                    subst k4
                    have HBYT : Hid (Calls Tryz.prog 11 #[.pointer (some ⟨Mw, 0, none⟩)] w2 fun e w' => ∃ vb, e = .returned vb ∧ Byt.Own 5 w2.heap.size w' vb (bk (r wh) (A wh)) ∧ Below w2.heap.size w2 w') := by
                      have h0 := HST2.out.cBytes HV.out.2 HT.out HN.out.1 HN.out.2
                      rw [← HM.out] at h0
                      exact h0
                    go_wp2_with (go_at_call 11; fail)
                    refine HBYT.out.mono ?_
                    rintro e w3 ⟨vb, rfl, hown3, hb3⟩
                    obtain ⟨g3, c3, T3, e3, hlc3, hcm3, hg3, hst3, hlv3, hkp3⟩ := HST2.out.make hb3 hown3
                    subst e3
                    have HST3 : Hid (Tw w Kb q mb rb ib M r A A v (.slice sa XN sc) xs ys T3 w3) := hst3
                    have HLV3 : Hid (BookB.Live 1 T3 w3 (some ⟨g3, 0, none⟩) c3 (bk (r wh) (A wh))) := hlv3
                    have HO3 : Hid (OB T3 w3 ob 4 wv (yk, (s9 : Int), yd, yv)) := (HO2.out.below hb3).tag (hkp3 ob (by have := HO2.out.lt; omega))
                    have HC3 : Hid (c3 ≤ 9223372036854775807) := hcm3
                    obtain ⟨L, hL⟩ : ∃ L, L = (bk (r wh) (A wh)).length := ⟨_, rfl⟩
                    have HLL : Hid (L = (bk (r wh) (A wh)).length ∧ L ≤ 1000000) := ⟨hL, by rw [hL]; exact (bk_len HN.out.1 HN.out.2 _).2⟩
                    rw [← hL]
                    clear hL hown3 hb3 hlc3 hcm3 hg3 hst3 hlv3 hkp3 HBYT HST2 HO2 p0 o0
                    have HS1 : Hid (∀ W, Below w3.heap.size w3 W → Below w3.heap.size w3 W ∧ W.cell? ⟨ib, wh, none⟩ = some (.slice va vn vc) ∧ W.cell? ⟨rb, wh, none⟩ = some (.int .i64 (r wh))) := fun W hb => by
                      have h1 := (HST3.out.below hb).bx wh HV.out.2
                      rw [HV.out.1] at h1
                      exact ⟨hb, h1, (HST3.out.below hb).rs wh HV.out.2⟩
                    have HREF : Hid (∀ W, (Below w3.heap.size w3 W ∧ W.cell? ⟨ib, wh, none⟩ = some (.slice va vn vc) ∧ W.cell? ⟨rb, wh, none⟩ = some (.int .i64 (r wh))) → Calls Tryz.prog 10 #[.slice va vn vc, .int .i64 (r wh)] W fun e w' => ∃ g c, e = .returned (.slice (some ⟨g, 0, none⟩) L c) ∧ IsB w' (some ⟨g, 0, none⟩) (bk (r wh) (A wh)) ∧ Below W.heap.size W w') := fun W hS => by
                      have h0 := (HST3.out.below hS.1).cRef HV.out.2 HV.out.1 HN.out.1 HN.out.2 (HR.out wh)
                      rw [← HLL.out.1] at h0
                      exact h0
                    have HSAM : Hid (∀ W g c, (Below w3.heap.size w3 W ∧ W.cell? ⟨ib, wh, none⟩ = some (.slice va vn vc) ∧ W.cell? ⟨rb, wh, none⟩ = some (.int .i64 (r wh))) → IsB W (some ⟨g, 0, none⟩) (bk (r wh) (A wh)) → Calls Tryz.prog 12 #[.slice (some ⟨g3, 0, none⟩) L c3, .slice (some ⟨g, 0, none⟩) L c] W fun e w' => e = .returned (.bool true) ∧ Below W.heap.size W w') := fun W g c hS hi => (same_any (some ⟨g3, 0, none⟩) (some ⟨g, 0, none⟩) c3 c L L (bk (r wh) (A wh)) W (HLV3.out.below hS.1).isB hi (by have := HLL.out; omega) HLL.out.1 HLL.out.1).mono fun e w' h => by
                      obtain ⟨h1, n9, h2⟩ := h
                      exact ⟨h1, by rw [h2]; exact below_drewN (Below.refl _ _) _⟩
                    dsimp only
                    go_upto_region 30 with (fail)
                    go_cut [129] (fun u w' => u = .bool false ∧ Hid (Below w3.heap.size w3 w'))
                    case first =>
                      go_region_held3 (fun W => Below w3.heap.size w3 W ∧ W.cell? ⟨ib, wh, none⟩ = some (.slice va vn vc) ∧ W.cell? ⟨rb, wh, none⟩ = some (.int .i64 (r wh))) (first | assumption | exact HS1.out _ (Below.refl _ _).drew | exact keepS HS1.out (by assumption) (by assumption))
                        (first
                          | (go_at_call 10; refine (HREF.out _ (by assumption)).mono ?_; rintro e w7 ⟨g7, c7, rfl, hi7, hb7⟩)
                          | (go_at_call 12; refine (HSAM.out _ _ _ (by assumption) hi7).mono ?_; rintro e w8 ⟨rfl, hb8⟩))
                      go_wp2
                      go_meet
                      case rel => exact ⟨rfl, (drewB hb7).trans (hb8.mono (drewB hb7).size)⟩
                    case rest =>
                      obtain ⟨rfl, HB4⟩ := hcut
                      rename World => w4
                      have HST4 : Hid (Tw w Kb q mb rb ib M r A A v (.slice sa XN sc) xs ys T3 w4) := HST3.out.below HB4.out
                      have HLV4 : Hid (BookB.Live 1 T3 w4 (some ⟨g3, 0, none⟩) c3 (bk (r wh) (A wh))) := HLV3.out.below HB4.out
                      have HO4 : Hid (OB T3 w4 ob 4 wv (yk, (s9 : Int), yd, yv)) := HO3.out.below HB4.out
                      clear HS1 HREF HSAM HB4 HST3 HLV3 HO3
                      go_wp2_with (go_at_call 13; fail)
                      refine (HST4.out.cOpen HV.out.2 HT.out HN.out.1 HN.out.2 HLV4.out HLL.out.1 HC3.out).mono ?_
                      rintro e w5 ⟨B5, rfl, hk5, hb5⟩
                      have HST5 : Hid (Tw w Kb q mb rb ib M r A A v (.slice sa XN sc) xs ys T3 w5) := HST4.out.below hb5
                      have HLV5 : Hid (BookB.Live 1 T3 w5 (some ⟨g3, 0, none⟩) c3 (bk (r wh) (A wh))) := HLV4.out.below hb5
                      have HO5 : Hid (OB T3 w5 ob 4 wv (yk, (s9 : Int), yd, yv)) := HO4.out.below hb5
                      have HK5 : Hid (Blk0 T3 w5 B5 (pushes (Rn (r wh)) st0 (A wh))) := hk5
                      clear HST4 HLV4 HO4 hk5 hb5
                      dsimp only
                      go_upto_region 33 with (fail)
                      have HS5 : Hid (∀ W, Below w5.heap.size w5 W → Below w5.heap.size w5 W ∧ W.cell? ⟨ob, 0, none⟩ = some (.int .i64 4) ∧ W.cell? ⟨ib, wh, none⟩ = some (.slice va vn vc)) := fun W hb => by
                        have h1 := (HST5.out.below hb).bx wh HV.out.2
                        rw [HV.out.1] at h1
                        exact ⟨hb, (HO5.out.below hb).c0, h1⟩
                      have HGIV : Hid (∀ W, (Below w5.heap.size w5 W ∧ W.cell? ⟨ob, 0, none⟩ = some (.int .i64 4) ∧ W.cell? ⟨ib, wh, none⟩ = some (.slice va vn vc)) → Calls Tryz.prog 15 #[.pointer (some ⟨B5, 3, none⟩), .int .i64 (-1)] W fun e w' => GvIs W (A wh) e w') := fun W hS => cGiven HN.out.1 HN.out.2 (HK5.out.below hS.1)
                      have HSME : Hid (∀ W a c, (Below w5.heap.size w5 W ∧ W.cell? ⟨ob, 0, none⟩ = some (.int .i64 4) ∧ W.cell? ⟨ib, wh, none⟩ = some (.slice va vn vc)) → Erw.IsE W a (A wh) → Calls Tryz.prog 14 #[.slice a (A wh).length c, .slice va vn vc] W fun e w' => e = .returned (.bool true) ∧ Below W.heap.size W w') := fun W a c hS ha => by
                        have h1 := (HST5.out.below hS.1).isE HV.out.2
                        rw [HV.out.1] at h1
                        exact sameEntries_true a va c vc _ _ (A wh) W ha h1.1 rfl h1.2.1 (by have := HN.out.2; omega)
                      go_cut [155] (fun u w' => u = .bool false ∧ Hid (Below w5.heap.size w5 w'))
                      case first =>
                        go_region_held3 (fun W => Below w5.heap.size w5 W ∧ W.cell? ⟨ob, 0, none⟩ = some (.int .i64 4) ∧ W.cell? ⟨ib, wh, none⟩ = some (.slice va vn vc)) (first | assumption | exact HS5.out _ (Below.refl _ _).drew | exact keepS HS5.out (by assumption) (by assumption))
                          (first
                            | (go_at_call 7; refine (num_any _ _).mono ?_; rintro e w9 ⟨rfl, hw⟩; have hw2 := hw.symm; clear hw; subst hw2)
                            | (go_at_call 15; refine (HGIV.out _ (by assumption)).mono ?_; rintro e w7 ⟨a7, c7, rfl, hi7, _, _, _, hb7⟩)
                            | (go_at_call 14; refine (HSME.out _ _ _ (by assumption) hi7).mono ?_; rintro e w8 ⟨rfl, hb8⟩))
                        go_wp2
                        go_meet
                        case rel => exact ⟨rfl, (drewB hb7).trans (hb8.mono (drewB hb7).size)⟩
                      case rest =>
                        clear HS5 HGIV HSME
                        obtain ⟨rfl, HB6⟩ := hcut
                        rename World => w6
                        have HST6 : Hid (Tw w Kb q mb rb ib M r A A v (.slice sa XN sc) xs ys T3 w6) := HST5.out.below HB6.out
                        have HLV6 : Hid (BookB.Live 1 T3 w6 (some ⟨g3, 0, none⟩) c3 (bk (r wh) (A wh))) := HLV5.out.below HB6.out
                        have HO6 : Hid (OB T3 w6 ob 4 wv (yk, (s9 : Int), yd, yv)) := HO5.out.below HB6.out
                        have HK6 : Hid (Blk0 T3 w6 B5 (pushes (Rn (r wh)) st0 (A wh))) := HK5.out.below HB6.out
                        clear HST5 HLV5 HO5 HK5 HB6
                        have hq : q + 1 ≤ 1000 := by have := HF.out.1; omega
                        go_wp2_with (go_at_call 16; fail)
                        refine (HST6.out.book hq _ HLV6.out (by have := HLL.out; omega) HLL.out.1).mono ?_
                        rintro e w7 ⟨rfl, T7, hst7, hg7⟩
                        have HST7 : Hid (Tw w Kb (q + 1) mb rb ib M r A A v (.slice sa XN sc) xs ys T7 w7) := hst7
                        have HO7 : Hid (OB T7 w7 ob 4 wv (yk, (s9 : Int), yd, yv)) := HO6.out.goes hg7 (by omega)
                        have HK7 : Hid (Blk0 T7 w7 B5 (pushes (Rn (r wh)) st0 (A wh))) := blk_goes HK6.out hg7 (by omega)
                        clear hst7 hg7 HST6 HLV6 HO6 HK6 hq
                        dsimp only
                        go_upto_region 36 with (fail)
                        have o0 := HO7.out.c0
                        have HS7 : Hid (∀ W, Below w7.heap.size w7 W → Below w7.heap.size w7 W ∧ W.cell? ⟨ob, 0, none⟩ = some (.int .i64 4) ∧ W.cell? ⟨ib, wh, none⟩ = some (.slice va vn vc)) := fun W hb => by
                          have h1 := (HST7.out.below hb).bx wh HV.out.2
                          rw [HV.out.1] at h1
                          exact ⟨hb, (HO7.out.below hb).c0, h1⟩
                        have HGIV : Hid (∀ W, (Below w7.heap.size w7 W ∧ W.cell? ⟨ob, 0, none⟩ = some (.int .i64 4) ∧ W.cell? ⟨ib, wh, none⟩ = some (.slice va vn vc)) → Calls Tryz.prog 15 #[.pointer (some ⟨B5, 3, none⟩), .int .i64 (-1)] W fun e w' => GvIs W (A wh) e w') := fun W hS => cGiven HN.out.1 HN.out.2 (HK7.out.below hS.1)
                        have HSME : Hid (∀ W a c, (Below w7.heap.size w7 W ∧ W.cell? ⟨ob, 0, none⟩ = some (.int .i64 4) ∧ W.cell? ⟨ib, wh, none⟩ = some (.slice va vn vc)) → Erw.IsE W a (A wh) → Calls Tryz.prog 14 #[.slice a (A wh).length c, .slice va vn vc] W fun e w' => e = .returned (.bool true) ∧ Below W.heap.size W w') := fun W a c hS ha => by
                          have h1 := (HST7.out.below hS.1).isE HV.out.2
                          rw [HV.out.1] at h1
                          exact sameEntries_true a va c vc _ _ (A wh) W ha h1.1 rfl h1.2.1 (by have := HN.out.2; omega)
                        clear o0
                        go_cut [173] (fun u w' => u = .bool false ∧ Hid (Below w7.heap.size w7 w'))
                        case first =>
                          go_region_held3 (fun W => Below w7.heap.size w7 W ∧ W.cell? ⟨ob, 0, none⟩ = some (.int .i64 4) ∧ W.cell? ⟨ib, wh, none⟩ = some (.slice va vn vc)) (first | assumption | exact HS7.out _ (Below.refl _ _).drew | exact keepS HS7.out (by assumption) (by assumption))
                            (first
                              | (go_at_call 15; refine (HGIV.out _ (by assumption)).mono ?_; rintro e w9 ⟨a9, c9, rfl, hi9, _, _, _, hb9⟩)
                              | (go_at_call 14; refine (HSME.out _ _ _ (by assumption) hi9).mono ?_; rintro e w8 ⟨rfl, hb8⟩))
                          go_wp2
                          go_meet
                          case rel => exact ⟨rfl, (drewB hb9).trans (hb8.mono (drewB hb9).size)⟩
                        case rest =>
                          obtain ⟨rfl, HB8⟩ := hcut
                          rename World => w8
                          have HST8 : Hid (Tw w Kb (q + 1) mb rb ib M r A A v (.slice sa XN sc) xs ys T7 w8) := HST7.out.below HB8.out
                          have HO8 : Hid (OB T7 w8 ob 4 wv (yk, (s9 : Int), yd, yv)) := HO7.out.below HB8.out
                          have HK8 : Hid (Blk0 T7 w8 B5 (pushes (Rn (r wh)) st0 (A wh))) := HK7.out.below HB8.out
                          clear HS7 HGIV HSME HST7 HO7 HK7 HB8
                          have o0 := HO8.out.c0
                          have hw8 : Below w8.heap.size w8 (w8.alloc (.cells #[] 54)) := (Below.refl _ _).alloc (Nat.le_refl _) _
                          have HIE : Hid (Erw.IsE (w8.alloc (.cells #[] 54)) va (A wh) ∧ vn = (A wh).length ∧ (va = none → vc = 0)) := by
                            have h1 := (HST8.out.below hw8).isE HV.out.2
                            rw [HV.out.1] at h1
                            exact ⟨h1.1, h1.2.1, h1.2.2.2⟩
                          have c8 : w8.cell? ⟨ib, wh, none⟩ = some (.slice va vn vc) := by
                            have h1 := HST8.out.bx wh HV.out.2
                            rw [HV.out.1] at h1
                            exact h1
                          have hne8 : ib < w8.heap.size := HST8.out.il
                          clear hw8
                          go_wp2_with (first
                            | (at_builtin; go_loud (refine Erw.wpList_appE _ (by rfl) (.tmp 179) (.tmp 182) 49 (by rfl) i0 Tryz.underlying49 hi0 hz0 hz1 hz2 1 (Irw.upd (fun _ => 0) w8.heap.size 1) (.slice (some ⟨w8.heap.size, 0, none⟩) 0 0) [] (by rfl) (ownE_lit w8) va vn vc (A wh) (by rfl) HIE.out.2.1 HIE.out.2.2 HIE.out.1 (by have := HN.out.2; simp; omega) ?_; intro a9 c9 T9 w9 hown9 hgo9 _; have HC9 : Hid (Erw.IsE w9 a9 (A wh) ∧ (∀ b off, a9 = some ⟨b, off, none⟩ → w8.heap.size ≤ b) ∧ Below w8.heap.size w8 w9) := (by have h := copy_e hown9 hgo9; rw [List.nil_append] at h; exact ⟨h.1, h.2.2.1, h.2.2.2⟩); have HST9 : Hid (Tw w Kb (q + 1) mb rb ib M r A A v (.slice sa XN sc) xs ys T7 w9) := HST8.out.below HC9.out.2.2; have HSH9 : Hid (ShOk T7 w9 (B5, a9, (A wh).length, c9) (Rn (r wh), A wh)) := ⟨HK8.out.below HC9.out.2.2, HC9.out.1, fun b off e _ => HST8.out.kept.2 b (HC9.out.2.1 b off e), rfl, wkp_made HN.out.1.ok, (by have := (sizes HN.out.1 HN.out.2 (Rn (r wh))).1; dsimp only; omega), HN.out.2⟩; clear hown9 hgo9))
                            | (at_builtin; go_loud (refine wpList_appK kSh _ (by rfl) (.tmp 177) (.tmp 185) 51 (by rfl) iS undSh hiS hy0 hy1 hy2 9000023 T7 (.slice sa XN sc) xs (by rfl) ((HST9.out.below ((Below.refl _ _).alloc (Nat.le_refl _) _)).se.ow) (some ⟨w9.heap.size, 0, none⟩) 1 1 [(B5, a9, (A wh).length, c9)] (by rfl) (by rfl) (by simp) isSh_new (by have := HF.out.2.1; simp; omega) ?_; intro a10 c10 T10 w10 hown10 hgo10; have HST10 : Hid (Tw w Kb (q + 1) mb rb ib M r A A v (.slice a10 (xs.length + 1) c10) (xs ++ [(B5, a9, (A wh).length, c9)]) (ys ++ [(Rn (r wh), A wh)]) T10 w10) := (HST9.out.below ((Below.refl _ _).alloc (Nat.le_refl _) _)).see (HSH9.out.goes (Goes.below (t := fun _ => False) ((Below.refl _ _).alloc (Nat.le_refl _) _)) (fun z => z)) hgo10 hown10; clear hown10 hgo10))
                            | (go_at_call 17; fail))
                          refine HST10.out.kept.hold.mono ?_
                          rintro e wz ⟨rfl, hbz⟩
                          have HZ9 := hid (HST10.out.below hbz)
                          clear hbz HST10
                          dsimp only
                          go_wp2
                          go_roundw
                          case rel => exact ⟨k + 1, (XN + 1), a10, c10, by omega, by go_num, by rw [HF.out.2.1], by omega, T10, (q + 1), (xs ++ [(B5, a9, (A wh).length, c9)]), (ys ++ [(Rn (r wh), A wh)]), A, v, by rw [← HF.out.2.1]; exact HZ9.out, by have := HF.out.1; omega, by rw [List.length_append, HF.out.2.1]; rfl, fun j hj => ⟨(HF.out.2.2 j hj).1, by have := (HF.out.2.2 j hj).2; omega⟩⟩
                          case measure => simp [intOf]; omega
                  · have k4' : (kd == 4) = false := by simpa using k4
                    as_aux_lemma =>
                      have k3b := k3'

                      go_wp2_with (go_at_call 17; fail)
                      refine HST2.out.kept.hold.mono ?_
                      rintro e wz ⟨rfl, hbz⟩
                      have HZ9 := hid (HST2.out.below hbz)
                      clear hbz HST2
                      dsimp only
                      go_wp2
                      go_roundw
                      case rel => exact ⟨k + 1, XN, sa, sc, by omega, by go_num, rfl, by omega, T, q, xs, ys, A, v, HZ9.out, by have := HF.out.1; omega, HF.out.2.1, fun j hj => ⟨(HF.out.2.2 j hj).1, by have := (HF.out.2.2 j hj).2; omega⟩⟩
                      case measure => simp [intOf]; omega
      · obtain rfl : k = N := by omega
        as_aux_lemma =>
          obtain ⟨T, q, xs, ys, A, v, hst, hqk, hxl, hfit⟩ := HS.out
          have HST : Hid (Tw w Kb q mb rb ib M r A A v (.slice sa XN sc) xs ys T wr) := hst
          have HXL : Hid (xs.length = XN) := hxl
          have hXN : (XN : Int) ≤ 200 := by omega
          clear hst hqk hxl hfit HS hlt hXk
          go_wp2_with fail
          go_loopw [19] (fun i wq => ∃ j : Nat, j ≤ XN ∧ i = .int .i64 (j : Int) ∧ Hid (Below wr.heap.size wr wq)) (fun i _ => XN - (intOf i).toNat)
          case atStart => exact ⟨0, Nat.zero_le _, rfl, Below.refl _ _⟩
          case round =>
            obtain ⟨j, hj, rfl, HBQ⟩ := hrel
            rename World => wq
            by_cases hjl : j < XN
            · have q5 : (j : Int) < (XN : Int) := by omega
              have HSW : Hid (Tw w Kb q mb rb ib M r A A v (.slice sa XN sc) xs ys T wq) := HST.out.below HBQ.out
              obtain ⟨g, o, B1, a1, n1, c1, y, rfl, hgl, t0, t1, hsh⟩ := HSW.out.se.at_ (k := j) (by rw [HXL.out]; exact hjl)
              have HSH : Hid (ShOk T wq (B1, a1, n1, c1) y) := hsh
              have HS9 : Hid (∀ W, Below wq.heap.size wq W → Below wq.heap.size wq W ∧ W.cell? ⟨g, o + j * 2, none⟩ = some (.pointer (some ⟨B1, 3, none⟩)) ∧ W.cell? ⟨g, o + j * 2 + 1, none⟩ = some (.slice a1 n1 c1)) := fun W hb => ⟨hb, (hb.cell (p := ⟨g, o + j * 2, none⟩) hgl).trans t0, (hb.cell (p := ⟨g, o + j * 2 + 1, none⟩) hgl).trans t1⟩
              have HGIV : Hid (∀ W, (Below wq.heap.size wq W ∧ W.cell? ⟨g, o + j * 2, none⟩ = some (.pointer (some ⟨B1, 3, none⟩)) ∧ W.cell? ⟨g, o + j * 2 + 1, none⟩ = some (.slice a1 n1 c1)) → Calls Tryz.prog 15 #[.pointer (some ⟨B1, 3, none⟩), .int .i64 (-1)] W fun e w' => GvIs W y.2 e w') := fun W hS => by
                have h := given_any W B1 3 _ _ (-1) (HSH.out.bl.below hS.1).z (by have := HSH.out.le; omega)
                rw [gv_neg, HSH.out.md] at h
                exact h
              have HSME : Hid (∀ W a c, (Below wq.heap.size wq W ∧ W.cell? ⟨g, o + j * 2, none⟩ = some (.pointer (some ⟨B1, 3, none⟩)) ∧ W.cell? ⟨g, o + j * 2 + 1, none⟩ = some (.slice a1 n1 c1)) → Erw.IsE W a y.2 → Calls Tryz.prog 14 #[.slice a y.2.length c, .slice a1 n1 c1] W fun e w' => e = .returned (.bool true) ∧ Below W.heap.size W w') := fun W a c hS ha => sameEntries_true a a1 c c1 _ _ y.2 W ha (HSH.out.en.below hS.1) rfl HSH.out.ln (by have := HSH.out.few; omega)
              clear hsh hgl t0 t1
              go_upto_region 45 with (fail)
              go_cut [208] (fun u w' => u = .bool false ∧ Hid (Below wq.heap.size wq w'))
              case first =>
                go_region_held3 (fun W => Below wq.heap.size wq W ∧ W.cell? ⟨g, o + j * 2, none⟩ = some (.pointer (some ⟨B1, 3, none⟩)) ∧ W.cell? ⟨g, o + j * 2 + 1, none⟩ = some (.slice a1 n1 c1)) (first | assumption | exact HS9.out _ (Below.refl _ _).drew | exact keepS HS9.out (by assumption) (by assumption))
                  (first
                    | (go_at_call 15; refine (HGIV.out _ (by assumption)).mono ?_; rintro e w9 ⟨a9, c9, rfl, hi9, _, _, _, hb9⟩)
                    | (go_at_call 14; refine (HSME.out _ _ _ (by assumption) hi9).mono ?_; rintro e w8 ⟨rfl, hb8⟩))
                go_wp2
                go_meet
                case rel => exact ⟨rfl, (drewB hb9).trans (hb8.mono (drewB hb9).size)⟩
              case rest =>
                obtain ⟨rfl, HB8⟩ := hcut
                rename World => w8
                have HBZ : Hid (Below wr.heap.size wr w8) := HBQ.out.trans (HB8.out.mono HBQ.out.size)
                clear HS9 HGIV HSME HB8 HBQ
                go_wp2
                go_roundw
                case rel => exact ⟨j + 1, by omega, by go_num, HBZ⟩
                case measure => simp [intOf]; omega
            · obtain rfl : j = XN := by omega
              go_wp2
              go_ret
              exact ⟨rfl, HST.out.bl.trans (HBQ.out.mono HST.out.bl.size)⟩
end BlockTwo
end Go.Proofs.YtjnmklbhhlfhcaaGreatDoor
