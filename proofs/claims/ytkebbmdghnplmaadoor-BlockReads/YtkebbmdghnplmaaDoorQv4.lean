import Derived.Test.YtkebbmdghnplmaaDoorQv2
import Derived.Test.YtkebbmdghnplmaaDoorQr6
namespace Go.Proofs.YtkebbmdghnplmaaDoor
namespace BlockReads
open Go.RowKit Go.Shelf CMath Byt Laws Irw Crw Cod Qb Qt Tsr Qv
set_option linter.unusedVariables false
set_option linter.unusedSimpArgs false
set_option maxRecDepth 100000
theorem sz_of {l : List Qg.En} (h : (l.map Qg.bulkE).sum ≤ 32768) : ∀ e ∈ l, e.1.size ≤ 32768 ∧ e.2.2.2.size ≤ 32768 := fun e he => by
  have h1 := Qg.sum_mem he
  have h2 : Qg.bulkE e = 1 + e.1.size + e.2.2.2.size := rfl
  omega
/-- the list 'in' -/
structure Rs (w : World) (acc : List En) (v : Value) (T : Nat → Nat) (W : World) : Prop where
  ow : OwnE 7 T W v acc
  bl : Below w.heap.size w W
  hi : Hi T W
  fr : ∀ b, b < w.heap.size → T b = 0
theorem Rs.below {w W W' : World} {acc : List En} {v : Value} {T : Nat → Nat} (h : Rs w acc v T W) (hb : Below W.heap.size W W') : Rs w acc v T W' :=
  ⟨Erw.OwnE.below h.ow hb, h.bl.trans (hb.mono h.bl.size), h.hi.below hb.size, h.fr⟩
theorem Rs.goes {w W W' : World} {acc acc' : List En} {v v' : Value} {T T' : Nat → Nat} (h : Rs w acc v T W) (hg : Goes (· = 7) T W T' W') (ho : OwnE 7 T' W' v' acc') : Rs w acc' v' T' W' :=
  ⟨ho, h.bl.trans ⟨hg.os, hg.tape, hg.output, hg.size, fun b hb => hg.block b (Nat.lt_of_lt_of_le hb h.bl.size) (by rw [h.fr b hb]; omega)⟩, h.hi.goes hg, fun b hb => (hg.tag b (Nat.lt_of_lt_of_le hb h.bl.size) (by rw [h.fr b hb]; omega)).trans (h.fr b hb)⟩
set_option maxHeartbeats 2000000 in
theorem walk (w : World) (ht : Tab w) (r : Int) (hr : -9223372036854775808 ≤ r ∧ r ≤ 9223372036854775807) (a : Option Addr) (cap N : Nat) (l : List Qb.En) (hN : l.length = N) (hmx : (N : Int) ≤ 9223372036854775807) (hl : Erw.IsE w a l) (hsz : ∀ e ∈ l, e.1.size ≤ maxLen ∧ e.2.2.2.size ≤ maxLen ∧ 0 ≤ e.2.1 ∧ e.2.1 ≤ 18446744073709551615)
    (ka : Option Addr) (kc KN : Nat) (ks : List ByteArray) (hKN : ks.length = KN) (hkx : (KN : Int) ≤ 9223372036854775807) (hk : IsT w ka ks) (hks : ∀ s ∈ ks, s.size ≤ maxLen) (nn : Int) :
    Calls Tryd.prog 4 #[.int .i64 r, .slice a N cap, .slice ka KN kc, .int .i64 nn] w fun e w' => e = .returned (.bool true) ∧ Below w.heap.size w w' := by
  obtain ⟨i0, hi0, hz0, hz1, hz2⟩ := info_parts Erw.infoE
  have HT : Hid (Tab w) := ht
  have HL : Hid (Erw.IsE w a l ∧ l.length = N ∧ ∀ e ∈ l, 0 ≤ e.2.1) := ⟨hl, hN, fun e he => (hsz e he).2.2.1⟩
  have HR : Hid (-9223372036854775808 ≤ r ∧ r ≤ 9223372036854775807) := hr
  have HK : Hid (IsT w ka ks ∧ ks.length = KN ∧ ∀ s ∈ ks, s.size ≤ maxLen) := ⟨hk, hKN, hks⟩
  have HSM : Hid (Calls Tryd.prog 7 #[.slice a N cap] w fun r w' => Qg.SmIs w l r w') := Qg.small_any w a cap N l hN hmx hl (fun e he => ⟨(hsz e he).1, (hsz e he).2.1⟩)
  clear ht hl hr hsz hk hKN hks hN
  go_enter Tryd.func4, Tryd.ntmps4
  go_wp2_with (go_at_call 7; fail)
  refine HSM.out.mono ?_
  rintro e w1 ⟨⟨b, rfl, hbs⟩, hb1⟩
  have HB1 : Hid (Below w.heap.size w w1) := hb1
  dsimp only
  cases b with
  | false =>
    clear hbs hb1
    go_wp2
    go_ret
    exact ⟨rfl, HB1.out⟩
  | true =>
    obtain ⟨h200, hbulk⟩ := hbs rfl
    have hs := sz_of hbulk
    have HS : Hid (∀ e ∈ l, e.1.size ≤ 1000000 ∧ e.2.2.2.size ≤ 1000000 ∧ 0 ≤ e.2.1) := fun e he => ⟨by have := (hs e he).1; omega, by have := (hs e he).2; omega, HL.out.2.2 e he⟩
    have hN200 : (N : Int) ≤ 200 := by have := HL.out.2.1; omega
    by_cases h40 : 40 < KN
    · have q2 : (40 : Int) < (KN : Int) := by omega
      clear hbs hb1 hbulk hs h40 h200
      go_wp2
      go_ret
      exact ⟨rfl, HB1.out⟩
    · have q2 : (KN : Int) ≤ 40 := by omega
      have H1 : Hid (Rs w [] (.slice none 0 0) (fun _ => 0) w1) := ⟨Erw.OwnE.empty _ _ _, hb1, fun _ _ => rfl, fun _ _ => rfl⟩
      clear hbs hb1 hbulk hs h40 h200
      go_wp2
      go_loopw [9, 10] (fun v i wr => ∃ (k M : Nat) (aa : Option Addr) (cc : Nat) (T : Nat → Nat), k ≤ N ∧ M ≤ k ∧ v = .slice aa M cc ∧ i = .int .i64 (k : Int) ∧ Hid (M = (mds (l.take k)).length ∧ Rs w (mds (l.take k)) (.slice aa M cc) T wr)) (fun _ i _ => N - (intOf i).toNat)
      case atStart => exact ⟨0, 0, none, 0, _, Nat.zero_le _, Nat.le_refl _, rfl, rfl, rfl, H1.out⟩
      case round =>
        obtain ⟨k, M, aa, cc, T, hkN, hMk, rfl, rfl, HKS⟩ := hrel
        rename World => wr
        by_cases hlt : k < N
        · have q1 : (k : Int) < (N : Int) := by omega
          have hkl : k < l.length := by have := HL.out.2.1; omega
          obtain ⟨b1, o1, ⟨yk, ys, yd, yv⟩, rfl, hy, hbl, x0, x1, x2, x3⟩ := Qg.isE_at (HL.out.1.below HKS.out.2.bl) hkl
          have hsy := HS.out _ (List.mem_of_getElem? hy)
          dsimp only at x0 x1 x2 x3 hsy
          have HMT : Hid (mds (l.take (k + 1)) = mdStep (mds (l.take k)) (yk, ys, yd, yv)) := mds_take hy
          have HLS : Hid ((lastK (mds (l.take k))).size ≤ 1000000) := by
            show _ ≤ _
            rcases Nat.eq_zero_or_pos (mds (l.take k)).length with h0 | h0
            · rw [List.eq_nil_of_length_eq_zero h0, lastK_nil]; decide
            · obtain ⟨e, he, hle⟩ := lastK_at h0
              rw [hle]
              exact (HS.out e (List.mem_of_mem_take ((mds_all (l.take k)).2.1 e (List.mem_of_getElem? he)))).1
          obtain ⟨a3, c3, e3, hi3, _, _⟩ := HKS.out.2.ow.form
          simp only [Value.slice.injEq] at e3
          obtain ⟨rfl, hM3, rfl⟩ := e3
          clear hM3
          have HADD : Hid (Calls Tryd.prog 8 #[.slice aa M cc, .agg #[.string yk, .int .u64 ys, .bool yd, .string yv]] wr fun e w' => e = .returned (.int .i64 (adds (lastE ⟨#[]⟩ (mds (l.take k))) (yk, ys, yd, yv))) ∧ Below wr.heap.size wr w') := by
            rw [← lastK_E2]
            exact refAdds_any aa cc M (mds (l.take k)) yk ys yd yv wr hi3 HKS.out.1 (by omega) hsy.1 hsy.2.1 HLS.out
          unfold mdStep at HMT
          have HKS2 : Hid (M = (mds (l.take k)).length ∧ Rs w (mds (l.take k)) (.slice aa M cc) T wr) := HKS.out
          clear HKS HLS hi3 hy hsy hkl
          generalize mds (l.take k) = acc at *
          generalize adds (lastE ⟨#[]⟩ acc) (yk, ys, yd, yv) = ad at *
          by_cases had : ad = 0
          · subst had
            rw [if_pos rfl] at HMT
            go_wp2_with (first
              | (go_at_call 8; go_loud (refine HADD.out.mono ?_; rintro e w2 ⟨rfl, hb2⟩; have HS2 : Hid (Rs w acc (.slice aa M cc) T w2) := HKS2.out.2.below hb2; have y0 := (hb2.cell (p := ⟨b1, o1 + k * 4, none⟩) hbl).trans x0; have y1 := (hb2.cell (p := ⟨b1, o1 + k * 4 + 1, none⟩) hbl).trans x1; have y2 := (hb2.cell (p := ⟨b1, o1 + k * 4 + 2, none⟩) hbl).trans x2; have y3 := (hb2.cell (p := ⟨b1, o1 + k * 4 + 3, none⟩) hbl).trans x3; clear hb2 x0 x1 x2 x3))
              | (at_builtin; go_loud (refine Erw.wpList_appE _ (by rfl) (.tmp 32) (.tmp 37) 25 (by rfl) i0 Tryd.underlying25 hi0 hz0 hz1 hz2 7 T (.slice aa M cc) acc (by rfl) (HS2.out.below ((Below.refl _ _).alloc (Nat.le_refl _) _)).ow (some ⟨w2.heap.size, 0, none⟩) 1 1 [(yk, ys, yd, yv)] (by rfl) (by rfl) (by simp) isE_new10 (by have := HKS2.out.1; simp; omega) ?_; intro a9 c9 T9 w9 hown9 hgo9 _; have HS9 : Hid (Rs w (acc ++ [(yk, ys, yd, yv)]) (.slice a9 (acc.length + 1) c9) T9 w9) := (HS2.out.below ((Below.refl _ _).alloc (Nat.le_refl _) _)).goes hgo9 hown9; clear hown9 hgo9)))
            go_roundw
            case rel => exact ⟨k + 1, acc.length + 1, a9, c9, T9, by omega, by have := HKS2.out.1; omega, rfl, by go_num, by rw [HMT.out]; simp, by rw [HMT.out]; exact HS9.out⟩
            case measure => simp [intOf]; omega
          · rw [if_neg had] at HMT
            have had2 : (ad == 0) = false := by simpa using had
            go_wp2_with (go_at_call 8; go_loud (refine HADD.out.mono ?_; rintro e w2 ⟨rfl, hb2⟩; have HS2 : Hid (Rs w acc (.slice aa M cc) T w2) := HKS2.out.2.below hb2; clear hb2))
            go_roundw
            case rel => exact ⟨k + 1, M, aa, cc, T, by omega, by omega, rfl, by go_num, by rw [HMT.out]; exact HKS2.out.1, by rw [HMT.out]; exact HS2.out⟩
            case measure => simp [intOf]; omega
        · obtain rfl : k = N := by omega
          clear hlt
          have hfull : l.take k = l := List.take_of_length_le (by have := HL.out.2.1; omega)
          rw [hfull] at HKS
          clear hfull
          have HOK : Hid (∀ e ∈ mds l, Ok e ∧ 0 ≤ e.2.1) := fun e he => ⟨chain_ok (mds_all l).1 e he, HL.out.2.2 e ((mds_all l).2.1 e he)⟩
          obtain ⟨a3, c3, e3, hi3, _, _⟩ := HKS.out.2.ow.form
          simp only [Value.slice.injEq] at e3
          obtain ⟨rfl, hM3, rfl⟩ := e3
          clear hM3
          have HRB : Hid (Calls Tryd.prog 9 #[.slice aa M cc, .int .i64 r] wr fun e w' => ∃ v, e = .returned v ∧ Byt.Own 5 wr.heap.size w' v (blk (pushes (Rn r) st0 (mds l))) ∧ Below wr.heap.size wr w') := refBytes_any aa cc M (mds l) wr r hi3 HKS.out.1 (by omega) HOK.out HR.out
          have HLN : Hid ((blk (pushes (Rn r) st0 (mds l))).length ≤ 200000) := by
            show _ ≤ _
            have h1 := pushes_len (Rn r) (mds l) HOK.out
            have h2 := pushes_plen (Rn r) (mds l) st0
            have z1 : st0.p.length = 0 := rfl
            have h3 := HKS.out.1
            rw [blk_len]
            omega
          have HBR : Hid (Below w.heap.size w wr) := HKS.out.2.bl
          clear hi3 HKS HOK H1
          go_wp2_with (go_at_call 9; fail)
          refine HRB.out.mono ?_
          rintro e w2 ⟨v, rfl, hown, hb2⟩
          obtain ⟨g, c, rfl, hg, _, hlc, hib⟩ := hown.isB
          have hcm : c ≤ 9223372036854775807 := (New.ofOwn hown).elim fun a h => h.elim fun c' h => by have := h.1; simp only [Value.slice.injEq] at this; obtain ⟨_, _, rfl⟩ := this; exact h.2.max
          have HB2 : Hid (Below w.heap.size w w2) := HBR.out.trans (hb2.mono HBR.out.size)
          generalize blk (pushes (Rn r) st0 (mds l)) = bb at *
          obtain ⟨BL, hBL⟩ : ∃ BL, bb.length = BL := ⟨_, rfl⟩
          have HOP : Hid (Calls Tryd.prog 6 #[.slice (some ⟨g, 0, none⟩) BL c, .slice ka KN kc, .int .i64 nn] w2 fun e w' => e = .returned (.bool true) ∧ Below w2.heap.size w2 w') := opens_any w2 (HT.out.below HB2.out HT.out.lt) (some ⟨g, 0, none⟩) c BL bb hib (by simp) hBL (by rw [← hBL]; exact hlc) hcm (by rw [← hBL]; exact HLN.out) ka kc KN ks HK.out.2.1 q2 (HK.out.1.below HB2.out) HK.out.2.2 nn
          rw [hBL]
          clear hown hb2 hg hlc hib hcm hBL HRB HLN
          dsimp only
          go_wp2_with (go_at_call 6; go_loud (refine HOP.out.mono ?_; rintro e w5 ⟨rfl, hb5⟩; have HB5 : Hid (Below w.heap.size w w5) := HB2.out.trans (hb5.mono HB2.out.size); clear hb5))
          go_ret
          exact ⟨rfl, HB5.out⟩
end BlockReads
end Go.Proofs.YtkebbmdghnplmaaDoor
