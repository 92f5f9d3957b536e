import Derived.Test.YtnoipjeoclkeoaaDoorQg3
import Derived.Test.YtnoipjeoclkeoaaDoorSam
namespace Go.Proofs.YtnoipjeoclkeoaaDoor
namespace BlockBack
open Go.RowKit Go.Shelf CMath Byt Laws Irw Crw Cod Qe Qb
set_option linter.unusedVariables false
set_option linter.unusedSimpArgs false
set_option maxRecDepth 100000

theorem sz_of {l : List Qg.En} (h : (l.map Qg.bulkE).sum ≤ 32768) : ∀ e ∈ l, e.1.size ≤ 32768 ∧ e.2.2.2.size ≤ 32768 := fun e he => by
  have h1 := Qg.sum_mem he
  have h2 : Qg.bulkE e = 1 + e.1.size + e.2.2.2.size := rfl
  omega
set_option maxHeartbeats 2000000 in
theorem walk (w : World) (ht : Tab w) (r : Int) (hr : -9223372036854775808 ≤ r ∧ r ≤ 9223372036854775807) (a : Option Addr) (cap : Nat) (l : List Qb.En) (hl : Erw.IsE w a l) (hmx : (l.length : Int) ≤ 9223372036854775807) (hsz : ∀ e ∈ l, e.1.size ≤ maxLen ∧ e.2.2.2.size ≤ maxLen ∧ 0 ≤ e.2.1 ∧ e.2.1 ≤ 18446744073709551615) :
    Calls Tryd.prog 6 #[.int .i64 r, .slice a l.length cap] w fun e w' => e = .returned (.bool true) ∧ Below w.heap.size w w' := by
  have HT : Hid (Tab w) := ht
  have HL : Hid (Erw.IsE w a l ∧ ∀ e ∈ l, 0 ≤ e.2.1) := ⟨hl, fun e he => (hsz e he).2.2.1⟩
  have HR : Hid (-9223372036854775808 ≤ r ∧ r ≤ 9223372036854775807) := hr
  have HSM : Hid (Calls Tryd.prog 8 #[.slice a l.length cap] w fun r w' => Qg.SmIs w l r w') := Qg.small_any w a cap _ l rfl hmx hl (fun e he => ⟨(hsz e he).1, (hsz e he).2.1⟩)
  clear ht hl hr hsz
  go_enter Tryd.func6, Tryd.ntmps6
  go_wp2_with (go_at_call 8; fail)
  refine HSM.out.mono ?_
  rintro e w1 ⟨⟨b, rfl, hbs⟩, hb1⟩
  have HB1 : Hid (Below w.heap.size w w1) := hb1
  dsimp only
  cases b with
  | false =>
    clear hbs hb1
    go_wp2
    go_ret
    exact ⟨rfl, HB1.out⟩
  | true =>
    obtain ⟨h200, hbulk⟩ := hbs rfl
    have hs := sz_of hbulk
    have HS : Hid (∀ e ∈ l, e.1.size ≤ 1000000 ∧ e.2.2.2.size ≤ 1000000 ∧ 0 ≤ e.2.1) := fun e he => ⟨by have := (hs e he).1; omega, by have := (hs e he).2; omega, HL.out.2 e he⟩
    have HT1 : Hid (Tab w1) := HT.out.below hb1 HT.out.lt
    clear hbs hb1 hbulk hs
    go_wp2_with (go_at_call 22; go_loud (refine (known_any w1 HT1.out).mono ?_; rintro e w2 ⟨rfl, hb2⟩; have HB2 : Hid (Below w.heap.size w w2) := HB1.out.trans (hb2.mono HB1.out.size); clear hb2))
    have HT2 : Hid (Tab w2) := HT.out.below HB2.out HT.out.lt
    refine (made_any w2 r a cap _ l HT2.out (HL.out.1.below HB2.out) rfl (by omega) HS.out HR.out).mono ?_
    rintro e w3 ⟨g3, c3, a3, d3, rfl, hg3, hlc3, hcm3, hib3, hie3, hld3, hn3, hb3⟩
    have HM : Hid (chain ⟨#[]⟩ (mds l) ∧ (∀ e ∈ mds l, 0 ≤ e.2.1) ∧ (mds l).length ≤ 200 ∧ ∀ e ∈ mds l, e.1.size ≤ 1000000 ∧ e.2.2.2.size ≤ 1000000 ∧ 0 ≤ e.2.1) := ⟨(mds_all l).1, fun e he => HL.out.2 e ((mds_all l).2.1 e he), Nat.le_trans (mds_all l).2.2 h200, fun e he => HS.out e ((mds_all l).2.1 e he)⟩
    have HB3 : Hid (Below w.heap.size w w3) := HB2.out.trans (hb3.mono HB2.out.size)
    have HT3 : Hid (Tab w3) := HT.out.below HB3.out HT.out.lt
    have HI3 : Hid (IsB w3 (some ⟨g3, 0, none⟩) (blk (pushes (Rn r) st0 (mds l))) ∧ Erw.IsE w3 a3 (mds l)) := ⟨hib3, hie3⟩
    have HBL : Hid ((blk (pushes (Rn r) st0 (mds l))).length ≤ 4000000) := by
      show _ ≤ _
      have h1 := pushes_len (Rn r) (mds l) (fun e he => ⟨chain_ok HM.out.1 e he, HM.out.2.1 e he⟩)
      have h2 := pushes_plen (Rn r) (mds l) st0
      have z1 : st0.p.length = 0 := rfl
      rw [blk_len]
      have := HM.out.2.2.1
      omega
    have HOP : Hid (Calls Tryd.prog 14 #[.slice (some ⟨g3, 0, none⟩) (blk (pushes (Rn r) st0 (mds l))).length c3] w3 fun e w' => ∃ M, e = .returned (.tuple #[.pointer (some ⟨M, 3, none⟩), .int .i64 0]) ∧ BlkF w3.heap.size w' M 3 (pushes (Rn r) st0 (mds l)).b (pushes (Rn r) st0 (mds l)).p ∧ Below w3.heap.size w3 w') := open_made _ c3 _ (Rn r) (mds l) w3 (Rn_pos r) HM.out.1 HM.out.2.1 (by have := HM.out.2.2.1; omega) HT3.out HI3.out.1 rfl hlc3 hcm3 (by simp)
    have HMD : Hid (mds (mds l) = mds l) := mds_chain HM.out.1
    clear hg3 hlc3 hcm3 hib3 hie3 hld3 hn3 hb3 HS HL HSM h200
    generalize mds l = m at *
    obtain ⟨L, hL⟩ : ∃ L, L = (blk (pushes (Rn r) st0 m)).length := ⟨_, rfl⟩
    obtain ⟨ml, hML⟩ : ∃ ml, ml = m.length := ⟨_, rfl⟩
    have HLL : Hid (L = (blk (pushes (Rn r) st0 m)).length ∧ ml = m.length) := ⟨hL, hML⟩
    rw [← hL] at HBL HOP ⊢
    rw [← hML] at HM ⊢
    clear hL hML
    dsimp only
    go_wp2_with (go_at_call 14; fail)
    refine HOP.out.mono ?_
    rintro e w4 ⟨K4, rfl, hk4, hb4⟩
    have HB34 : Hid (Below w3.heap.size w3 w4) := hb4
    have HB4 : Hid (Below w.heap.size w w4) := HB3.out.trans (hb4.mono HB3.out.size)
    have HK4 : Hid (BlkZ w4 K4 3 (pushes (Rn r) st0 m).b (pushes (Rn r) st0 m).p) := hk4.z
    clear hk4 hb4
    have hml := HM.out.2.2.1
    have HGV : Hid (∀ W, Below w4.heap.size w4 W → Calls Tryd.prog 19 #[.pointer (some ⟨K4, 3, none⟩), .int .i64 (-1)] W fun e w' => ∃ a c, e = .returned (.slice a ml c) ∧ Erw.IsE w' a m ∧ Below W.heap.size W w') := fun W hb => by
      refine (given_made W K4 3 (Rn r) m HM.out.1 HM.out.2.1 (by have := HLL.out.2; omega) (HK4.out.below hb)).mono fun e w' ⟨a, c, h1, h2, _, _, _, h3⟩ => ?_
      rw [← HLL.out.2] at h1
      exact ⟨a, c, h1, h2, h3⟩
    dsimp only
    go_wp2_with (first
      | (go_at_call 17; go_loud (refine (num_any _ _).mono ?_; rintro e w9 ⟨rfl, hw⟩; have hw2 := hw.symm; clear hw; subst hw2))
      | (go_at_call 19; fail))
    refine (HGV.out w4 (Below.refl _ _)).mono ?_
    rintro e w5 ⟨a5, c5, rfl, hi5, hb5⟩
    have HB45 : Hid (Below w4.heap.size w4 w5) := hb5
    have HSE : Hid (Calls Tryd.prog 18 #[.slice a5 ml c5, .slice a3 ml d3] w5 fun e w' => e = .returned (.bool true) ∧ Below w5.heap.size w5 w') := sameEntries_true _ _ _ _ ml ml m w5 hi5 ((HI3.out.2.below HB34.out).below hb5) HLL.out.2 HLL.out.2 (by omega)
    clear hi5 hb5
    dsimp only
    go_wp2_with (go_at_call 18; go_loud (refine HSE.out.mono ?_; rintro e w6 ⟨rfl, hb6⟩; have HB46 : Hid (Below w4.heap.size w4 w6) := HB45.out.trans (hb6.mono HB45.out.size); clear hb6))
    refine (HGV.out w6 HB46.out).mono ?_
    rintro e w7 ⟨a7, c7, rfl, hi7, hb7⟩
    have HB47 : Hid (Below w4.heap.size w4 w7) := HB46.out.trans (hb7.mono HB46.out.size)
    have HB7 : Hid (Below w.heap.size w w7) := HB4.out.trans (HB47.out.mono HB4.out.size)
    have HMA : Hid (Calls Tryd.prog 23 #[.int .i64 r, .slice a7 ml c7] w7 fun e w' => ∃ g c a' c', e = .returned (.tuple #[.slice (some ⟨g, 0, none⟩) L c, .slice a' ml c', .bool true]) ∧ IsB w' (some ⟨g, 0, none⟩) (blk (pushes (Rn r) st0 m)) ∧ Erw.IsE w' a' m ∧ Below w7.heap.size w7 w') := by
      refine (made_any w7 r a7 c7 ml m (HT.out.below HB7.out HT.out.lt) hi7 HLL.out.2 (by omega) HM.out.2.2.2 HR.out).mono fun e w' h => ?_
      unfold MdIs at h
      rw [HMD.out] at h
      obtain ⟨g, c, a', c', h1, _, _, _, h2, h3, _, _, h4⟩ := h
      rw [← HLL.out.1, ← HLL.out.2] at h1
      exact ⟨g, c, a', c', h1, h2, h3, h4⟩
    clear hi7 hb7
    dsimp only
    go_wp2_with (go_at_call 23; go_loud (refine HMA.out.mono ?_; rintro e w8 ⟨g8, c8, a8, d8, rfl, hib8, hie8, hb8⟩; have HB48 : Hid (Below w4.heap.size w4 w8) := HB47.out.trans (hb8.mono HB47.out.size); have HI8 : Hid (IsB w8 (some ⟨g8, 0, none⟩) (blk (pushes (Rn r) st0 m)) ∧ Erw.IsE w8 a8 m) := ⟨hib8, hie8⟩; clear hib8 hie8 hb8))
    have HB8 : Hid (Below w.heap.size w w8) := HB4.out.trans (HB48.out.mono HB4.out.size)
    have HB38 : Hid (Below w3.heap.size w3 w8) := HB34.out.trans (HB48.out.mono HB34.out.size)
    refine (same_any (some ⟨g8, 0, none⟩) (some ⟨g3, 0, none⟩) c8 c3 L L (blk (pushes (Rn r) st0 m)) w8 HI8.out.1 (HI3.out.1.below HB38.out) (by have := HBL.out; have := HLL.out.1; omega) HLL.out.1 HLL.out.1).mono ?_
    rintro e w9 ⟨rfl, n9, hw9⟩
    have HB89 : Hid (Below w8.heap.size w8 w9) := by rw [hw9]; exact below_drewN (Below.refl _ _) _
    clear hw9
    have HSE2 : Hid (Calls Tryd.prog 18 #[.slice a8 ml d8, .slice a3 ml d3] w9 fun e w' => e = .returned (.bool true) ∧ Below w9.heap.size w9 w') := sameEntries_true _ _ _ _ ml ml m w9 (HI8.out.2.below HB89.out) ((HI3.out.2.below HB38.out).below HB89.out) HLL.out.2 HLL.out.2 (by omega)
    dsimp only
    go_wp2_with (go_at_call 18; go_loud (refine HSE2.out.mono ?_; rintro e w10 ⟨rfl, hb10⟩; have HB10 : Hid (Below w.heap.size w w10) := HB8.out.trans ((HB89.out.trans (hb10.mono HB89.out.size)).mono HB8.out.size); clear hb10))
    go_ret
    exact ⟨rfl, HB10.out⟩
end BlockBack
end Go.Proofs.YtnoipjeoclkeoaaDoor
