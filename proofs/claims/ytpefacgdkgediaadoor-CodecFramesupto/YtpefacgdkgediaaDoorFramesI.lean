import Derived.Test.YtpefacgdkgediaaDoorProg
import Derived.Test.YtpefacgdkgediaaDoorFramesN
import Derived.WalkKit
import Derived.WalkSpells
import Derived.WalkLawsBesides
namespace Go.Proofs.YtpefacgdkgediaaDoor
namespace CodecFrames
open Go.RowKit CMath Byt Cod Laws Rom Sta
set_option linter.unusedVariables false
set_option maxRecDepth 20000

set_option maxHeartbeats 2000000 in
theorem walk_in (a : Option Addr) (cap : Nat) (x : List Nat) (b : Option Addr) (capb : Nat) (y : List Nat) (at' : Int) (by' : Nat) (w : World) (hx : IsB w a x) (nx : a = none → cap = 0) (hy : IsB w b y) (ny : b = none → capb = 0) (ht : Tab w) (hbyte : by' < 256) (hat : -9223372036854775808 ≤ at' ∧ at' ≤ 9223372036854775807) (hlen : x.length + y.length ≤ 1500000) (j : Nat) (hj : at' = j) (hv2 : j < (frame x).length + y.length) :
    Calls Tryd.prog 4 #[.slice a x.length cap, .slice b y.length capb, .int .i64 at', .int .u8 by'] w fun e w' => e = .returned (.bool true) ∧ Below w.heap.size w w' := by
  subst hj
  have HX : Hid (IsB w a x) := hx
  have HY : Hid (IsB w b y) := hy
  have NX : Hid (a = none → cap = 0) := nx
  have NY : Hid (b = none → capb = 0) := ny
  have HT : Hid (Tab w) := ht
  obtain ⟨fl, fp⟩ := frame_len (l := x) (by omega)
  clear hx hy nx ny ht
  go_enter Tryd.func4, Tryd.ntmps4
  go_wp2_with fail
  refine (copy_n a cap _ x w HX.out NX.out (by omega) rfl).mono ?_
  rintro e w1 ⟨ka, k1, rfl, hk1, hb1⟩
  have HK1 : Hid (New 5 w.heap.size w1 ka k1 x) := hk1
  have HB1 : Hid (Below w.heap.size w w1) := hb1
  have hs1 := hb1.size
  clear hk1 hb1
  go_wp2_with fail
  refine (copy_n b capb _ y w1 (HY.out.below HB1.out) NY.out (by omega) rfl).mono ?_
  rintro e w2 ⟨kb, k2, rfl, hk2, hb2⟩
  have HK2 : Hid (New 5 w.heap.size w2 kb k2 y) := hk2.lower hs1
  have HK1' : Hid (New 5 w.heap.size w2 ka k1 x) := HK1.out.below hb2
  have HB2 : Hid (Below w.heap.size w w2) := HB1.out.trans (hb2.mono hs1)
  have hs2 := HB2.out.size
  clear hk2 hb2 HK1
  go_wp2_with fail
  refine (bytes_any w2.heap.size w.heap.size (.slice none 0 0) (.slice none 0 0) [] a cap x _ (room_new w2 w.heap.size hs2) (by simp) NX.out ((HX.out.below HB2.out).below ((Below.refl _ _).alloc (Nat.le_refl _) _)) (by omega)).mono ?_
  rintro e w3 ⟨g1, c1, v0, v1, rfl, hrm, hrow, hg, hv0, hv1, hkeep⟩
  have HP1 : Hid (_ ∧ _ ∧ _ ∧ _ ∧ _ ∧ _) := ⟨hrm, hrow, hg, hv0, hv1, hkeep⟩
  have HB3 : Hid (Below w.heap.size w w3) := below3 HB2.out hkeep
  clear hrm hrow hg hv0 hv1 hkeep
  go_wp2_with fail
  refine (bytes_any w2.heap.size w.heap.size v0 v1 ([] ++ [(g1, x.length, c1)]) b capb y _ HP1.out.1 (by simp) NY.out (HY.out.below HB3.out) (by omega)).mono ?_
  rintro e w4 ⟨g2, c2, u0, u1, rfl, hrm, hrow, hg, _, _, hkeep⟩
  have HS : Hid (St2 w w4 w2.heap.size g1 c1 x.length g2 c2 y.length ka k1 kb k2 u0 u1 x y x y) := St2.first HB2.out HK1'.out HK2.out HP1.out.2.1 HP1.out.2.2.1 HP1.out.2.2.2.2.2 HP1.out.1 HP1.out.2.2.2.1 HP1.out.2.2.2.2.1 hrm hrow hg hkeep
  clear hrm hrow hg hkeep HP1 HK1' HK2
  go_wp2_with fail
  refine (frame_any (some ⟨g1, 0, none⟩) (x.length + 600) _ x w4 HS.out.isB1 (HT.out.below HS.out.bel HT.out.lt) (by simp) (by omega) (by omega)).mono ?_
  rintro e w5 ⟨v5, rfl, ho, hb⟩
  obtain ⟨a5, c5, rfl, hn5⟩ := New.ofOwn ho
  have HS' : Hid (St2 w w5 w2.heap.size g1 c1 x.length g2 c2 y.length ka k1 kb k2 u0 u1 x y x y) := HS.out.below hb
  clear HS
  have HS := HS'
  clear HS'
  have F5 : Hid (New 5 w4.heap.size w5 a5 c5 (frame x)) := hn5
  clear ho hb hn5
  go_wp2_with fail
  refine (refFrame_any ka k1 _ x w5 HS.out.kept1.isB HS.out.kept1.cap (by omega) (by omega)).mono ?_
  rintro e w6 ⟨v6, rfl, ho, hb⟩
  obtain ⟨a6, c6, rfl, hn6⟩ := New.ofOwn ho
  have HS' : Hid (St2 w w6 w2.heap.size g1 c1 x.length g2 c2 y.length ka k1 kb k2 u0 u1 x y x y) := HS.out.below hb
  clear HS
  have HS := HS'
  clear HS'
  have F5' : Hid (New 5 w4.heap.size w6 a5 c5 (frame x)) := F5.out.below hb
  clear F5
  have F5 := F5'
  clear F5'
  have F6 : Hid (New 5 w5.heap.size w6 a6 c6 (frame x)) := hn6
  clear ho hb hn6
  go_wp2_with fail
  refine (same_any a5 a6 c5 c6 _ _ (frame x) w6 F5.out.isB F6.out.isB (by omega) (by omega) (by omega)).mono ?_
  rintro e w7 ⟨rfl, d7, rfl⟩
  have hb : Below w6.heap.size w6 (w6.drewN d7) := below_drewN (Below.refl _ _) _
  generalize w6.drewN d7 = w7 at *
  have HS' : Hid (St2 w w7 w2.heap.size g1 c1 x.length g2 c2 y.length ka k1 kb k2 u0 u1 x y x y) := HS.out.below hb
  clear HS
  have HS := HS'
  clear HS'
  have F5' : Hid (New 5 w4.heap.size w7 a5 c5 (frame x)) := F5.out.below hb
  clear F5
  have F5 := F5'
  clear F5'
  clear hb
  clear F6
  go_wp2_with fail
  refine (copy_n a5 c5 _ (frame x) w7 F5.out.isB F5.out.cap (by omega) (by omega)).mono ?_
  rintro e w8 ⟨a8, c8, rfl, hn8, hb⟩
  have HS' : Hid (St2 w w8 w2.heap.size g1 c1 x.length g2 c2 y.length ka k1 kb k2 u0 u1 x y x y) := HS.out.below hb
  clear HS
  have HS := HS'
  clear HS'
  have F5' : Hid (New 5 w4.heap.size w8 a5 c5 (frame x)) := F5.out.below hb
  clear F5
  have F5 := F5'
  clear F5'
  have F8 : Hid (New 5 w7.heap.size w8 a8 c8 (frame x)) := hn8
  clear hb hn8
  go_wp2_with fail
  refine (frameOf_any a5 a8 c5 c8 _ _ (frame x) w8 F5.out.isB F8.out.isB (HT.out.below HS.out.bel HT.out.lt) F5.out.le F5.out.max F8.out.le F8.out.max (by omega) (by omega)).mono ?_
  rintro e w9 ⟨rfl, hb⟩
  have HS' : Hid (St2 w w9 w2.heap.size g1 c1 x.length g2 c2 y.length ka k1 kb k2 u0 u1 x y x y) := HS.out.below hb
  clear HS
  have HS := HS'
  clear HS'
  have F5' : Hid (New 5 w4.heap.size w9 a5 c5 (frame x)) := F5.out.below hb
  clear F5
  have F5 := F5'
  clear F5'
  clear hb
  clear F8
  go_wp2_with fail
  refine (frameOf_any (some ⟨g2, 0, none⟩) kb (y.length + 600) k2 _ _ y w9 HS.out.isB2 HS.out.kept2.isB (HT.out.below HS.out.bel HT.out.lt) (by omega) (by omega) HS.out.kept2.le HS.out.kept2.max (by omega) (by omega)).mono ?_
  rintro e w10 ⟨rfl, hb⟩
  have HS' : Hid (St2 w w10 w2.heap.size g1 c1 x.length g2 c2 y.length ka k1 kb k2 u0 u1 x y x y) := HS.out.below hb
  clear HS
  have HS := HS'
  clear HS'
  have F5' : Hid (New 5 w4.heap.size w10 a5 c5 (frame x)) := F5.out.below hb
  clear F5
  have F5 := F5'
  clear F5'
  clear hb
  go_wp2_with fail
  refine (frameOf_any (some ⟨g2, 0, none⟩) kb (y.length + 600) k2 _ _ y w10 HS.out.isB2 HS.out.kept2.isB (HT.out.below HS.out.bel HT.out.lt) (by omega) (by omega) HS.out.kept2.le HS.out.kept2.max (by omega) (by omega)).mono ?_
  rintro e w11 ⟨rfl, hb⟩
  have HS' : Hid (St2 w w11 w2.heap.size g1 c1 x.length g2 c2 y.length ka k1 kb k2 u0 u1 x y x y) := HS.out.below hb
  clear HS
  have HS := HS'
  clear HS'
  have F5' : Hid (New 5 w4.heap.size w11 a5 c5 (frame x)) := F5.out.below hb
  clear F5
  have F5 := F5'
  clear F5'
  clear hb
  have HP : Hid (St2 w w11 w2.heap.size g1 c1 x.length g2 c2 y.length ka k1 kb k2 u0 u1 x y x y) := HS.out
  go_wp2_with fail
  refine (behind_n a5 kb c5 k2 _ _ (frame x) y w11 F5.out.isB F5.out.cap HS.out.kept2.isB HS.out.kept2.cap (by omega) (by omega) (by omega)).mono ?_
  rintro e w12 ⟨a12, c12, rfl, hn12, hb⟩
  have HS' : Hid (St2 w w12 w2.heap.size g1 c1 x.length g2 c2 y.length ka k1 kb k2 u0 u1 x y x y) := HS.out.below hb
  clear HS
  have HS := HS'
  clear HS'
  have F12 : Hid (New 5 w11.heap.size w12 a12 c12 (frame x ++ y)) := hn12
  clear hb hn12
  clear F5
  have hzl : (frame x ++ y).length = (frame x).length + y.length := by simp
  have HZB : Hid (∀ z ∈ frame x ++ y, z < 256) := F12.out.byte
  have hcl := F12.out.le
  have hcm := F12.out.max
  obtain ⟨gf, rfl, hgf, hrf, hff⟩ := Sta.New.at F12.out (by omega)
  have HR : Hid (BRow w12 gf 0 (frame x ++ y)) := hrf
  have HFF : Hid (∀ j, w12.frozen? ⟨gf, j, none⟩ = false) := hff
  clear hrf hff F12
  obtain ⟨z, hz⟩ : ∃ z, (frame x ++ y)[j]? = some z := ⟨_, List.getElem?_eq_getElem (by omega)⟩
  have hzb : z < 256 := HZB.out z (List.mem_of_getElem? hz)
  have c0 := HR.out.2 j z hz
  rw [Nat.zero_add] at c0
  have f0 := HFF.out j
  have ex : bits .xor .u8 (z : Int) (by' : Int) = ((z ^^^ by' : Nat) : Int) := u8_xor_nat z by' hzb hbyte
  have hxb : z ^^^ by' < 256 := Nat.xor_lt_two_pow (n := 8) (by omega) (by omega)
  have HR' : Hid (BRow (w12.setCell ⟨gf, j, none⟩ (.int .u8 ((z ^^^ by' : Nat) : Int))) gf 0 ((frame x ++ y).set j (z ^^^ by'))) := Sta.BRow.set HR.out (by omega) (z ^^^ by') _ rfl
  have HZB' : Hid (∀ q ∈ (frame x ++ y).set j (z ^^^ by'), q < 256) := byte_set HZB.out j _ hxb
  have hzl' : ((frame x ++ y).set j (z ^^^ by')).length = (frame x).length + y.length := by rw [List.length_set]; exact hzl
  have HS' : Hid (St2 w (w12.setCell ⟨gf, j, none⟩ (.int .u8 ((z ^^^ by' : Nat) : Int))) w2.heap.size g1 c1 x.length g2 c2 y.length ka k1 kb k2 u0 u1 x y x y) := HS.out.out HP.out hgf _
  clear HS hz HR HZB
  generalize (frame x ++ y).set j (z ^^^ by') = Z at *
  generalize z ^^^ by' = zz at *
  go_wp2_with fail
  generalize w12.setCell ⟨gf, j, none⟩ (.int .u8 ((zz : Nat) : Int)) = w13 at *
  have HS := HS'
  have HR := HR'
  have HZB := HZB'
  clear HS' HR' HZB'
  refine (copy_n (some ⟨gf, 0, none⟩) c12 _ Z w13 (IsB.some HR.out HZB.out) (by simp) (by omega) (by omega)).mono ?_
  rintro e w14 ⟨a14, c14, rfl, hn14, hb⟩
  have HS' : Hid (St2 w w14 w2.heap.size g1 c1 x.length g2 c2 y.length ka k1 kb k2 u0 u1 x y x y) := HS.out.below hb
  clear HS
  have HS := HS'
  clear HS'
  have F14 : Hid (New 5 w13.heap.size w14 a14 c14 (Z)) := hn14
  have HR' : Hid (BRow w14 gf 0 Z) := HR.out.below hb HR.out.1
  clear HR
  have HR := HR'
  clear HR'
  clear hb hn14
  go_wp2_with fail
  refine (frameOf_any (some ⟨gf, 0, none⟩) a14 c12 c14 _ _ Z w14 (IsB.some HR.out HZB.out) F14.out.isB (HT.out.below HS.out.bel HT.out.lt) (by omega) hcm F14.out.le F14.out.max (by omega) (by omega)).mono ?_
  rintro e w15 ⟨rfl, hb⟩
  have HS' : Hid (St2 w w15 w2.heap.size g1 c1 x.length g2 c2 y.length ka k1 kb k2 u0 u1 x y x y) := HS.out.below hb
  clear HS
  have HS := HS'
  clear HS'
  clear hb
  clear F14 HR HZB
  go_wp2_with fail
  refine (same_any (some ⟨g1, 0, none⟩) ka (x.length + 600) k1 _ _ x w15 HS.out.isB1 HS.out.kept1.isB (by omega) (by omega) (by omega)).mono ?_
  rintro e w16 ⟨rfl, d16, rfl⟩
  have hb : Below w15.heap.size w15 (w15.drewN d16) := below_drewN (Below.refl _ _) _
  generalize w15.drewN d16 = w16 at *
  have HS' : Hid (St2 w w16 w2.heap.size g1 c1 x.length g2 c2 y.length ka k1 kb k2 u0 u1 x y x y) := HS.out.below hb
  clear HS
  have HS := HS'
  clear HS'
  clear hb
  go_wp2_with fail
  refine (same_any (some ⟨g2, 0, none⟩) kb (y.length + 600) k2 _ _ y w16 HS.out.isB2 HS.out.kept2.isB (by omega) (by omega) (by omega)).mono ?_
  rintro e w17 ⟨rfl, d17, rfl⟩
  have hb : Below w16.heap.size w16 (w16.drewN d17) := below_drewN (Below.refl _ _) _
  generalize w16.drewN d17 = w17 at *
  have HS' : Hid (St2 w w17 w2.heap.size g1 c1 x.length g2 c2 y.length ka k1 kb k2 u0 u1 x y x y) := HS.out.below hb
  clear HS
  have HS := HS'
  clear HS'
  clear hb
  go_wp2_with fail
  refine (hold_any _ _ u0 u1 _ _ HS.out.rm (by simp)).mono ?_
  rintro e w' ⟨rfl, hw⟩
  have hw2 := hw.symm
  clear hw
  subst hw2
  go_wp2_with fail
  go_loopw [15] (fun i wr => ∃ k : Nat, k ≤ y.length ∧ i = .int .i64 k ∧ St2 w wr w2.heap.size g1 c1 x.length g2 c2 y.length ka k1 kb k2 u0 u1 x (mix FR y k) x y) (fun i _ => y.length - (intOf i).toNat)
  case atStart => exact ⟨0, Nat.zero_le _, rfl, by rw [mix_zero]; exact HS.out⟩
  case round =>
    obtain ⟨k, hk, rfl, hst⟩ := hrel
    have HU : Hid (St2 w wr w2.heap.size g1 c1 x.length g2 c2 y.length ka k1 kb k2 u0 u1 x (mix FR y k) x y) := hst
    clear hst HS
    by_cases hlt : k < y.length
    · obtain ⟨z, hz⟩ : ∃ z, y[k]? = some z := ⟨_, List.getElem?_eq_getElem hlt⟩
      have hyb : z < 256 := HY.out.2 z (List.mem_of_getElem? hz)
      have c0 := HU.out.in2.2 k z (by rw [mix_get, hz]; simp)
      rw [Nat.zero_add] at c0
      have f0 := (HU.out.rm.lent (g2, y.length, c2) (by simp)).2.2.2.2.2.1 k
      have HZ : Hid (y[k]? = some z) := hz
      clear hz
      go_wp2_with fail
      exact ⟨⟨k + 1, by omega, by go_num, St2.set2 HU.out HZ.out (FR_lt k z hyb) _ (xorR z k hyb)⟩, by simp [intOf]; omega⟩
    · obtain rfl : k = y.length := by omega
      clear hk hlt
      have hyl := mix_length FR y y.length
      generalize mix FR y y.length = y2 at *
      have HS := HU
      clear HU
      go_wp2_with fail
      go_loopw [16] (fun i wr => ∃ k : Nat, k ≤ x.length ∧ i = .int .i64 k ∧ St2 w wr w2.heap.size g1 c1 x.length g2 c2 y.length ka k1 kb k2 u0 u1 (mix FI x k) y2 x y) (fun i _ => x.length - (intOf i).toNat)
      case atStart => exact ⟨0, Nat.zero_le _, rfl, by rw [mix_zero]; exact HS.out⟩
      case round =>
        obtain ⟨k, hk, rfl, hst⟩ := hrel
        have HU : Hid (St2 w wr w2.heap.size g1 c1 x.length g2 c2 y.length ka k1 kb k2 u0 u1 (mix FI x k) y2 x y) := hst
        clear hst HS
        by_cases hlt : k < x.length
        · obtain ⟨z, hz⟩ : ∃ z, x[k]? = some z := ⟨_, List.getElem?_eq_getElem hlt⟩
          have hyb : z < 256 := HX.out.2 z (List.mem_of_getElem? hz)
          have c0 := HU.out.in1.2 k z (by rw [mix_get, hz]; simp)
          rw [Nat.zero_add] at c0
          have f0 := (HU.out.rm.lent (g1, x.length, c1) (by simp)).2.2.2.2.2.1 k
          have HZ : Hid (x[k]? = some z) := hz
          clear hz
          go_wp2_with fail
          exact ⟨⟨k + 1, by omega, by go_num, St2.set1 HU.out HZ.out (FI_lt k z hyb) _ (xorI z k hyb)⟩, by simp [intOf]; omega⟩
        · obtain rfl : k = x.length := by omega
          clear hk hlt
          have hxl := mix_length FI x x.length
          generalize mix FI x x.length = x2 at *
          have HS := HU
          clear HU
          rename World => w18
          obtain ⟨fl2, fp2⟩ := frame_len (l := x2) (by omega)
          go_wp2_with fail
          refine (copy_n (some ⟨g2, 0, none⟩) (y.length + 600) _ y2 w18 HS.out.isB2 (by simp) (by omega) (by omega)).mono ?_
          rintro e w19 ⟨a19, c19, rfl, hn19, hb⟩
          have HS' : Hid (St2 w w19 w2.heap.size g1 c1 x.length g2 c2 y.length ka k1 kb k2 u0 u1 x2 y2 x y) := HS.out.below hb
          clear HS
          have HS := HS'
          clear HS'
          have F19 : Hid (New 5 w18.heap.size w19 a19 c19 (y2)) := hn19
          clear hb hn19
          go_wp2_with fail
          refine (frameOf_any (some ⟨g2, 0, none⟩) a19 (y.length + 600) c19 _ _ y2 w19 HS.out.isB2 F19.out.isB (HT.out.below HS.out.bel HT.out.lt) (by omega) (by omega) F19.out.le F19.out.max (by omega) (by omega)).mono ?_
          rintro e w20 ⟨rfl, hb⟩
          have HS' : Hid (St2 w w20 w2.heap.size g1 c1 x.length g2 c2 y.length ka k1 kb k2 u0 u1 x2 y2 x y) := HS.out.below hb
          clear HS
          have HS := HS'
          clear HS'
          clear hb
          go_wp2_with fail
          refine (copy_n kb k2 _ y w20 HS.out.kept2.isB HS.out.kept2.cap (by omega) (by omega)).mono ?_
          rintro e w21 ⟨a21, c21, rfl, hn21, hb⟩
          have HS' : Hid (St2 w w21 w2.heap.size g1 c1 x.length g2 c2 y.length ka k1 kb k2 u0 u1 x2 y2 x y) := HS.out.below hb
          clear HS
          have HS := HS'
          clear HS'
          have F21 : Hid (New 5 w20.heap.size w21 a21 c21 (y)) := hn21
          clear hb hn21
          go_wp2_with fail
          refine (frameOf_any kb a21 k2 c21 _ _ y w21 HS.out.kept2.isB F21.out.isB (HT.out.below HS.out.bel HT.out.lt) HS.out.kept2.le HS.out.kept2.max F21.out.le F21.out.max (by omega) (by omega)).mono ?_
          rintro e w22 ⟨rfl, hb⟩
          have HS' : Hid (St2 w w22 w2.heap.size g1 c1 x.length g2 c2 y.length ka k1 kb k2 u0 u1 x2 y2 x y) := HS.out.below hb
          clear HS
          have HS := HS'
          clear HS'
          clear hb
          go_wp2_with fail
          refine (frame_any (some ⟨g1, 0, none⟩) (x.length + 600) _ x2 w22 HS.out.isB1 (HT.out.below HS.out.bel HT.out.lt) (by simp) (by omega) (by omega)).mono ?_
          rintro e w23 ⟨v23, rfl, ho, hb⟩
          obtain ⟨a23, c23, rfl, hn23⟩ := New.ofOwn ho
          have HS' : Hid (St2 w w23 w2.heap.size g1 c1 x.length g2 c2 y.length ka k1 kb k2 u0 u1 x2 y2 x y) := HS.out.below hb
          clear HS
          have HS := HS'
          clear HS'
          have F23 : Hid (New 5 w22.heap.size w23 a23 c23 (frame x2)) := hn23
          clear ho hb hn23
          go_wp2_with fail
          refine (copy_n (some ⟨g1, 0, none⟩) (x.length + 600) _ x2 w23 HS.out.isB1 (by simp) (by omega) (by omega)).mono ?_
          rintro e w24 ⟨a24, c24, rfl, hn24, hb⟩
          have HS' : Hid (St2 w w24 w2.heap.size g1 c1 x.length g2 c2 y.length ka k1 kb k2 u0 u1 x2 y2 x y) := HS.out.below hb
          clear HS
          have HS := HS'
          clear HS'
          have F23' : Hid (New 5 w22.heap.size w24 a23 c23 (frame x2)) := F23.out.below hb
          clear F23
          have F23 := F23'
          clear F23'
          have F24 : Hid (New 5 w23.heap.size w24 a24 c24 (x2)) := hn24
          clear hb hn24
          go_wp2_with fail
          refine (refFrame_any a24 c24 _ x2 w24 F24.out.isB F24.out.cap (by omega) (by omega)).mono ?_
          rintro e w25 ⟨v25, rfl, ho, hb⟩
          obtain ⟨a25, c25, rfl, hn25⟩ := New.ofOwn ho
          have HS' : Hid (St2 w w25 w2.heap.size g1 c1 x.length g2 c2 y.length ka k1 kb k2 u0 u1 x2 y2 x y) := HS.out.below hb
          clear HS
          have HS := HS'
          clear HS'
          have F23' : Hid (New 5 w22.heap.size w25 a23 c23 (frame x2)) := F23.out.below hb
          clear F23
          have F23 := F23'
          clear F23'
          have F25 : Hid (New 5 w24.heap.size w25 a25 c25 (frame x2)) := hn25
          clear ho hb hn25
          go_wp2_with fail
          refine (same_any a23 a25 c23 c25 _ _ (frame x2) w25 F23.out.isB F25.out.isB (by omega) (by omega) (by omega)).mono ?_
          rintro e w26 ⟨rfl, d26, rfl⟩
          have hb : Below w25.heap.size w25 (w25.drewN d26) := below_drewN (Below.refl _ _) _
          generalize w25.drewN d26 = w26 at *
          have HS' : Hid (St2 w w26 w2.heap.size g1 c1 x.length g2 c2 y.length ka k1 kb k2 u0 u1 x2 y2 x y) := HS.out.below hb
          clear HS
          have HS := HS'
          clear HS'
          clear hb
          go_wp2_with fail
          refine (hold_any _ _ u0 u1 _ _ HS.out.rm (by simp)).mono ?_
          rintro e w' ⟨rfl, hw⟩
          have hw2 := hw.symm
          clear hw
          subst hw2
          go_wp2_with fail
          go_ret
          exact ⟨rfl, HS.out.bel⟩

end CodecFrames
end Go.Proofs.YtpefacgdkgediaaDoor
