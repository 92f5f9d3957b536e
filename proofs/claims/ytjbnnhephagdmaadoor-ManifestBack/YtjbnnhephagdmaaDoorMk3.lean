import Derived.Test.YtjbnnhephagdmaaDoorMk2
import Derived.Deep.RegionHeld3
namespace Go.Proofs.YtjbnnhephagdmaaDoor
namespace Mnf
open Go.RowKit CMath Byt Cod Crw Irw Laws
set_option linter.unusedVariables false
set_option linter.unusedSimpArgs false
set_option maxRecDepth 20000
set_option maxHeartbeats 4000000 in
theorem known_any (w : World) : Calls Tryd.prog 5 #[] w fun e w' => e = .returned (.bool true) ∧ Below w.heap.size w w' := by
  have HG : Hid (Below w.heap.size w (W0 w) ∧ Ls kPl (W0 w) (some ⟨w.heap.size, 0, none⟩, 1, 1) e0.out ∧ Ls kPd (W0 w) (some ⟨w.heap.size + 1, 0, none⟩, 1, 1) e0.inn ∧ Ls kT (W0 w) (none, 0, 0) e0.ptr ∧ Zb (W0 w) (w.heap.size + 1 + 1) [.int .u64 2, .int .u64 9, .int .u64 300, .slice (some ⟨w.heap.size, 0, none⟩) 1 1, .slice (some ⟨w.heap.size + 1, 0, none⟩) 1 1, .slice none 0 0]) := W0_facts w
  go_enter Tryd.func5, Tryd.ntmps5
  go_upto_region 2 with (fail)
  obtain ⟨W1, hW1⟩ : ∃ W, W0 w = W := ⟨_, rfl⟩
  rw [hW1] at HG
  unfold W0 at hW1
  rw [hW1]
  clear hW1
  have HP := put0 w W1 HG.out.2.1 HG.out.2.2.1 HG.out.2.2.2.1
  have k0 := HG.out.2.2.2.2.2.1 0 _ rfl
  have k1 := HG.out.2.2.2.2.2.1 1 _ rfl
  have k2 := HG.out.2.2.2.2.2.1 2 _ rfl
  have k3 := HG.out.2.2.2.2.2.1 3 _ rfl
  have k4 := HG.out.2.2.2.2.2.1 4 _ rfl
  have k5 := HG.out.2.2.2.2.2.1 5 _ rfl
  go_upto_region 3 with (go_at_call 8; refine HP.mono ?_; rintro e w1 ⟨⟨sa, sn, sc⟩, rfl, hds, hb1⟩)
  unfold svV
  dsimp only
  rw [puts0] at hds
  obtain ⟨hd1, hd2, hd3, hd4, hd5⟩ := hds
  dsimp only at hd1
  obtain rfl : sn = 1 := hd2
  have HGT : Hid (Calls Tryd.prog 10 #[.slice sa 1 sc] w1 fun e w' => ∃ ta tn tc, e = .returned (.tuple #[.slice ta tn tc, .int .i64 0]) ∧ EdsAt w' (ta, tn, tc) [e0] ∧ Below w1.heap.size w1 w') := by
    refine (get_any sa 1 sc [r0] w1 hd1 rfl (by omega)).mono ?_
    rintro e w' h
    rw [gets0] at h
    rcases h with ⟨es, ⟨ta, tn, tc⟩, he, rfl, hes, hb2⟩ | ⟨he, _⟩
    · cases he
      exact ⟨ta, tn, tc, rfl, hes, hb2⟩
    · cases he
  have HD : Hid (IsD w1 sa [r0] ∧ Below W1.heap.size W1 w1) := ⟨hd1, hb1⟩
  clear hd1 hd3 hd4 hd5 hb1 HP
  go_upto_region 4 with (go_at_call 10; refine HGT.out.mono ?_; rintro e w2 ⟨ta, tn, tc, rfl, hes, hb2⟩)
  obtain ⟨b, off, a1, c1, r, hsa, hr, hbl, c0, hi1, hn1, hl1, hm1⟩ := (HD.out.1.below hb2).at_ (k := 0) (by simp)
  subst hsa
  cases hr
  have hl20 : r0.length = 20 := rfl
  rw [hl20] at c0
  obtain ⟨b2, off2, v, hta, htn, hbl2, cs, hed⟩ := eds_one hes
  dsimp only at hta htn
  subst hta
  subst htn
  obtain ⟨v1, v2, v3, o1, i1, p1⟩ := v
  have hed2 := hed
  obtain ⟨⟨q1, q2, q3⟩, _⟩ := hed2
  obtain rfl : v1 = 2 := q1
  obtain rfl : v2 = 9 := q2
  obtain rfl : v3 = 300 := q3
  have hbW := bl_go HD.out.2 hb2
  have hz := HG.out.2.2.2.2.below hbW
  have hlz : w.heap.size + 1 + 1 < w2.heap.size := hz.1
  have HST : Hid (∀ W, Below w2.heap.size w2 W → Below w2.heap.size w2 W ∧ W.cell? ⟨b, off, none⟩ = some (.slice a1 20 c1) ∧ W.cell? ⟨b2, off2, none⟩ = some (.int .u64 2) ∧ W.cell? ⟨b2, off2 + 1, none⟩ = some (.int .u64 9) ∧ W.cell? ⟨b2, off2 + 2, none⟩ = some (.int .u64 300) ∧ W.cell? ⟨b2, off2 + 3, none⟩ = some (.slice o1.1 o1.2.1 o1.2.2) ∧ W.cell? ⟨b2, off2 + 4, none⟩ = some (.slice i1.1 i1.2.1 i1.2.2) ∧ W.cell? ⟨b2, off2 + 5, none⟩ = some (.slice p1.1 p1.2.1 p1.2.2) ∧ W.cell? ⟨w.heap.size + 1 + 1, 0, none⟩ = some (.int .u64 2) ∧ W.cell? ⟨w.heap.size + 1 + 1, 1, none⟩ = some (.int .u64 9) ∧ W.cell? ⟨w.heap.size + 1 + 1, 2, none⟩ = some (.int .u64 300) ∧ W.cell? ⟨w.heap.size + 1 + 1, 3, none⟩ = some (.slice (some ⟨w.heap.size, 0, none⟩) 1 1) ∧ W.cell? ⟨w.heap.size + 1 + 1, 4, none⟩ = some (.slice (some ⟨w.heap.size + 1, 0, none⟩) 1 1) ∧ W.cell? ⟨w.heap.size + 1 + 1, 5, none⟩ = some (.slice none 0 0)) := fun W hW => ⟨hW, (hW.cell (p := ⟨b, off, none⟩) hbl).trans c0, (hW.cell (p := ⟨b2, off2, none⟩) hbl2).trans (cs 0 _ rfl), (hW.cell (p := ⟨b2, off2 + 1, none⟩) hbl2).trans (cs 1 _ rfl), (hW.cell (p := ⟨b2, off2 + 2, none⟩) hbl2).trans (cs 2 _ rfl), (hW.cell (p := ⟨b2, off2 + 3, none⟩) hbl2).trans (cs 3 _ rfl), (hW.cell (p := ⟨b2, off2 + 4, none⟩) hbl2).trans (cs 4 _ rfl), (hW.cell (p := ⟨b2, off2 + 5, none⟩) hbl2).trans (cs 5 _ rfl), (hz.below hW).2.1 0 _ rfl, (hz.below hW).2.1 1 _ rfl, (hz.below hW).2.1 2 _ rfl, (hz.below hW).2.1 3 _ rfl, (hz.below hW).2.1 4 _ rfl, (hz.below hW).2.1 5 _ rfl⟩
  have hba : Below w2.heap.size w2 (w2.alloc (.cells #[.int .u8 1, .int .u8 2, .int .u8 9, .int .u8 172, .int .u8 2, .int .u8 1, .int .u8 0, .int .u8 4, .int .u8 1, .int .u8 1, .int .u8 8, .int .u8 199, .int .u8 3, .int .u8 90, .int .u8 1, .int .u8 1, .int .u8 97, .int .u8 1, .int .u8 97, .int .u8 0] 5)).drew := ((Below.refl _ _).alloc (Nat.le_refl _) _).drew
  have HSB : Hid (Calls Tryd.prog 13 #[.slice a1 20 c1, .slice (some ⟨w2.heap.size, 0, none⟩) 20 20] (w2.alloc (.cells #[.int .u8 1, .int .u8 2, .int .u8 9, .int .u8 172, .int .u8 2, .int .u8 1, .int .u8 0, .int .u8 4, .int .u8 1, .int .u8 1, .int .u8 8, .int .u8 199, .int .u8 3, .int .u8 90, .int .u8 1, .int .u8 1, .int .u8 97, .int .u8 1, .int .u8 97, .int .u8 0] 5)).drew fun e w' => e = .returned (.bool true) ∧ Below w2.heap.size w2 w') := by
    refine (sameBytes_true a1 (some ⟨w2.heap.size, 0, none⟩) c1 20 20 20 r0 _ (hi1.below hba) ((isB_new20 w2 _).below (Below.refl _ _).drew) (by rw [hl20]; omega) hl20.symm hl20.symm).mono ?_
    rintro e w' ⟨he, q, hq⟩
    refine ⟨he, ?_⟩
    rw [hq]
    exact below_drewN hba _
  clear hba
  have HSE : Hid (∀ W, Below w2.heap.size w2 W → Calls Tryd.prog 14 #[.agg #[.int .u64 2, .int .u64 9, .int .u64 300, .slice o1.1 o1.2.1 o1.2.2, .slice i1.1 i1.2.1 i1.2.2, .slice p1.1 p1.2.1 p1.2.2], .agg #[.int .u64 2, .int .u64 9, .int .u64 300, .slice (some ⟨w.heap.size, 0, none⟩) 1 1, .slice (some ⟨w.heap.size + 1, 0, none⟩) 1 1, .slice none 0 0]] W fun e w' => e = .returned (.bool true) ∧ Below W.heap.size W w') := fun W hW => same0 (v := (2, 9, 300, o1, i1, p1)) (hed.below hW) (HG.out.2.1.below (bl_go hbW hW)) (HG.out.2.2.1.below (bl_go hbW hW)) (HG.out.2.2.2.1.below (bl_go hbW hW))
  have HBW : Hid (Below w.heap.size w w2) := bl_go HG.out.1 hbW
  have cw := HST.out w2 (Below.refl _ _)
  clear hed cs hz hbW hes hb2 c0 hi1 hn1 hl1 hm1 hl20 HGT HG HD k0 k1 k2 k3 k4 k5 cw
  go_region_held3 (fun W => Below w2.heap.size w2 W ∧ W.cell? ⟨b, off, none⟩ = some (.slice a1 20 c1) ∧ W.cell? ⟨b2, off2, none⟩ = some (.int .u64 2) ∧ W.cell? ⟨b2, off2 + 1, none⟩ = some (.int .u64 9) ∧ W.cell? ⟨b2, off2 + 2, none⟩ = some (.int .u64 300) ∧ W.cell? ⟨b2, off2 + 3, none⟩ = some (.slice o1.1 o1.2.1 o1.2.2) ∧ W.cell? ⟨b2, off2 + 4, none⟩ = some (.slice i1.1 i1.2.1 i1.2.2) ∧ W.cell? ⟨b2, off2 + 5, none⟩ = some (.slice p1.1 p1.2.1 p1.2.2) ∧ W.cell? ⟨w.heap.size + 1 + 1, 0, none⟩ = some (.int .u64 2) ∧ W.cell? ⟨w.heap.size + 1 + 1, 1, none⟩ = some (.int .u64 9) ∧ W.cell? ⟨w.heap.size + 1 + 1, 2, none⟩ = some (.int .u64 300) ∧ W.cell? ⟨w.heap.size + 1 + 1, 3, none⟩ = some (.slice (some ⟨w.heap.size, 0, none⟩) 1 1) ∧ W.cell? ⟨w.heap.size + 1 + 1, 4, none⟩ = some (.slice (some ⟨w.heap.size + 1, 0, none⟩) 1 1) ∧ W.cell? ⟨w.heap.size + 1 + 1, 5, none⟩ = some (.slice none 0 0)) (first | assumption | exact HST.out _ (Below.refl _ _).drew | exact HST.out _ (by assumption) | exact keepS HST.out (by assumption) (by assumption) | exact keepA HST.out (by assumption) _)
    (first
      | (go_at_call 13; refine HSB.out.mono ?_; rintro e w5 ⟨rfl, hb5⟩)
      | (go_at_call 14; refine (HSE.out _ (And.left (by assumption))).mono ?_; rintro e w6 ⟨rfl, hb6⟩)
      | (go_at_call 15; refine (name7 _).mono ?_; rintro e w7 ⟨rfl, hb7⟩))
  have HB8 : Hid (Below w2.heap.size w2 w7) := by rename_i hz; exact hz.1
  rename_i hzz
  clear hzz
  go_wp2
  go_ret
  exact ⟨rfl, bl_go HBW.out HB8.out⟩
end Mnf
end Go.Proofs.YtjbnnhephagdmaaDoor
