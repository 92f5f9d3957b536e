import Derived.Test.YtjbnnhephagdmaaDoorMp5
import Derived.Deep.DeepCutAuto
import Derived.Deep.RegionLaw
import Derived.BigRegion
namespace Go.Proofs.YtjbnnhephagdmaaDoor
namespace Mnf
open Go.RowKit CMath Byt Cod Crw Irw Laws
set_option linter.unusedVariables false
set_option linter.unusedSimpArgs false
set_option maxRecDepth 20000

set_option maxHeartbeats 2000000 in
theorem split_ss (x y z : Nat) (b0 off0 ol oc : Nat) (b1 off1 il ic : Nat) (pa : Option Addr) (pl pc : Nat) (os : List Pl) (is : List Pd) (w : World) (ho : Ls kPl w ((some ⟨b0, off0, none⟩), ol, oc) os) (hi : Ls kPd w ((some ⟨b1, off1, none⟩), il, ic) is) (hbo : oc ≤ 9223372036854775807) (hbi : ic ≤ 9223372036854775807) (hto : ol ≤ 1000000000000) (hti : il ≤ 1000000000000) (last : Bool) (hlast : decide ((ol - min ol 256) + (il - min il (256 - min ol 256)) = 0) = last) :
    Calls Tryd.prog 21 #[.agg #[.int .u64 (x : Int), .int .u64 (y : Int), .int .u64 (z : Int), .slice (some ⟨b0, off0, none⟩) ol oc, .slice (some ⟨b1, off1, none⟩) il ic, .slice pa pl pc]] w fun e w' => SpIs x y z ((some ⟨b0, off0, none⟩), ol, oc) ((some ⟨b1, off1, none⟩), il, ic) (pa, pl, pc) os is (min ol 256) (min il (256 - min ol 256)) last w e w' := by
  have hol : ol = os.length := ho.2.1
  have hil : il = is.length := hi.2.1
  have hocl : ol ≤ oc := by have := ho.2.2.2.1; dsimp only at this; omega
  have hicl : il ≤ ic := by have := hi.2.2.2.1; dsimp only at this; omega
  have HO : Hid (Ls kPl w ((some ⟨b0, off0, none⟩), ol, oc) os) := ho
  have HI : Hid (Ls kPd w ((some ⟨b1, off1, none⟩), il, ic) is) := hi
  have HOL : Hid (ol = os.length) := hol
  have HIL : Hid (il = is.length) := hil
  clear ho hi hol hil
  obtain ⟨n1, h1⟩ : ∃ n, min ol 256 = n := ⟨_, rfl⟩
  rw [h1] at hlast ⊢
  have hN1 : min (ol : Int) 256 = (n1 : Int) := by omega
  obtain ⟨n2, h2⟩ : ∃ n, min il (256 - n1) = n := ⟨_, rfl⟩
  rw [h2] at hlast ⊢
  have hN2 : min (il : Int) (256 - (n1 : Int)) = (n2 : Int) := by omega
  have q1 : n1 ≤ ol := by omega
  have q2 : (n1 : Int) ≤ (ol : Int) := by omega
  have q3 : (n1 : Int) ≤ (oc : Int) := by omega
  have q4 : n2 ≤ il := by omega
  have q5 : (n2 : Int) ≤ (il : Int) := by omega
  have q6 : (n2 : Int) ≤ (ic : Int) := by omega
  clear h1
  clear h2
  go_enter Tryd.func21, Tryd.ntmps21
  go_upto_region 4 with (fail)
  (try rw [hN1])
  (try rw [hN2])
  clear hN1 hN2
  go_region
  obtain ⟨A1, hA1⟩ : ∃ A, (if oc = n1 then some (⟨b0, off0, none⟩ : Addr) else some ⟨b0, off0 + n1 * 2, none⟩) = A := ⟨_, rfl⟩
  rw [hA1]
  have HA1 : Hid ((if oc = n1 then some (⟨b0, off0, none⟩ : Addr) else some ⟨b0, off0 + n1 * 2, none⟩) = A1) := hA1
  clear hA1
  go_upto_region 5 with (fail)
  go_region
  obtain ⟨A2, hA2⟩ : ∃ A, (if ic = n2 then some (⟨b1, off1, none⟩ : Addr) else some ⟨b1, off1 + n2 * 7, none⟩) = A := ⟨_, rfl⟩
  rw [hA2]
  have HA2 : Hid ((if ic = n2 then some (⟨b1, off1, none⟩ : Addr) else some ⟨b1, off1 + n2 * 7, none⟩) = A2) := hA2
  clear hA2
  obtain ⟨W, hW⟩ : ∃ W, ((((w.alloc (.cells #[.int .u64 (x : Int), .int .u64 (y : Int), .int .u64 (z : Int), .slice A1 (ol - n1) (oc - n1), .slice A2 (il - n2) (ic - n2), .slice pa pl pc] 34)).alloc (.cells #[.bool false, .int .u64 0, .int .u64 0, .int .u64 0, .slice none 0 0, .slice none 0 0, .slice none 0 0] 58)).alloc (.cells #[.int .u64 0, .int .u64 0, .int .u64 0, .slice none 0 0, .slice none 0 0, .slice none 0 0] 34)).alloc (.cells #[.bool false, .int .u64 (x : Int), .int .u64 (y : Int), .int .u64 (z : Int), .slice (some ⟨b0, off0, none⟩) n1 n1, .slice (some ⟨b1, off1, none⟩) n2 n2, .slice pa pl pc] 58)).drew.drew = W := ⟨_, rfl⟩
  have HQ : Hid (Sq w W [.int .u64 (x : Int), .int .u64 (y : Int), .int .u64 (z : Int), .slice A1 (ol - n1) (oc - n1), .slice A2 (il - n2) (ic - n2), .slice pa pl pc] [.bool false, .int .u64 0, .int .u64 0, .int .u64 0, .slice none 0 0, .slice none 0 0, .slice none 0 0] [.int .u64 0, .int .u64 0, .int .u64 0, .slice none 0 0, .slice none 0 0, .slice none 0 0] [.bool false, .int .u64 (x : Int), .int .u64 (y : Int), .int .u64 (z : Int), .slice (some ⟨b0, off0, none⟩) n1 n1, .slice (some ⟨b1, off1, none⟩) n2 n2, .slice pa pl pc]) := by
    rw [← hW]
    exact (Sq.new w #[.int .u64 (x : Int), .int .u64 (y : Int), .int .u64 (z : Int), .slice A1 (ol - n1) (oc - n1), .slice A2 (il - n2) (ic - n2), .slice pa pl pc] #[.bool false, .int .u64 0, .int .u64 0, .int .u64 0, .slice none 0 0, .slice none 0 0, .slice none 0 0] #[.int .u64 0, .int .u64 0, .int .u64 0, .slice none 0 0, .slice none 0 0, .slice none 0 0] #[.bool false, .int .u64 (x : Int), .int .u64 (y : Int), .int .u64 (z : Int), .slice (some ⟨b0, off0, none⟩) n1 n1, .slice (some ⟨b1, off1, none⟩) n2 n2, .slice pa pl pc] _ _ _ _).below (Below.refl _ _).drew.drew
  rw [hW]
  clear hW
  have a0 := HQ.out.z0.2.1 0 _ rfl
  have a1 := HQ.out.z0.2.1 1 _ rfl
  have a2 := HQ.out.z0.2.1 2 _ rfl
  have a3 := HQ.out.z0.2.1 3 _ rfl
  have a4 := HQ.out.z0.2.1 4 _ rfl
  have a5 := HQ.out.z0.2.1 5 _ rfl
  have f3 := HQ.out.z3.2.2 0
  have d0 := HQ.out.z3.2.1 0 _ rfl
  have ht1 : ol - n1 ≤ 1000000000000 := by omega
  have ht2 : il - n2 ≤ 1000000000000 := by omega
  have HT : Hid (Calls Tryd.prog 34 #[.agg #[.int .u64 (x : Int), .int .u64 (y : Int), .int .u64 (z : Int), .slice A1 (ol - n1) (oc - n1), .slice A2 (il - n2) (ic - n2), .slice pa pl pc]] W fun e w' => e = .returned (.int .i64 (((ol - n1) + (il - n2) : Nat) : Int)) ∧ Below W.heap.size W w') := tables_c x y z A1 (ol - n1) (oc - n1) A2 (il - n2) (ic - n2) pa pl pc W ht1 ht2
  obtain ⟨tt, htt⟩ : ∃ t, (ol - n1) + (il - n2) = t := ⟨_, rfl⟩
  rw [htt] at HT
  have htl : decide (tt = 0) = last := by rw [← htt]; exact hlast
  clear htt hlast ht1 ht2
  cases last with
  | true =>
    have htt : tt = 0 := of_decide_eq_true htl
    subst htt
    clear htl
    go_upto_region 9 with (go_at_call 34; go_loud (refine HT.out.mono ?_; rintro e w6 ⟨he, hb6⟩; subst he; have HQ2 : Hid (Sq w w6 [.int .u64 (x : Int), .int .u64 (y : Int), .int .u64 (z : Int), .slice A1 (ol - n1) (oc - n1), .slice A2 (il - n2) (ic - n2), .slice pa pl pc] [.bool false, .int .u64 0, .int .u64 0, .int .u64 0, .slice none 0 0, .slice none 0 0, .slice none 0 0] [.int .u64 0, .int .u64 0, .int .u64 0, .slice none 0 0, .slice none 0 0, .slice none 0 0] [.bool false, .int .u64 (x : Int), .int .u64 (y : Int), .int .u64 (z : Int), .slice (some ⟨b0, off0, none⟩) n1 n1, .slice (some ⟨b1, off1, none⟩) n2 n2, .slice pa pl pc]) := HQ.out.below hb6; clear a0 a1 a2 a3 a4 a5 f3 d0; have d0 := HQ2.out.z3.2.1 0 _ rfl; have df0 := HQ2.out.z3.2.2 0; have d1 := HQ2.out.z3.2.1 1 _ rfl; have df1 := HQ2.out.z3.2.2 1; have d2 := HQ2.out.z3.2.1 2 _ rfl; have df2 := HQ2.out.z3.2.2 2; have d3 := HQ2.out.z3.2.1 3 _ rfl; have df3 := HQ2.out.z3.2.2 3; have d4 := HQ2.out.z3.2.1 4 _ rfl; have df4 := HQ2.out.z3.2.2 4; have d5 := HQ2.out.z3.2.1 5 _ rfl; have df5 := HQ2.out.z3.2.2 5; have d6 := HQ2.out.z3.2.1 6 _ rfl; have df6 := HQ2.out.z3.2.2 6; clear hb6))
    obtain ⟨W8, hW8⟩ : ∃ W, w6.setCell ⟨w.heap.size + 3, 0, none⟩ (.bool true) = W := ⟨_, rfl⟩
    have HQ3 : Hid (Sq w W8 [.int .u64 (x : Int), .int .u64 (y : Int), .int .u64 (z : Int), .slice A1 (ol - n1) (oc - n1), .slice A2 (il - n2) (ic - n2), .slice pa pl pc] [.bool false, .int .u64 0, .int .u64 0, .int .u64 0, .slice none 0 0, .slice none 0 0, .slice none 0 0] [.int .u64 0, .int .u64 0, .int .u64 0, .slice none 0 0, .slice none 0 0, .slice none 0 0] [.bool true, .int .u64 (x : Int), .int .u64 (y : Int), .int .u64 (z : Int), .slice (some ⟨b0, off0, none⟩) n1 n1, .slice (some ⟨b1, off1, none⟩) n2 n2, .slice pa pl pc]) := by
      rw [← hW8]
      exact (HQ2.out.set3 0 (.bool true))
    have hW9 : w6.setCell ⟨w.heap.size + 1 + 1 + 1, 0, none⟩ (.bool true) = W8 := hW8
    rw [hW9]
    clear hW8 hW9 HQ2 HQ HT d0 df0 d1 df1 d2 df2 d3 df3 d4 df4 d5 df5 d6 df6
    have d0 := HQ3.out.z3.2.1 0 _ rfl
    have d1 := HQ3.out.z3.2.1 1 _ rfl
    have d2 := HQ3.out.z3.2.1 2 _ rfl
    have d3 := HQ3.out.z3.2.1 3 _ rfl
    have d4 := HQ3.out.z3.2.1 4 _ rfl
    have d5 := HQ3.out.z3.2.1 5 _ rfl
    have d6 := HQ3.out.z3.2.1 6 _ rfl
    have a0 := HQ3.out.z0.2.1 0 _ rfl
    have a1 := HQ3.out.z0.2.1 1 _ rfl
    have a2 := HQ3.out.z0.2.1 2 _ rfl
    have a3 := HQ3.out.z0.2.1 3 _ rfl
    have a4 := HQ3.out.z0.2.1 4 _ rfl
    have a5 := HQ3.out.z0.2.1 5 _ rfl
    have g0 := HQ3.out.z1.2.1 0 _ rfl
    have gf0 := HQ3.out.z1.2.2 0
    have g1 := HQ3.out.z1.2.1 1 _ rfl
    have gf1 := HQ3.out.z1.2.2 1
    have g2 := HQ3.out.z1.2.1 2 _ rfl
    have gf2 := HQ3.out.z1.2.2 2
    have g3 := HQ3.out.z1.2.1 3 _ rfl
    have gf3 := HQ3.out.z1.2.2 3
    have g4 := HQ3.out.z1.2.1 4 _ rfl
    have gf4 := HQ3.out.z1.2.2 4
    have g5 := HQ3.out.z1.2.1 5 _ rfl
    have gf5 := HQ3.out.z1.2.2 5
    have g6 := HQ3.out.z1.2.1 6 _ rfl
    have gf6 := HQ3.out.z1.2.2 6
    have k0 := HQ3.out.z2.2.1 0 _ rfl
    have kf0 := HQ3.out.z2.2.2 0
    have k1 := HQ3.out.z2.2.1 1 _ rfl
    have kf1 := HQ3.out.z2.2.2 1
    have k2 := HQ3.out.z2.2.1 2 _ rfl
    have kf2 := HQ3.out.z2.2.2 2
    have k3 := HQ3.out.z2.2.1 3 _ rfl
    have kf3 := HQ3.out.z2.2.2 3
    have k4 := HQ3.out.z2.2.1 4 _ rfl
    have kf4 := HQ3.out.z2.2.2 4
    have k5 := HQ3.out.z2.2.1 5 _ rfl
    have kf5 := HQ3.out.z2.2.2 5
    go_region
    go_wp2
    have hzA : Zb (sets W8 (w.heap.size + 1) 0 (recC true x y z ((some ⟨b0, off0, none⟩), n1, n1) ((some ⟨b1, off1, none⟩), n2, n2) (pa, pl, pc))) (w.heap.size + 1) (recC true x y z ((some ⟨b0, off0, none⟩), n1, n1) ((some ⟨b1, off1, none⟩), n2, n2) (pa, pl, pc)) := HQ3.out.z1.sets (by simp [recC, evC])
    have hzB : Zb (sets (sets W8 (w.heap.size + 1) 0 (recC true x y z ((some ⟨b0, off0, none⟩), n1, n1) ((some ⟨b1, off1, none⟩), n2, n2) (pa, pl, pc))) (w.heap.size + 2) 0 (evC x y z (A1, ol - n1, oc - n1) (A2, il - n2, ic - n2) (pa, pl, pc))) (w.heap.size + 2) (evC x y z (A1, ol - n1, oc - n1) (A2, il - n2, ic - n2) (pa, pl, pc)) := (HQ3.out.z2.sets_other 0 (by omega)).sets (by simp [evC])
    have hzA2 : Zb (sets (sets W8 (w.heap.size + 1) 0 (recC true x y z ((some ⟨b0, off0, none⟩), n1, n1) ((some ⟨b1, off1, none⟩), n2, n2) (pa, pl, pc))) (w.heap.size + 2) 0 (evC x y z (A1, ol - n1, oc - n1) (A2, il - n2, ic - n2) (pa, pl, pc))) (w.heap.size + 1) (recC true x y z ((some ⟨b0, off0, none⟩), n1, n1) ((some ⟨b1, off1, none⟩), n2, n2) (pa, pl, pc)) := hzA.sets_other 0 (by omega)
    have hbb : Below w.heap.size w (sets (sets W8 (w.heap.size + 1) 0 (recC true x y z ((some ⟨b0, off0, none⟩), n1, n1) ((some ⟨b1, off1, none⟩), n2, n2) (pa, pl, pc))) (w.heap.size + 2) 0 (evC x y z (A1, ol - n1, oc - n1) (A2, il - n2, ic - n2) (pa, pl, pc))) := sets_below _ (by omega) _ 0 (sets_below _ (by omega) _ 0 HQ3.out.b)
    refine bodyPost_ret (res_two rfl _ _ (w.heap.size + 1) (w.heap.size + 2) true x y z ((some ⟨b0, off0, none⟩), n1, n1) ((some ⟨b1, off1, none⟩), n2, n2) (pa, pl, pc) x y z (A1, ol - n1, oc - n1) (A2, il - n2, ic - n2) (pa, pl, pc) (by rfl) (by rfl) (hzA2.below (Below.refl _ _).drew) (hzB.below (Below.refl _ _).drew)) rfl ?_
    exact ⟨((some ⟨b0, off0, none⟩), n1, n1), ((some ⟨b1, off1, none⟩), n2, n2), (A1, ol - n1, oc - n1), (A2, il - n2, ic - n2), rfl, fun w0 h0 => ⟨h0.take n1 (by rw [← HOL.out]; omega), h0.drop n1 (by rw [← HOL.out]; exact q1) A1 HA1.out⟩, fun w0 h0 => ⟨h0.take n2 (by rw [← HIL.out]; omega), h0.drop n2 (by rw [← HIL.out]; exact q4) A2 HA2.out⟩, ⟨by show oc - n1 ≤ _; omega, by show ic - n2 ≤ _; omega⟩, hbb.drew⟩
  | false =>
    have htt : ¬ tt = 0 := of_decide_eq_false htl
    have qt : ((tt : Int) == 0) = false := beq_eq_false_iff_ne.2 (by omega)
    clear htl
    go_upto_region 9 with (go_at_call 34; go_loud (refine HT.out.mono ?_; rintro e w6 ⟨he, hb6⟩; subst he; have HQ2 : Hid (Sq w w6 [.int .u64 (x : Int), .int .u64 (y : Int), .int .u64 (z : Int), .slice A1 (ol - n1) (oc - n1), .slice A2 (il - n2) (ic - n2), .slice pa pl pc] [.bool false, .int .u64 0, .int .u64 0, .int .u64 0, .slice none 0 0, .slice none 0 0, .slice none 0 0] [.int .u64 0, .int .u64 0, .int .u64 0, .slice none 0 0, .slice none 0 0, .slice none 0 0] [.bool false, .int .u64 (x : Int), .int .u64 (y : Int), .int .u64 (z : Int), .slice (some ⟨b0, off0, none⟩) n1 n1, .slice (some ⟨b1, off1, none⟩) n2 n2, .slice pa pl pc]) := HQ.out.below hb6; clear a0 a1 a2 a3 a4 a5 f3 d0; have d0 := HQ2.out.z3.2.1 0 _ rfl; have df0 := HQ2.out.z3.2.2 0; have d1 := HQ2.out.z3.2.1 1 _ rfl; have df1 := HQ2.out.z3.2.2 1; have d2 := HQ2.out.z3.2.1 2 _ rfl; have df2 := HQ2.out.z3.2.2 2; have d3 := HQ2.out.z3.2.1 3 _ rfl; have df3 := HQ2.out.z3.2.2 3; have d4 := HQ2.out.z3.2.1 4 _ rfl; have df4 := HQ2.out.z3.2.2 4; have d5 := HQ2.out.z3.2.1 5 _ rfl; have df5 := HQ2.out.z3.2.2 5; have d6 := HQ2.out.z3.2.1 6 _ rfl; have df6 := HQ2.out.z3.2.2 6; clear hb6))
    obtain ⟨W8, hW8⟩ : ∃ W, (w6.setCell ⟨w.heap.size + 3, 0, none⟩ (.bool false)).setCell ⟨w.heap.size + 3, 6, none⟩ (.slice none 0 0) = W := ⟨_, rfl⟩
    have HQ3 : Hid (Sq w W8 [.int .u64 (x : Int), .int .u64 (y : Int), .int .u64 (z : Int), .slice A1 (ol - n1) (oc - n1), .slice A2 (il - n2) (ic - n2), .slice pa pl pc] [.bool false, .int .u64 0, .int .u64 0, .int .u64 0, .slice none 0 0, .slice none 0 0, .slice none 0 0] [.int .u64 0, .int .u64 0, .int .u64 0, .slice none 0 0, .slice none 0 0, .slice none 0 0] [.bool false, .int .u64 (x : Int), .int .u64 (y : Int), .int .u64 (z : Int), .slice (some ⟨b0, off0, none⟩) n1 n1, .slice (some ⟨b1, off1, none⟩) n2 n2, .slice none 0 0]) := by
      rw [← hW8]
      exact (HQ2.out.set3 0 (.bool false)).set3 6 (.slice none 0 0)
    have hW9 : (w6.setCell ⟨w.heap.size + 1 + 1 + 1, 0, none⟩ (.bool false)).setCell ⟨w.heap.size + 1 + 1 + 1, 6, none⟩ (.slice none 0 0) = W8 := hW8
    rw [hW9]
    clear hW8 hW9 HQ2 HQ HT d0 df0 d1 df1 d2 df2 d3 df3 d4 df4 d5 df5 d6 df6
    have d0 := HQ3.out.z3.2.1 0 _ rfl
    have d1 := HQ3.out.z3.2.1 1 _ rfl
    have d2 := HQ3.out.z3.2.1 2 _ rfl
    have d3 := HQ3.out.z3.2.1 3 _ rfl
    have d4 := HQ3.out.z3.2.1 4 _ rfl
    have d5 := HQ3.out.z3.2.1 5 _ rfl
    have d6 := HQ3.out.z3.2.1 6 _ rfl
    have a0 := HQ3.out.z0.2.1 0 _ rfl
    have a1 := HQ3.out.z0.2.1 1 _ rfl
    have a2 := HQ3.out.z0.2.1 2 _ rfl
    have a3 := HQ3.out.z0.2.1 3 _ rfl
    have a4 := HQ3.out.z0.2.1 4 _ rfl
    have a5 := HQ3.out.z0.2.1 5 _ rfl
    have g0 := HQ3.out.z1.2.1 0 _ rfl
    have gf0 := HQ3.out.z1.2.2 0
    have g1 := HQ3.out.z1.2.1 1 _ rfl
    have gf1 := HQ3.out.z1.2.2 1
    have g2 := HQ3.out.z1.2.1 2 _ rfl
    have gf2 := HQ3.out.z1.2.2 2
    have g3 := HQ3.out.z1.2.1 3 _ rfl
    have gf3 := HQ3.out.z1.2.2 3
    have g4 := HQ3.out.z1.2.1 4 _ rfl
    have gf4 := HQ3.out.z1.2.2 4
    have g5 := HQ3.out.z1.2.1 5 _ rfl
    have gf5 := HQ3.out.z1.2.2 5
    have g6 := HQ3.out.z1.2.1 6 _ rfl
    have gf6 := HQ3.out.z1.2.2 6
    have k0 := HQ3.out.z2.2.1 0 _ rfl
    have kf0 := HQ3.out.z2.2.2 0
    have k1 := HQ3.out.z2.2.1 1 _ rfl
    have kf1 := HQ3.out.z2.2.2 1
    have k2 := HQ3.out.z2.2.1 2 _ rfl
    have kf2 := HQ3.out.z2.2.2 2
    have k3 := HQ3.out.z2.2.1 3 _ rfl
    have kf3 := HQ3.out.z2.2.2 3
    have k4 := HQ3.out.z2.2.1 4 _ rfl
    have kf4 := HQ3.out.z2.2.2 4
    have k5 := HQ3.out.z2.2.1 5 _ rfl
    have kf5 := HQ3.out.z2.2.2 5
    go_region
    go_wp2
    have hzA : Zb (sets W8 (w.heap.size + 1) 0 (recC false x y z ((some ⟨b0, off0, none⟩), n1, n1) ((some ⟨b1, off1, none⟩), n2, n2) nS)) (w.heap.size + 1) (recC false x y z ((some ⟨b0, off0, none⟩), n1, n1) ((some ⟨b1, off1, none⟩), n2, n2) nS) := HQ3.out.z1.sets (by simp [recC, evC])
    have hzB : Zb (sets (sets W8 (w.heap.size + 1) 0 (recC false x y z ((some ⟨b0, off0, none⟩), n1, n1) ((some ⟨b1, off1, none⟩), n2, n2) nS)) (w.heap.size + 2) 0 (evC x y z (A1, ol - n1, oc - n1) (A2, il - n2, ic - n2) (pa, pl, pc))) (w.heap.size + 2) (evC x y z (A1, ol - n1, oc - n1) (A2, il - n2, ic - n2) (pa, pl, pc)) := (HQ3.out.z2.sets_other 0 (by omega)).sets (by simp [evC])
    have hzA2 : Zb (sets (sets W8 (w.heap.size + 1) 0 (recC false x y z ((some ⟨b0, off0, none⟩), n1, n1) ((some ⟨b1, off1, none⟩), n2, n2) nS)) (w.heap.size + 2) 0 (evC x y z (A1, ol - n1, oc - n1) (A2, il - n2, ic - n2) (pa, pl, pc))) (w.heap.size + 1) (recC false x y z ((some ⟨b0, off0, none⟩), n1, n1) ((some ⟨b1, off1, none⟩), n2, n2) nS) := hzA.sets_other 0 (by omega)
    have hbb : Below w.heap.size w (sets (sets W8 (w.heap.size + 1) 0 (recC false x y z ((some ⟨b0, off0, none⟩), n1, n1) ((some ⟨b1, off1, none⟩), n2, n2) nS)) (w.heap.size + 2) 0 (evC x y z (A1, ol - n1, oc - n1) (A2, il - n2, ic - n2) (pa, pl, pc))) := sets_below _ (by omega) _ 0 (sets_below _ (by omega) _ 0 HQ3.out.b)
    refine bodyPost_ret (res_two rfl _ _ (w.heap.size + 1) (w.heap.size + 2) false x y z ((some ⟨b0, off0, none⟩), n1, n1) ((some ⟨b1, off1, none⟩), n2, n2) nS x y z (A1, ol - n1, oc - n1) (A2, il - n2, ic - n2) (pa, pl, pc) (by rfl) (by rfl) (hzA2.below (Below.refl _ _).drew) (hzB.below (Below.refl _ _).drew)) rfl ?_
    exact ⟨((some ⟨b0, off0, none⟩), n1, n1), ((some ⟨b1, off1, none⟩), n2, n2), (A1, ol - n1, oc - n1), (A2, il - n2, ic - n2), rfl, fun w0 h0 => ⟨h0.take n1 (by rw [← HOL.out]; omega), h0.drop n1 (by rw [← HOL.out]; exact q1) A1 HA1.out⟩, fun w0 h0 => ⟨h0.take n2 (by rw [← HIL.out]; omega), h0.drop n2 (by rw [← HIL.out]; exact q4) A2 HA2.out⟩, ⟨by show oc - n1 ≤ _; omega, by show ic - n2 ≤ _; omega⟩, hbb.drew⟩
end Mnf
end Go.Proofs.YtjbnnhephagdmaaDoor
