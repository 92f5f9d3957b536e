import Derived.Test.YtjbnnhephagdmaaDoorMp3
import Derived.Lib.MinMax
import Derived.Deep.RegionWith
namespace Go.Proofs.YtjbnnhephagdmaaDoor
namespace Mnf
open Go.RowKit CMath Byt Cod Crw Irw Laws
set_option linter.unusedVariables false
set_option linter.unusedSimpArgs false
set_option maxRecDepth 20000
set_option maxHeartbeats 400000 in
theorem isLevel_ok (lv : Nat) (w : World) (h : lv ≤ 4) : Calls Tryd.prog 32 #[.int .i64 (lv : Int)] w fun e w' => e = .returned (.bool true) ∧ w' = w := by
  have q1 : (lv : Int) < 5 := by omega
  have q2 : (0 : Int) ≤ (lv : Int) := by omega
  have q3 : lv < 5 := by omega
  go_enter Tryd.func32, Tryd.ntmps32
  go_wp2
  go_ret
  refine ⟨?_, rfl⟩
  simp
  try omega
set_option maxHeartbeats 400000 in
theorem tableFits_ok (no we by_ en : Nat) (le gr : ByteArray) (w : World) (hw : we ≤ 9223372036854775807) (hb : by_ ≤ 9223372036854775807) (he : en ≤ 9223372036854775807) (hl : le.size ≤ 64) (hg : gr.size ≤ 64) : Calls Tryd.prog 33 #[.agg #[.int .u64 (no : Int), .int .i64 (we : Int), .int .i64 (by_ : Int), .int .i64 (en : Int), .string le, .string gr]] w fun e w' => e = .returned (.bool true) ∧ Below w.heap.size w w' := by
  have q1 : (0 : Int) ≤ min (min (we : Int) (by_ : Int)) (en : Int) := by omega
  have q2 : max (le.size : Int) (gr.size : Int) ≤ 64 := by omega
  go_enter Tryd.func33, Tryd.ntmps33
  go_wp2
  all_goals go_ret
  all_goals exact ⟨rfl, (Below.refl _ _).alloc (Nat.le_refl _) _⟩
/-- an edit's box and nothing else -/
structure Mb (w wr : World) (bx : List Value) : Prop where
  box : Zb wr w.heap.size bx
  b : Below w.heap.size w wr
theorem Mb.below {w wr w' : World} {bx : List Value} (h : Mb w wr bx) (hb : Below wr.heap.size wr w') : Mb w w' bx := ⟨h.box.below hb, h.b.trans (hb.mono h.b.size)⟩
set_option maxHeartbeats 2000000 in
theorem may_ok (x y z : Nat) (oa : Option Addr) (ol oc : Nat) (ia : Option Addr) (il ic : Nat) (pa : Option Addr) (pl pc : Nat) (os : List Pl) (is : List Pd) (ps : List ByteArray) (w : World) (ho : Ls kPl w (oa, ol, oc) os) (hi : Ls kPd w (ia, il, ic) is) (hp : Ls kT w (pa, pl, pc) ps) (hok : okE ⟨x, y, z, os, is, ps⟩) (hbo : ol ≤ 1000000000000) (hbi : il ≤ 1000000000000) :
    Calls Tryd.prog 20 #[.agg #[.int .u64 (x : Int), .int .u64 (y : Int), .int .u64 (z : Int), .slice oa ol oc, .slice ia il ic, .slice pa pl pc]] w fun e w' => e = .returned (.bool true) ∧ Below w.heap.size w w' := by
  have hol : ol = os.length := ho.2.1
  have hil : il = is.length := hi.2.1
  have hpl : pl = ps.length := hp.2.1
  obtain ⟨_, ko, ki, kp, kpl⟩ := hok
  dsimp only at ko ki kp kpl
  have HI : Hid (Ls kPd w (ia, il, ic) is) := hi
  have HO : Hid (Ls kPl w (oa, ol, oc) os) := ho
  have HP : Hid (Ls kT w (pa, pl, pc) ps) := hp
  have KO : Hid (∀ q ∈ os, okPl q) := ko
  have KI : Hid (∀ q ∈ is, okPd q) := ki
  have KP : Hid (∀ q ∈ ps, q.size ≤ 64) := kp
  have HOL : Hid (ol = os.length) := hol
  have HIL : Hid (il = is.length) := hil
  have HPL : Hid (pl = ps.length) := hpl
  have bpl : pl ≤ 5 := by omega
  clear ho hi hp ko ki kp hol hil hpl kpl
  go_enter Tryd.func20, Tryd.ntmps20
  go_wp2
  obtain ⟨W, hW⟩ : ∃ W, w.alloc (.cells #[.int .u64 (x : Int), .int .u64 (y : Int), .int .u64 (z : Int), .slice oa ol oc, .slice ia il ic, .slice pa pl pc] 34) = W := ⟨_, rfl⟩
  have HM : Hid (Mb w W [.int .u64 (x : Int), .int .u64 (y : Int), .int .u64 (z : Int), .slice oa ol oc, .slice ia il ic, .slice pa pl pc]) := by rw [← hW]; exact ⟨Zb.new w #[.int .u64 (x : Int), .int .u64 (y : Int), .int .u64 (z : Int), .slice oa ol oc, .slice ia il ic, .slice pa pl pc] _, (Below.refl _ _).alloc (Nat.le_refl _) _⟩
  rw [hW]
  clear hW
  go_loopw [12] (fun i wr => ∃ (k : Nat), k ≤ ol ∧ i = .int .i64 (k : Int) ∧ Hid (Mb w wr [.int .u64 (x : Int), .int .u64 (y : Int), .int .u64 (z : Int), .slice oa ol oc, .slice ia il ic, .slice pa pl pc])) (fun i _ => ol - (intOf i).toNat)
  case atStart => exact ⟨0, by omega, rfl, HM.out⟩
  case round =>
    clear HM
    obtain ⟨k, hk, rfl, HX⟩ := hrel
    rename World => wr
    by_cases hlt : k < ol
    · have q1 : (k : Int) < (ol : Int) := by omega
      have hko : k < os.length := by rw [← HOL.out]; exact hlt
      obtain ⟨q, hq⟩ : ∃ q, os[k]? = some q := ⟨_, List.getElem?_eq_getElem hko⟩
      obtain ⟨lv, no, rfl, hlv, hno⟩ := pl_nat (KO.out q (List.mem_of_getElem? hq))
      obtain ⟨b0, off0, e, hr⟩ := (HO.out.below HX.out.b).1 (by rintro rfl; simp at hko)
      dsimp only at e
      subst e
      have d0 := hr.2 k _ hq 0 _ rfl
      have d1 := hr.2 k _ hq 1 _ rfl
      change wr.cell? ⟨b0, off0 + k * 2, none⟩ = some (.int .i64 (lv : Int)) at d0
      change wr.cell? ⟨b0, off0 + k * 2 + 1, none⟩ = some (.int .u64 (no : Int)) at d1
      have hb0 := hr.1
      clear hq hr hko
      go_wp2_with (go_at_call 32; go_loud (refine (isLevel_ok lv _ hlv).mono ?_; rintro e w1 ⟨rfl, hw1⟩; have hw2 := hw1.symm; clear hw1; subst hw2))
      go_roundw
      case rel => exact ⟨k + 1, by omega, by go_num, HX.out.below ((Below.refl _ _).alloc (Nat.le_refl _) _)⟩
      case measure => simp [intOf]; omega
    · obtain rfl : k = ol := by omega
      have q1 : ¬ (k : Int) < (k : Int) := by omega
      have b4 := HX.out.box.2.1 4 _ rfl
      go_wp2
      go_loopw [24] (fun i wq => ∃ (j : Nat), j ≤ il ∧ i = .int .i64 (j : Int) ∧ Hid (Mb w wq [.int .u64 (x : Int), .int .u64 (y : Int), .int .u64 (z : Int), .slice oa k oc, .slice ia il ic, .slice pa pl pc])) (fun i _ => il - (intOf i).toNat)
      case atStart => exact ⟨0, by omega, rfl, HX.out⟩
      case round =>
        clear HX b4
        obtain ⟨j, hj, rfl, HX⟩ := hrel
        rename World => wq
        by_cases hlt : j < il
        · have q1 : (j : Int) < (il : Int) := by omega
          have hko : j < is.length := by rw [← HIL.out]; exact hlt
          obtain ⟨q, hq⟩ : ∃ q, is[j]? = some q := ⟨_, List.getElem?_eq_getElem hko⟩
          obtain ⟨lv, no, we, by_, en, hqe, hlv, hno, hwe, hby, hen, hle, hgr⟩ := pd_nat (KI.out q (List.mem_of_getElem? hq))
          obtain ⟨le, hle0⟩ : ∃ le, q.le = le := ⟨_, rfl⟩
          obtain ⟨gr, hgr0⟩ : ∃ gr, q.gr = gr := ⟨_, rfl⟩
          rw [hle0] at hqe hle
          rw [hgr0] at hqe hgr
          clear hle0 hgr0
          subst hqe
          obtain ⟨b0, off0, e, hr⟩ := (HI.out.below HX.out.b).1 (by rintro rfl; simp at hko)
          dsimp only at e
          subst e
          have d0 := hr.2 j _ hq 0 _ rfl
          have d1 := hr.2 j _ hq 1 _ rfl
          have d2 := hr.2 j _ hq 2 _ rfl
          have d3 := hr.2 j _ hq 3 _ rfl
          have d4 := hr.2 j _ hq 4 _ rfl
          have d5 := hr.2 j _ hq 5 _ rfl
          have d6 := hr.2 j _ hq 6 _ rfl
          change wq.cell? ⟨b0, off0 + j * 7, none⟩ = some (.int .i64 (lv : Int)) at d0
          change wq.cell? ⟨b0, off0 + j * 7 + 1, none⟩ = some (.int .u64 (no : Int)) at d1
          change wq.cell? ⟨b0, off0 + j * 7 + 2, none⟩ = some (.int .i64 (we : Int)) at d2
          change wq.cell? ⟨b0, off0 + j * 7 + 3, none⟩ = some (.int .i64 (by_ : Int)) at d3
          change wq.cell? ⟨b0, off0 + j * 7 + 4, none⟩ = some (.int .i64 (en : Int)) at d4
          change wq.cell? ⟨b0, off0 + j * 7 + 5, none⟩ = some (.string le) at d5
          change wq.cell? ⟨b0, off0 + j * 7 + 6, none⟩ = some (.string gr) at d6
          have hb0 := hr.1
          clear hq hr hko
          go_wp2_with (first
            | (go_at_call 32; go_loud (refine (isLevel_ok lv _ hlv).mono ?_; rintro e w1 ⟨rfl, hw1⟩; have hw2 := hw1.symm; clear hw1; subst hw2))
            | (go_at_call 33; go_loud (refine (tableFits_ok no we by_ en le gr _ hwe hby hen hle hgr).mono ?_; rintro e w2 ⟨rfl, hb2⟩; have HM2 : Hid (Mb w w2 [.int .u64 (x : Int), .int .u64 (y : Int), .int .u64 (z : Int), .slice oa k oc, .slice (some ⟨b0, off0, none⟩) il ic, .slice pa pl pc]) := HX.out.below (((Below.refl _ _).alloc (Nat.le_refl _) _).trans (hb2.mono (by simp))); clear hb2)))
          go_roundw
          case rel => exact ⟨j + 1, by omega, by go_num, HM2.out⟩
          case measure => simp [intOf]; omega
        · obtain rfl : j = il := by omega
          have q1 : ¬ (j : Int) < (j : Int) := by omega
          have b5 := HX.out.box.2.1 5 _ rfl
          go_wp2
          go_loopw [42] (fun i wp => ∃ (m : Nat), m ≤ pl ∧ i = .int .i64 (m : Int) ∧ Hid (Mb w wp [.int .u64 (x : Int), .int .u64 (y : Int), .int .u64 (z : Int), .slice oa k oc, .slice ia j ic, .slice pa pl pc])) (fun i _ => pl - (intOf i).toNat)
          case atStart => exact ⟨0, by omega, rfl, HX.out⟩
          case round =>
            clear HX b5
            obtain ⟨m, hm, rfl, HX⟩ := hrel
            rename World => wp
            by_cases hlt : m < pl
            · have q1 : (m : Int) < (pl : Int) := by omega
              have hko : m < ps.length := by rw [← HPL.out]; exact hlt
              obtain ⟨q, hq⟩ : ∃ q, ps[m]? = some q := ⟨_, List.getElem?_eq_getElem hko⟩
              have hqs := KP.out q (List.mem_of_getElem? hq)
              obtain ⟨b0, off0, e, hr⟩ := (HP.out.below HX.out.b).1 (by rintro rfl; simp at hko)
              dsimp only at e
              subst e
              have d0 := hr.2 m _ hq 0 _ rfl
              have eo : off0 + m * kT.size + 0 = off0 + m := by show off0 + m * 1 + 0 = _; omega
              rw [eo] at d0
              have hb0 := hr.1
              have q2 : ¬ (64 : Int) < (q.size : Int) := by omega
              clear hq hr hko eo
              go_wp2
              go_roundw
              case rel => exact ⟨m + 1, by omega, by go_num, HX.out⟩
              case measure => simp [intOf]; omega
            · obtain rfl : m = pl := by omega
              have q1 : ¬ (m : Int) < (m : Int) := by omega
              have b5 := HX.out.box.2.1 5 _ rfl
              have q2 : (m : Int) ≤ 5 := by omega
              go_wp2
              go_ret
              refine ⟨?_, HX.out.b⟩
              simp
              try omega
end Mnf
end Go.Proofs.YtjbnnhephagdmaaDoor
