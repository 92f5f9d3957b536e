import Derived.Test.YtaejjpbpnedblaaGreatWl
import Derived.Test.YtaejjpbpnedblaaGreatXb
namespace Go.Proofs.YtaejjpbpnedblaaGreat
namespace Vr
open Go.Shelf Go.RowKit Go.Lib Go.Sort Go.Maps Go.ChangeMaps Go.MapKept Laws Irw Crw
set_option linter.unusedVariables false
set_option linter.unusedSimpArgs false
set_option maxRecDepth 20000
set_option maxHeartbeats 2000000 in
theorem sameTables_true (a b : Option Addr) (ca cb n : Nat) (l : List Tb) (w : World) (ha : Ls kTb w (a, n, ca) l) (hb : Ls kTb w (b, n, cb) l) (hn : l.length = n) (hl : n ≤ 1000000) :
    Calls Tryz.prog 38 #[.slice a n ca, .slice b n cb] w fun e w' => e = .returned (.bool true) ∧ ∃ n, w' = w.drewN n := by
  have HA : Hid (Ls kTb w (a, n, ca) l) := ha
  have HB : Hid (Ls kTb w (b, n, cb) l) := hb
  have HNN : Hid (l.length = n) := hn
  clear ha hb hn
  go_enter Tryz.func38, Tryz.ntmps38
  go_wp2
  go_loopw [5] (fun i wr => ∃ k m : Nat, k ≤ n ∧ i = .int .i64 k ∧ wr = w.drewN m) (fun i _ => n - (intOf i).toNat)
  case atStart => exact ⟨0, 0, Nat.zero_le _, rfl, rfl⟩
  case round =>
    obtain ⟨k, m, hk, rfl, rfl⟩ := hrel
    by_cases hlt : k < n
    · have hlt' : k < l.length := by rw [HNN.out]; exact hlt
      obtain ⟨b1, o1, e1, hb1, hc1⟩ := HA.out.cell (List.getElem?_eq_getElem hlt')
      obtain ⟨b2, o2, e2, hb2, hc2⟩ := HB.out.cell (List.getElem?_eq_getElem hlt')
      change a = _ at e1
      change b = _ at e2
      subst e1 e2
      have x0 := hc1 0 _ rfl
      have x1 := hc1 1 _ rfl
      have x2 := hc1 2 _ rfl
      have x3 := hc1 3 _ rfl
      have x4 := hc1 4 _ rfl
      have x5 := hc1 5 _ rfl
      have y0 := hc2 0 _ rfl
      have y1 := hc2 1 _ rfl
      have y2 := hc2 2 _ rfl
      have y3 := hc2 3 _ rfl
      have y4 := hc2 4 _ rfl
      have y5 := hc2 5 _ rfl
      rw [show o1 + k * kTb.size + 0 = o1 + k * 6 from rfl] at x0
      rw [show o1 + k * kTb.size + 1 = o1 + k * 6 + 1 from rfl] at x1
      rw [show o1 + k * kTb.size + 2 = o1 + k * 6 + 2 from rfl] at x2
      rw [show o1 + k * kTb.size + 3 = o1 + k * 6 + 3 from rfl] at x3
      rw [show o1 + k * kTb.size + 4 = o1 + k * 6 + 4 from rfl] at x4
      rw [show o1 + k * kTb.size + 5 = o1 + k * 6 + 5 from rfl] at x5
      rw [show o2 + k * kTb.size + 0 = o2 + k * 6 from rfl] at y0
      rw [show o2 + k * kTb.size + 1 = o2 + k * 6 + 1 from rfl] at y1
      rw [show o2 + k * kTb.size + 2 = o2 + k * 6 + 2 from rfl] at y2
      rw [show o2 + k * kTb.size + 3 = o2 + k * 6 + 3 from rfl] at y3
      rw [show o2 + k * kTb.size + 4 = o2 + k * 6 + 4 from rfl] at y4
      rw [show o2 + k * kTb.size + 5 = o2 + k * 6 + 5 from rfl] at y5
      have q1 : (k : Int) < (n : Int) := by omega
      generalize l[k] = y at *
      obtain ⟨yn, yw, yb, ye, yl, yg⟩ := y
      dsimp only at x0 x1 x2 x3 x4 x5 y0 y1 y2 y3 y4 y5
      clear hc1 hc2 hlt'
      go_wp2
      go_quiet (fail)
      go_wp2
      go_roundw
      case rel => exact ⟨k + 1, _, by omega, by go_num, rfl⟩
      case measure => simp [intOf]; omega
    · have q1 : ¬ (k : Int) < (n : Int) := by omega
      go_wp2
      go_ret
      exact ⟨rfl, _, rfl⟩
set_option maxHeartbeats 1000000 in
theorem equal_nil (w : World) : Calls Tryz.prog 99 #[.slice none 0 0, .slice none 0 0] w fun e w' => e = .returned (.bool true) ∧ w' = w := by
  go_enter Tryz.func99, Tryz.ntmps99
  go_wp2
  go_loopw [13] (fun i wr => i = .int .i64 0 ∧ wr = w) (fun _ _ => 0)
  case atStart => exact ⟨rfl, rfl⟩
  case round =>
    obtain ⟨rfl, rfl⟩ := hrel
    go_wp2
    go_ret
    exact ⟨rfl, rfl⟩
end Vr
end Go.Proofs.YtaejjpbpnedblaaGreat
namespace Go.Proofs.YtaejjpbpnedblaaGreat
namespace Vr
open Go.Shelf Go.RowKit Go.Lib Go.Sort Go.Maps Go.ChangeMaps Go.MapKept Laws Irw Crw
set_option linter.unusedVariables false
set_option linter.unusedSimpArgs false
set_option maxRecDepth 20000
theorem Zb.new2 (w : World) (o : Obj) (vs : Array Value) (t : TypeId) : Zb ((w.alloc o).alloc (.cells vs t)) (w.heap.size + 1) vs.toList := by
  have := Zb.new (w.alloc o) vs t
  rwa [World.size_alloc] at this
set_option maxHeartbeats 2000000 in
theorem same_no (lv : Int) (hlv : lv ≠ 0) (us ls : Sv) (cut : ByteArray) (mv : Bool) (w : World) :
    Calls Tryz.prog 74 #[jbV lv us ls cut mv, jbV 0 nS nS ⟨#[]⟩ false] w fun e w' => e = .returned (.bool false) ∧ RowKit.Below w.heap.size w w' := by
  obtain ⟨W, hW⟩ : ∃ W, (w.alloc (Obj.cells #[.int .i64 lv, .slice us.1 us.2.1 us.2.2, .slice ls.1 ls.2.1 ls.2.2, .string cut, .bool mv] 62)).alloc (Obj.cells #[.int .i64 0, .slice none 0 0, .slice none 0 0, .string ⟨#[]⟩, .bool false] 62) = W := ⟨_, rfl⟩
  have HW : Hid (RowKit.Below w.heap.size w W ∧ Zb W w.heap.size (jbC lv us ls cut mv) ∧ Zb W (w.heap.size + 1) (jbC 0 nS nS ⟨#[]⟩ false)) := by
    subst hW
    exact ⟨((Below.refl _ _).alloc (Nat.le_refl _) _).alloc (by simp) _, (Zb.new w _ _).below ((Below.refl _ _).alloc (Nat.le_refl _) _), Zb.new2 w _ _ _⟩
  have c0 := HW.out.2.1.2.1 0 _ rfl
  have d0 := HW.out.2.2.2.1 0 _ rfl
  have q1 : decide (lv = 0) = false := by simp [hlv]
  unfold jbV
  go_enter Tryz.func74, Tryz.ntmps74
  go_upto_region 1 with (fail)
  simp only [nS]
  rw [hW]
  clear hW
  go_wp2
  go_ret
  exact ⟨rfl, HW.out.1⟩
set_option maxHeartbeats 2000000 in
theorem same_yes (w : World) :
    Calls Tryz.prog 74 #[jbV 0 nS nS ⟨#[]⟩ false, jbV 0 nS nS ⟨#[]⟩ false] w fun e w' => e = .returned (.bool true) ∧ RowKit.Below w.heap.size w w' := by
  obtain ⟨W, hW⟩ : ∃ W, (w.alloc (Obj.cells #[.int .i64 0, .slice none 0 0, .slice none 0 0, .string ⟨#[]⟩, .bool false] 62)).alloc (Obj.cells #[.int .i64 0, .slice none 0 0, .slice none 0 0, .string ⟨#[]⟩, .bool false] 62) = W := ⟨_, rfl⟩
  have HW : Hid (RowKit.Below w.heap.size w W ∧ Zb W w.heap.size (jbC 0 nS nS ⟨#[]⟩ false) ∧ Zb W (w.heap.size + 1) (jbC 0 nS nS ⟨#[]⟩ false)) := by
    subst hW
    exact ⟨((Below.refl _ _).alloc (Nat.le_refl _) _).alloc (by simp) _, (Zb.new w _ _).below ((Below.refl _ _).alloc (Nat.le_refl _) _), Zb.new2 w _ _ _⟩
  have c0 := HW.out.2.1.2.1 0 _ rfl
  have c1 := HW.out.2.1.2.1 1 _ rfl
  have c2 := HW.out.2.1.2.1 2 _ rfl
  have c3 := HW.out.2.1.2.1 3 _ rfl
  have c4 := HW.out.2.1.2.1 4 _ rfl
  have d0 := HW.out.2.2.2.1 0 _ rfl
  have d1 := HW.out.2.2.2.1 1 _ rfl
  have d2 := HW.out.2.2.2.1 2 _ rfl
  have d3 := HW.out.2.2.2.1 3 _ rfl
  have d4 := HW.out.2.2.2.1 4 _ rfl
  simp only [nS] at c1 c2 d1 d2
  unfold jbV
  go_enter Tryz.func74, Tryz.ntmps74
  go_upto_region 1 with (fail)
  simp only [nS]
  rw [hW]
  clear hW
  go_wp2_with (go_at_call 99; go_loud (refine (equal_nil _).mono ?_; rintro e w99 ⟨rfl, hw99⟩; have hw98 := hw99.symm; clear hw99; subst hw98))
  go_ret
  exact ⟨rfl, HW.out.1⟩
set_option maxHeartbeats 2000000 in
theorem sameJob_true (j : Jb) (us ls us' ls' : Sv) (w : World) (h1 : JAt w us ls j) (h2 : JAt w us' ls' j) (hl : j.up.length ≤ 1000000 ∧ j.lo.length ≤ 1000000) :
    Calls Tryz.prog 35 #[jbV j.lv us ls j.cut j.mv, jbV j.lv us' ls' j.cut j.mv] w fun e w' => e = .returned (.bool true) ∧ RowKit.Below w.heap.size w w' := by
  obtain ⟨a1, n1, k1⟩ := us
  obtain ⟨a2, n2, k2⟩ := ls
  obtain ⟨a3, n3, k3⟩ := us'
  obtain ⟨a4, n4, k4⟩ := ls'
  have e1 : n1 = j.up.length := h1.1.2.1
  have e2 : n2 = j.lo.length := h1.2.2.1
  have e3 : n3 = j.up.length := h2.1.2.1
  have e4 : n4 = j.lo.length := h2.2.2.1
  subst e1 e2 e3 e4
  obtain ⟨W, hW⟩ : ∃ W, (w.alloc (Obj.cells #[.int .i64 j.lv, .slice a1 j.up.length k1, .slice a2 j.lo.length k2, .string j.cut, .bool j.mv] 62)).alloc (Obj.cells #[.int .i64 j.lv, .slice a3 j.up.length k3, .slice a4 j.lo.length k4, .string j.cut, .bool j.mv] 62) = W := ⟨_, rfl⟩
  have HW : Hid (RowKit.Below w.heap.size w W ∧ Zb W w.heap.size (jbC j.lv (a1, j.up.length, k1) (a2, j.lo.length, k2) j.cut j.mv) ∧ Zb W (w.heap.size + 1) (jbC j.lv (a3, j.up.length, k3) (a4, j.lo.length, k4) j.cut j.mv)) := by
    subst hW
    exact ⟨((Below.refl _ _).alloc (Nat.le_refl _) _).alloc (by simp) _, (Zb.new w _ _).below ((Below.refl _ _).alloc (Nat.le_refl _) _), Zb.new2 w _ _ _⟩
  have c0 := HW.out.2.1.2.1 0 _ rfl
  have c1 := HW.out.2.1.2.1 1 _ rfl
  have c2 := HW.out.2.1.2.1 2 _ rfl
  have c3 := HW.out.2.1.2.1 3 _ rfl
  have c4 := HW.out.2.1.2.1 4 _ rfl
  have d0 := HW.out.2.2.2.1 0 _ rfl
  have d1 := HW.out.2.2.2.1 1 _ rfl
  have d2 := HW.out.2.2.2.1 2 _ rfl
  have d3 := HW.out.2.2.2.1 3 _ rfl
  have d4 := HW.out.2.2.2.1 4 _ rfl
  have HU : Hid (∀ W', RowKit.Below w.heap.size w W' → Calls Tryz.prog 38 #[.slice a1 j.up.length k1, .slice a3 j.up.length k3] W' fun e w' => e = .returned (.bool true) ∧ ∃ n, w' = W'.drewN n) := fun W' hb => sameTables_true a1 a3 k1 k3 _ j.up W' (h1.1.below hb) (h2.1.below hb) rfl hl.1
  have HL : Hid (∀ W', RowKit.Below w.heap.size w W' → Calls Tryz.prog 38 #[.slice a2 j.lo.length k2, .slice a4 j.lo.length k4] W' fun e w' => e = .returned (.bool true) ∧ ∃ n, w' = W'.drewN n) := fun W' hb => sameTables_true a2 a4 k2 k4 _ j.lo W' (h1.2.below hb) (h2.2.below hb) rfl hl.2
  clear h1 h2
  unfold jbV
  go_enter Tryz.func35, Tryz.ntmps35
  go_upto_region 1 with (fail)
  (try simp only)
  (try rw [hW])
  clear hW
  go_wp2_with (first
    | (go_at_call_of 38 a1; refine (HU.out _ HW.out.1).mono ?_; clear HU; rintro e w5 ⟨rfl, n5, hw5⟩; have hw5' := hw5; subst hw5'; clear hw5)
    | (go_at_call_of 38 a2; refine (HL.out _ (bl_dn HW.out.1 n5)).mono ?_; rintro e w6 ⟨rfl, n6, hw6⟩; have hw6' := hw6; subst hw6'; clear hw6))
  go_ret
  exact ⟨by simp, by first | exact bl_dn (bl_dn HW.out.1 _) _ | exact bl_dn HW.out.1 _⟩
end Vr
end Go.Proofs.YtaejjpbpnedblaaGreat
