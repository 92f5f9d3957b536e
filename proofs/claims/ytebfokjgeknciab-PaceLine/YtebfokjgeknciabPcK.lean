import Derived.Test.YtebfokjgeknciabPcJ
namespace Go.Proofs.Ytebfokjgeknciab
namespace Pcm
open Go.RowKit Laws Irw
set_option linter.unusedVariables false
set_option linter.unusedSimpArgs false
set_option maxRecDepth 20000

def Sy (W : World) (B b d : Nat) (c : Cf) (x y : Int) (V : World) : Prop := Lf V B c ∧ V.cell? ⟨b, 0, none⟩ = some (.int .i64 x) ∧ V.cell? ⟨d, 0, none⟩ = some (.int .i64 y) ∧ Below W.heap.size W V
theorem Sy.mk {W V : World} {B b d : Nat} {c : Cf} {x y : Int} (h : Lf W B c) (hz : B < W.heap.size) (hx : W.cell? ⟨b, 0, none⟩ = some (.int .i64 x)) (hy : W.cell? ⟨d, 0, none⟩ = some (.int .i64 y)) (hb : Below W.heap.size W V) : Sy W B b d c x y V :=
  ⟨h.keep hz hb, (hb.cell (p := ⟨b, 0, none⟩) (World.block_lt_of_cell? W _ hx)).trans hx, (hb.cell (p := ⟨d, 0, none⟩) (World.block_lt_of_cell? W _ hy)).trans hy, hb⟩
theorem Sy.below {W V : World} {B b d : Nat} {c : Cf} {x y : Int} (h : Sy W B b d c x y V) : Below W.heap.size W V := h.2.2.2
theorem rk_yes {c : Cf} {x : Int} (h : bad c = none) : rk c x = x := by unfold rk; rw [if_pos h]
theorem rk_no {c : Cf} {x : Int} (h : bad c ≠ none) : rk c x = 0 := by unfold rk; rw [if_neg h]
set_option maxHeartbeats 2000000 in
theorem limitSumF_any (c : Cf) (hc : RC c) (w : World) :
    Calls Try.prog 17 #[.agg (cfgA c)] w fun e w' => e = .returned (.int .i64 (rk c (plsum c))) ∧ Below w.heap.size w w' := by
  have HC := hid hc
  clear hc
  have hL0 : Lc (w.alloc (.cells (cfgA c) 38)) w.heap.size c := (lc_new w c 38)
  have HB0 : Hid (Below w.heap.size w (w.alloc (.cells (cfgA c) 38))) := (Below.refl _ _).alloc (Nat.le_refl _) _
  by_cases hb : bad c = none
  · rw [rk_yes hb]
    have HK : ∀ W, Below w.heap.size w W → True := fun _ _ => trivial
    clear HK
    go_enter Try.func17, Try.ntmps17
    go_wp2_with (first | (refine wpList_cfg (by rfl) _ (by rfl) (by rfl) hL0 ?_) | (go_at_call 28; go_loud (refine (reckoned_limitSum c HC.out hb _).mono ?_; rintro e w1 ⟨rfl, hb1⟩; have HB1 : Hid (Below w.heap.size w w1) := HB0.out.trans (hb1.mono HB0.out.size); clear hb1)))
    go_ret
    exact ⟨rfl, HB1.out⟩
  · rw [rk_no hb]
    go_enter Try.func17, Try.ntmps17
    go_wp2_with (first | (refine wpList_cfg (by rfl) _ (by rfl) (by rfl) hL0 ?_) | (go_at_call 28; go_loud (refine (reckoned_no c HC.out _ hb _).mono ?_; rintro e w1 ⟨rfl, hb1⟩; have HB1 : Hid (Below w.heap.size w w1) := HB0.out.trans (hb1.mono HB0.out.size); clear hb1)))
    go_ret
    exact ⟨rfl, HB1.out⟩

set_option maxHeartbeats 2000000 in
theorem memCapF_any (c : Cf) (hc : RC c) (w : World) :
    Calls Try.prog 16 #[.agg (cfgA c)] w fun e w' => e = .returned (.int .i64 (rk c (pmem c))) ∧ Below w.heap.size w w' := by
  have HC := hid hc
  clear hc
  have hL0 : Lc (w.alloc (.cells (cfgA c) 38)) w.heap.size c := (lc_new w c 38)
  have HB0 : Hid (Below w.heap.size w (w.alloc (.cells (cfgA c) 38))) := (Below.refl _ _).alloc (Nat.le_refl _) _
  by_cases hb : bad c = none
  · rw [rk_yes hb]
    have HK : ∀ W, Below w.heap.size w W → True := fun _ _ => trivial
    clear HK
    go_enter Try.func16, Try.ntmps16
    go_wp2_with (first | (refine wpList_cfg (by rfl) _ (by rfl) (by rfl) hL0 ?_) | (go_at_call 28; go_loud (refine (reckoned_memCap c HC.out hb _).mono ?_; rintro e w1 ⟨rfl, hb1⟩; have HB1 : Hid (Below w.heap.size w w1) := HB0.out.trans (hb1.mono HB0.out.size); clear hb1)))
    go_ret
    exact ⟨rfl, HB1.out⟩
  · rw [rk_no hb]
    go_enter Try.func16, Try.ntmps16
    go_wp2_with (first | (refine wpList_cfg (by rfl) _ (by rfl) (by rfl) hL0 ?_) | (go_at_call 28; go_loud (refine (reckoned_no c HC.out _ hb _).mono ?_; rintro e w1 ⟨rfl, hb1⟩; have HB1 : Hid (Below w.heap.size w w1) := HB0.out.trans (hb1.mono HB0.out.size); clear hb1)))
    go_ret
    exact ⟨rfl, HB1.out⟩

set_option maxHeartbeats 2000000 in
theorem fileCapF_any (c : Cf) (hc : RC c) (w : World) :
    Calls Try.prog 18 #[.agg (cfgA c)] w fun e w' => e = .returned (.int .i64 (rk c (pfile c))) ∧ Below w.heap.size w w' := by
  have HC := hid hc
  clear hc
  have hL0 : Lc (w.alloc (.cells (cfgA c) 38)) w.heap.size c := (lc_new w c 38)
  have HB0 : Hid (Below w.heap.size w (w.alloc (.cells (cfgA c) 38))) := (Below.refl _ _).alloc (Nat.le_refl _) _
  by_cases hb : bad c = none
  · rw [rk_yes hb]
    have HK : ∀ W, Below w.heap.size w W → True := fun _ _ => trivial
    clear HK
    go_enter Try.func18, Try.ntmps18
    go_wp2_with (first | (refine wpList_cfg (by rfl) _ (by rfl) (by rfl) hL0 ?_) | (go_at_call 28; go_loud (refine (reckoned_fileCap c HC.out hb _).mono ?_; rintro e w1 ⟨rfl, hb1⟩; have HB1 : Hid (Below w.heap.size w w1) := HB0.out.trans (hb1.mono HB0.out.size); clear hb1)))
    go_ret
    exact ⟨rfl, HB1.out⟩
  · rw [rk_no hb]
    go_enter Try.func18, Try.ntmps18
    go_wp2_with (first | (refine wpList_cfg (by rfl) _ (by rfl) (by rfl) hL0 ?_) | (go_at_call 28; go_loud (refine (reckoned_no c HC.out _ hb _).mono ?_; rintro e w1 ⟨rfl, hb1⟩; have HB1 : Hid (Below w.heap.size w w1) := HB0.out.trans (hb1.mono HB0.out.size); clear hb1)))
    go_ret
    exact ⟨rfl, HB1.out⟩

set_option maxHeartbeats 2000000 in
theorem debtCapF_any (c : Cf) (hc : RC c) (w : World) :
    Calls Try.prog 19 #[.agg (cfgA c)] w fun e w' => e = .returned (.int .i64 (rk c (pdebt c))) ∧ Below w.heap.size w w' := by
  have HC := hid hc
  clear hc
  have hL0 : Lc (w.alloc (.cells (cfgA c) 38)) w.heap.size c := (lc_new w c 38)
  have HB0 : Hid (Below w.heap.size w (w.alloc (.cells (cfgA c) 38))) := (Below.refl _ _).alloc (Nat.le_refl _) _
  by_cases hb : bad c = none
  · rw [rk_yes hb]
    have HK : ∀ W, Below w.heap.size w W → True := fun _ _ => trivial
    clear HK
    go_enter Try.func19, Try.ntmps19
    go_wp2_with (first | (refine wpList_cfg (by rfl) _ (by rfl) (by rfl) hL0 ?_) | (go_at_call 28; go_loud (refine (reckoned_debtCap c HC.out hb _).mono ?_; rintro e w1 ⟨rfl, hb1⟩; have HB1 : Hid (Below w.heap.size w w1) := HB0.out.trans (hb1.mono HB0.out.size); clear hb1)))
    go_ret
    exact ⟨rfl, HB1.out⟩
  · rw [rk_no hb]
    go_enter Try.func19, Try.ntmps19
    go_wp2_with (first | (refine wpList_cfg (by rfl) _ (by rfl) (by rfl) hL0 ?_) | (go_at_call 28; go_loud (refine (reckoned_no c HC.out _ hb _).mono ?_; rintro e w1 ⟨rfl, hb1⟩; have HB1 : Hid (Below w.heap.size w w1) := HB0.out.trans (hb1.mono HB0.out.size); clear hb1)))
    go_ret
    exact ⟨rfl, HB1.out⟩

end Pcm
end Go.Proofs.Ytebfokjgeknciab
