import Derived.Test.YtebfokjgeknciaaPcJ
namespace Go.Proofs.Ytebfokjgeknciaa
namespace Pcm
open Go.RowKit Laws Irw
set_option linter.unusedVariables false
set_option linter.unusedSimpArgs false
set_option maxRecDepth 20000

def Sy (W : World) (B b d : Nat) (c : Cf) (x y : Int) (V : World) : Prop := Lf V B c ∧ V.cell? ⟨b, 0, none⟩ = some (.int .i64 x) ∧ V.cell? ⟨d, 0, none⟩ = some (.int .i64 y) ∧ Below W.heap.size W V
theorem Sy.mk {W V : World} {B b d : Nat} {c : Cf} {x y : Int} (h : Lf W B c) (hz : B < W.heap.size) (hx : W.cell? ⟨b, 0, none⟩ = some (.int .i64 x)) (hy : W.cell? ⟨d, 0, none⟩ = some (.int .i64 y)) (hb : Below W.heap.size W V) : Sy W B b d c x y V :=
  ⟨h.keep hz hb, (hb.cell (p := ⟨b, 0, none⟩) (World.block_lt_of_cell? W _ hx)).trans hx, (hb.cell (p := ⟨d, 0, none⟩) (World.block_lt_of_cell? W _ hy)).trans hy, hb⟩
theorem Sy.below {W V : World} {B b d : Nat} {c : Cf} {x y : Int} (h : Sy W B b d c x y V) : Below W.heap.size W V := h.2.2.2
set_option maxHeartbeats 2000000 in
theorem roomC_any (c : Cf) (hc : RC c) (h : Right c) (b d : Nat) (x y : Int) (hxr : R64 x) (hyr : R64 y) (w : World) (hx : w.cell? ⟨b, 0, none⟩ = some (.int .i64 x)) (hy : w.cell? ⟨d, 0, none⟩ = some (.int .i64 y)) :
    Calls Try.prog 71 #[.agg (figA c), .pointer (some ⟨b, 0, none⟩), .pointer (some ⟨d, 0, none⟩)] w fun e w' => e = .returned (.int .i64 (pa c (max x 0) (max y 0))) ∧ Below w.heap.size w w' := by
  have HC := hid hc
  have HR := hid h
  have HX := hid (And.intro hxr hyr)
  have hbz := World.block_lt_of_cell? w _ hx
  have hdz := World.block_lt_of_cell? w _ hy
  clear hc h hxr hyr
  have hL0 := lf_new w c 71
  have hz : w.heap.size < (w.alloc (.cells (figA c) 71)).heap.size := by simp
  have HB0 : Hid (Below w.heap.size w (w.alloc (.cells (figA c) 71))) := (Below.refl _ _).alloc (Nat.le_refl _) _
  have hx0 : (w.alloc (.cells (figA c) 71)).cell? ⟨b, 0, none⟩ = some (.int .i64 x) := (HB0.out.cell (p := ⟨b, 0, none⟩) hbz).trans hx
  have hy0 : (w.alloc (.cells (figA c) 71)).cell? ⟨d, 0, none⟩ = some (.int .i64 y) := (HB0.out.cell (p := ⟨d, 0, none⟩) hdz).trans hy
  go_enter Try.func71, Try.ntmps71
  go_wp2
  generalize (w.alloc (.cells (figA c) 71)) = W at *
  refine wp_region_held_drew (S := (fun V => Lf V w.heap.size c ∧ V.cell? ⟨b, 0, none⟩ = some (.int .i64 x) ∧ V.cell? ⟨d, 0, none⟩ = some (.int .i64 y) ∧ Below W.heap.size W V)) (by kernel_rfl) ?_ (fun hHeld => ?_)
  · exact Sy.mk hL0 hz hx0 hy0 (Below.refl _ _).drew
  refine wpAnyH_take (i := 0) (oi := { dst := some 5, op := Go.Op.load 71 (Go.Operand.tmp 3), type := 71, pos := "pace.go:45", after := #[], guard := none }) rfl (by kernel_rfl) (by kernel_rfl) (by kernel_rfl) (fun _ _ _ h => h) (yl_fig (by rfl) _ (by rfl) (by rfl) (fun V h => h.1)) hHeld ?_
  try simp only [Act.put, List.setIfInBounds_toArray, List.set_cons_zero, List.set_cons_succ]
  refine wpAnyH_take (i := 1) (oi := { dst := some 6, op := Go.Op.load 3 (Go.Operand.tmp 1), type := 3, pos := "pace.go:45", after := #[], guard := none }) (v := ?_) rfl (by kernel_rfl) (by kernel_rfl) (by kernel_rfl) (fun _ _ _ h => h) (Or.inl ⟨by rfl, ?_⟩) hHeld ?_
  rotate_left
  · (intro wq hSw; (try dsimp only at hSw); go_simp; try (with_reducible rfl))
  try simp only [Act.put, List.setIfInBounds_toArray, List.set_cons_zero, List.set_cons_succ]
  refine wpAnyH_take (i := 3) (oi := { dst := some 8, op := Go.Op.load 3 (Go.Operand.tmp 2), type := 3, pos := "pace.go:45", after := #[], guard := none }) (v := ?_) rfl (by kernel_rfl) (by kernel_rfl) (by kernel_rfl) (fun _ _ _ h => h) (Or.inl ⟨by rfl, ?_⟩) hHeld ?_
  rotate_left
  · (intro wq hSw; (try dsimp only at hSw); go_simp; try (with_reducible rfl))
  try simp only [Act.put, List.setIfInBounds_toArray, List.set_cons_zero, List.set_cons_succ]
  refine wpAnyH_ready (rs := [2]) (by kernel_rfl) (by simp) ?_
  refine AllReadyH.cons (o := { dst := some 7, op := Go.Op.call { callee := Go.Callee.value (Go.Operand.func 61), args := #[Go.Operand.tmp 6], argTypes := #[3] }, type := 63, pos := "pace.go:45", after := #[{ on := 1, ground := Go.Ground.data }], guard := none }) rfl (fun K hK => ?_) AllReadyH.nil
  go_simp
  refine (countedB _ _).mono ?_
  rintro e w9 ⟨rfl, hb9⟩
  try dsimp only
  refine hK.out _ _ ?_ (fun hHeld => ?_)
  · exact Sy.mk hL0 hz hx0 hy0 ((Sy.below hHeld).trans (hb9.mono (Sy.below hHeld).size))
  clear hK K
  try simp only [Act.put, List.setIfInBounds_toArray, List.set_cons_zero, List.set_cons_succ]
  refine wpAnyH_ready (rs := [4]) (by kernel_rfl) (by simp) ?_
  refine AllReadyH.cons (o := { dst := some 9, op := Go.Op.call { callee := Go.Callee.value (Go.Operand.func 61), args := #[Go.Operand.tmp 8], argTypes := #[3] }, type := 63, pos := "pace.go:45", after := #[{ on := 3, ground := Go.Ground.data }, { on := 2, ground := Go.Ground.chain }], guard := none }) rfl (fun K hK => ?_) AllReadyH.nil
  go_simp
  refine (countedB _ _).mono ?_
  rintro e w9 ⟨rfl, hb9⟩
  try dsimp only
  refine hK.out _ _ ?_ (fun hHeld => ?_)
  · exact Sy.mk hL0 hz hx0 hy0 ((Sy.below hHeld).trans (hb9.mono (Sy.below hHeld).size))
  clear hK K
  try simp only [Act.put, List.setIfInBounds_toArray, List.set_cons_zero, List.set_cons_succ]
  refine wpAnyH_ready (rs := [5]) (by kernel_rfl) (by simp) ?_
  refine AllReadyH.cons (o := { dst := some 10, op := Go.Op.call { callee := Go.Callee.value (Go.Operand.func 72), args := #[Go.Operand.tmp 5, Go.Operand.tmp 7, Go.Operand.tmp 9], argTypes := #[71, 63, 63] }, type := 63, pos := "pace.go:45", after := #[{ on := 0, ground := Go.Ground.data }, { on := 2, ground := Go.Ground.data }, { on := 4, ground := Go.Ground.data }, { on := 4, ground := Go.Ground.chain }], guard := none }) rfl (fun K hK => ?_) AllReadyH.nil
  go_simp
  refine (a_any c HC.out HR.out _ (max_r HX.out.1) _ (max_r HX.out.2) _).mono ?_
  rintro e w9 ⟨rfl, hb9⟩
  try dsimp only
  refine hK.out _ _ ?_ (fun hHeld => ?_)
  · exact Sy.mk hL0 hz hx0 hy0 ((Sy.below hHeld).trans (hb9.mono (Sy.below hHeld).size))
  clear hK K
  try simp only [Act.put, List.setIfInBounds_toArray, List.set_cons_zero, List.set_cons_succ]
  refine wpAnyH_take (i := 6) (oi := { dst := some 4, op := Go.Op.assign (Go.Operand.tmp 10), type := 63, pos := "pace.go:45", after := #[{ on := 5, ground := Go.Ground.data }, { on := 5, ground := Go.Ground.chain }, { on := 0, ground := Go.Ground.phase }, { on := 1, ground := Go.Ground.phase }, { on := 2, ground := Go.Ground.phase }, { on := 3, ground := Go.Ground.phase }, { on := 4, ground := Go.Ground.phase }, { on := 5, ground := Go.Ground.phase }], guard := none }) (v := ?_) rfl (by kernel_rfl) (by kernel_rfl) (by kernel_rfl) (fun _ _ _ h => h) (Or.inl ⟨by rfl, ?_⟩) hHeld ?_
  rotate_left
  · (intro wq hSw; (try dsimp only at hSw); go_simp; try (with_reducible rfl))
  try simp only [Act.put, List.setIfInBounds_toArray, List.set_cons_zero, List.set_cons_succ]
  refine wpAnyH_done (by kernel_rfl) ?_ _
  have HBZ := hid (Sy.below hHeld)
  clear hHeld
  go_wp2
  go_ret
  exact ⟨rfl, HB0.out.trans (HBZ.out.mono HB0.out.size)⟩

set_option maxHeartbeats 2000000 in
theorem reckoned_room (c : Cf) (hc : RC c) (b d : Nat) (x y : Int) (hxr : R64 x) (hyr : R64 y) (hb : bad c = none) (w : World) (hx : w.cell? ⟨b, 0, none⟩ = some (.int .i64 x)) (hy : w.cell? ⟨d, 0, none⟩ = some (.int .i64 y)) :
    Calls Try.prog 51 #[.agg (cfgA c), .func (.func 71) #[] #[.pointer (some ⟨b, 0, none⟩), .pointer (some ⟨d, 0, none⟩)]] w fun e w' => e = .returned (.int .i64 (pa c (max x 0) (max y 0))) ∧ Below w.heap.size w w' := by
  have HC := hid hc
  have HR := hid (right_of hb)
  have hbz := World.block_lt_of_cell? w _ hx
  have hdz := World.block_lt_of_cell? w _ hy
  clear hc
  have hL0 := lc_new w c 23
  have hz0 : w.heap.size < (w.alloc (.cells (cfgA c) 23)).heap.size := by simp
  have HB0 : Hid (Below w.heap.size w (w.alloc (.cells (cfgA c) 23))) := (Below.refl _ _).alloc (Nat.le_refl _) _
  have he : ckE c = 0 := (ck_none hb).2
  have HK : ∀ W, Calls Try.prog 10 #[.agg (cfgA c)] W fun e w' => e = .returned (.tuple #[.int .i64 (ckN c), .int .i64 0]) ∧ Below W.heap.size W w' := fun W => by have := check_any c HC.out W; rwa [he] at this
  clear hb he
  go_enter Try.func51, Try.ntmps51
  go_wp2_with (first | (refine wpList_cfg (by rfl) _ (by rfl) (by rfl) hL0 ?_) | (revert HB1; intro HB1; refine wpList_cfg (by rfl) _ (by rfl) (by rfl) hL1 ?_) | (go_at_call 10; go_loud (refine (HK _).mono ?_; rintro e w1 ⟨rfl, hb1⟩; have HB1 : Hid (Below w.heap.size w w1) := HB0.out.trans (hb1.mono HB0.out.size); have hL1 := hL0.keep hz0 hb1; clear hb1)) | (go_at_call 84; go_loud (refine (figuresOf_any c _).mono ?_; rintro e w2 ⟨rfl, hb2⟩; have HB2 : Hid (Below w.heap.size w w2) := HB1.out.trans (hb2.mono HB1.out.size); clear hb2)) | (go_at_call 71; go_loud (refine (roomC_any c HC.out HR.out b d x y hxr hyr _ ((HB2.out.cell (p := ⟨b, 0, none⟩) hbz).trans hx) ((HB2.out.cell (p := ⟨d, 0, none⟩) hdz).trans hy)).mono ?_; rintro e w3 ⟨rfl, hb3⟩; have HB3 : Hid (Below w.heap.size w w3) := HB2.out.trans (hb3.mono HB2.out.size); clear hb3)))
  go_ret
  exact ⟨rfl, HB3.out⟩

theorem rk_yes {c : Cf} {x : Int} (h : bad c = none) : rk c x = x := by unfold rk; rw [if_pos h]
theorem rk_no {c : Cf} {x : Int} (h : bad c ≠ none) : rk c x = 0 := by unfold rk; rw [if_neg h]
set_option maxHeartbeats 2000000 in
theorem limitSumF_any (c : Cf) (hc : RC c) (w : World) :
    Calls Try.prog 18 #[.agg (cfgA c)] w fun e w' => e = .returned (.int .i64 (rk c (plsum c))) ∧ Below w.heap.size w w' := by
  have HC := hid hc
  clear hc
  have hL0 : Lc (w.alloc (.cells (cfgA c) 23)) w.heap.size c := (lc_new w c 23)
  have HB0 : Hid (Below w.heap.size w (w.alloc (.cells (cfgA c) 23))) := (Below.refl _ _).alloc (Nat.le_refl _) _
  by_cases hb : bad c = none
  · rw [rk_yes hb]
    have HK : ∀ W, Below w.heap.size w W → True := fun _ _ => trivial
    clear HK
    go_enter Try.func18, Try.ntmps18
    go_wp2_with (first | (refine wpList_cfg (by rfl) _ (by rfl) (by rfl) hL0 ?_) | (go_at_call 51; go_loud (refine (reckoned_limitSum c HC.out hb _).mono ?_; rintro e w1 ⟨rfl, hb1⟩; have HB1 : Hid (Below w.heap.size w w1) := HB0.out.trans (hb1.mono HB0.out.size); clear hb1)))
    go_ret
    exact ⟨rfl, HB1.out⟩
  · rw [rk_no hb]
    go_enter Try.func18, Try.ntmps18
    go_wp2_with (first | (refine wpList_cfg (by rfl) _ (by rfl) (by rfl) hL0 ?_) | (go_at_call 51; go_loud (refine (reckoned_no c HC.out _ hb _).mono ?_; rintro e w1 ⟨rfl, hb1⟩; have HB1 : Hid (Below w.heap.size w w1) := HB0.out.trans (hb1.mono HB0.out.size); clear hb1)))
    go_ret
    exact ⟨rfl, HB1.out⟩

set_option maxHeartbeats 2000000 in
theorem memCapF_any (c : Cf) (hc : RC c) (w : World) :
    Calls Try.prog 20 #[.agg (cfgA c)] w fun e w' => e = .returned (.int .i64 (rk c (pmem c))) ∧ Below w.heap.size w w' := by
  have HC := hid hc
  clear hc
  have hL0 : Lc (w.alloc (.cells (cfgA c) 23)) w.heap.size c := (lc_new w c 23)
  have HB0 : Hid (Below w.heap.size w (w.alloc (.cells (cfgA c) 23))) := (Below.refl _ _).alloc (Nat.le_refl _) _
  by_cases hb : bad c = none
  · rw [rk_yes hb]
    have HK : ∀ W, Below w.heap.size w W → True := fun _ _ => trivial
    clear HK
    go_enter Try.func20, Try.ntmps20
    go_wp2_with (first | (refine wpList_cfg (by rfl) _ (by rfl) (by rfl) hL0 ?_) | (go_at_call 51; go_loud (refine (reckoned_memCap c HC.out hb _).mono ?_; rintro e w1 ⟨rfl, hb1⟩; have HB1 : Hid (Below w.heap.size w w1) := HB0.out.trans (hb1.mono HB0.out.size); clear hb1)))
    go_ret
    exact ⟨rfl, HB1.out⟩
  · rw [rk_no hb]
    go_enter Try.func20, Try.ntmps20
    go_wp2_with (first | (refine wpList_cfg (by rfl) _ (by rfl) (by rfl) hL0 ?_) | (go_at_call 51; go_loud (refine (reckoned_no c HC.out _ hb _).mono ?_; rintro e w1 ⟨rfl, hb1⟩; have HB1 : Hid (Below w.heap.size w w1) := HB0.out.trans (hb1.mono HB0.out.size); clear hb1)))
    go_ret
    exact ⟨rfl, HB1.out⟩

set_option maxHeartbeats 2000000 in
theorem fileCapF_any (c : Cf) (hc : RC c) (w : World) :
    Calls Try.prog 22 #[.agg (cfgA c)] w fun e w' => e = .returned (.int .i64 (rk c (pfile c))) ∧ Below w.heap.size w w' := by
  have HC := hid hc
  clear hc
  have hL0 : Lc (w.alloc (.cells (cfgA c) 23)) w.heap.size c := (lc_new w c 23)
  have HB0 : Hid (Below w.heap.size w (w.alloc (.cells (cfgA c) 23))) := (Below.refl _ _).alloc (Nat.le_refl _) _
  by_cases hb : bad c = none
  · rw [rk_yes hb]
    have HK : ∀ W, Below w.heap.size w W → True := fun _ _ => trivial
    clear HK
    go_enter Try.func22, Try.ntmps22
    go_wp2_with (first | (refine wpList_cfg (by rfl) _ (by rfl) (by rfl) hL0 ?_) | (go_at_call 51; go_loud (refine (reckoned_fileCap c HC.out hb _).mono ?_; rintro e w1 ⟨rfl, hb1⟩; have HB1 : Hid (Below w.heap.size w w1) := HB0.out.trans (hb1.mono HB0.out.size); clear hb1)))
    go_ret
    exact ⟨rfl, HB1.out⟩
  · rw [rk_no hb]
    go_enter Try.func22, Try.ntmps22
    go_wp2_with (first | (refine wpList_cfg (by rfl) _ (by rfl) (by rfl) hL0 ?_) | (go_at_call 51; go_loud (refine (reckoned_no c HC.out _ hb _).mono ?_; rintro e w1 ⟨rfl, hb1⟩; have HB1 : Hid (Below w.heap.size w w1) := HB0.out.trans (hb1.mono HB0.out.size); clear hb1)))
    go_ret
    exact ⟨rfl, HB1.out⟩

set_option maxHeartbeats 2000000 in
theorem debtCapF_any (c : Cf) (hc : RC c) (w : World) :
    Calls Try.prog 24 #[.agg (cfgA c)] w fun e w' => e = .returned (.int .i64 (rk c (pdebt c))) ∧ Below w.heap.size w w' := by
  have HC := hid hc
  clear hc
  have hL0 : Lc (w.alloc (.cells (cfgA c) 23)) w.heap.size c := (lc_new w c 23)
  have HB0 : Hid (Below w.heap.size w (w.alloc (.cells (cfgA c) 23))) := (Below.refl _ _).alloc (Nat.le_refl _) _
  by_cases hb : bad c = none
  · rw [rk_yes hb]
    have HK : ∀ W, Below w.heap.size w W → True := fun _ _ => trivial
    clear HK
    go_enter Try.func24, Try.ntmps24
    go_wp2_with (first | (refine wpList_cfg (by rfl) _ (by rfl) (by rfl) hL0 ?_) | (go_at_call 51; go_loud (refine (reckoned_debtCap c HC.out hb _).mono ?_; rintro e w1 ⟨rfl, hb1⟩; have HB1 : Hid (Below w.heap.size w w1) := HB0.out.trans (hb1.mono HB0.out.size); clear hb1)))
    go_ret
    exact ⟨rfl, HB1.out⟩
  · rw [rk_no hb]
    go_enter Try.func24, Try.ntmps24
    go_wp2_with (first | (refine wpList_cfg (by rfl) _ (by rfl) (by rfl) hL0 ?_) | (go_at_call 51; go_loud (refine (reckoned_no c HC.out _ hb _).mono ?_; rintro e w1 ⟨rfl, hb1⟩; have HB1 : Hid (Below w.heap.size w w1) := HB0.out.trans (hb1.mono HB0.out.size); clear hb1)))
    go_ret
    exact ⟨rfl, HB1.out⟩

set_option maxHeartbeats 2000000 in
theorem limitF_any (c : Cf) (hc : RC c) (x : Int) (hxr : R64 x) (w : World) :
    Calls Try.prog 16 #[.agg (cfgA c), .int .i64 x] w fun e w' => e = .returned (.int .i64 (rk c (plim c x))) ∧ Below w.heap.size w w' := by
  have HC := hid hc
  clear hc
  have hL0 : Lc ((w.alloc (.cells (cfgA c) 23)).alloc (.cells #[.int .i64 x] 3)) w.heap.size c := (lc_new w c 23).keep (by simp) (((Below.refl _ _).alloc (Nat.le_refl _) _))
  have HB0 : Hid (Below w.heap.size w ((w.alloc (.cells (cfgA c) 23)).alloc (.cells #[.int .i64 x] 3))) := ((Below.refl _ _).alloc (Nat.le_refl _) _).alloc (by simp) _
  have hx0 : ((w.alloc (.cells (cfgA c) 23)).alloc (.cells #[.int .i64 x] 3)).cell? ⟨w.heap.size + 1, 0, none⟩ = some (.int .i64 x) := by simp [go_sem]
  by_cases hb : bad c = none
  · rw [rk_yes hb]
    have HK : ∀ W, Below w.heap.size w W → True := fun _ _ => trivial
    clear HK
    go_enter Try.func16, Try.ntmps16
    go_wp2_with (first | (refine wpList_cfg (by rfl) _ (by rfl) (by rfl) hL0 ?_) | (go_at_call 51; go_loud (refine (reckoned_limit c HC.out (w.heap.size + 1) x hxr hb _ hx0).mono ?_; rintro e w1 ⟨rfl, hb1⟩; have HB1 : Hid (Below w.heap.size w w1) := HB0.out.trans (hb1.mono HB0.out.size); clear hb1)))
    go_ret
    exact ⟨rfl, HB1.out⟩
  · rw [rk_no hb]
    go_enter Try.func16, Try.ntmps16
    go_wp2_with (first | (refine wpList_cfg (by rfl) _ (by rfl) (by rfl) hL0 ?_) | (go_at_call 51; go_loud (refine (reckoned_no c HC.out _ hb _).mono ?_; rintro e w1 ⟨rfl, hb1⟩; have HB1 : Hid (Below w.heap.size w w1) := HB0.out.trans (hb1.mono HB0.out.size); clear hb1)))
    go_ret
    exact ⟨rfl, HB1.out⟩

set_option maxHeartbeats 2000000 in
theorem tfF_any (c : Cf) (hc : RC c) (x : Int) (hxr : R64 x) (w : World) :
    Calls Try.prog 26 #[.agg (cfgA c), .int .i64 x] w fun e w' => e = .returned (.int .i64 (rk c (ptf c (max x 0)))) ∧ Below w.heap.size w w' := by
  have HC := hid hc
  clear hc
  have hL0 : Lc ((w.alloc (.cells (cfgA c) 23)).alloc (.cells #[.int .i64 x] 3)) w.heap.size c := (lc_new w c 23).keep (by simp) (((Below.refl _ _).alloc (Nat.le_refl _) _))
  have HB0 : Hid (Below w.heap.size w ((w.alloc (.cells (cfgA c) 23)).alloc (.cells #[.int .i64 x] 3))) := ((Below.refl _ _).alloc (Nat.le_refl _) _).alloc (by simp) _
  have hx0 : ((w.alloc (.cells (cfgA c) 23)).alloc (.cells #[.int .i64 x] 3)).cell? ⟨w.heap.size + 1, 0, none⟩ = some (.int .i64 x) := by simp [go_sem]
  by_cases hb : bad c = none
  · rw [rk_yes hb]
    have HK : ∀ W, Below w.heap.size w W → True := fun _ _ => trivial
    clear HK
    go_enter Try.func26, Try.ntmps26
    go_wp2_with (first | (refine wpList_cfg (by rfl) _ (by rfl) (by rfl) hL0 ?_) | (go_at_call 51; go_loud (refine (reckoned_tf c HC.out (w.heap.size + 1) x hxr hb _ hx0).mono ?_; rintro e w1 ⟨rfl, hb1⟩; have HB1 : Hid (Below w.heap.size w w1) := HB0.out.trans (hb1.mono HB0.out.size); clear hb1)))
    go_ret
    exact ⟨rfl, HB1.out⟩
  · rw [rk_no hb]
    go_enter Try.func26, Try.ntmps26
    go_wp2_with (first | (refine wpList_cfg (by rfl) _ (by rfl) (by rfl) hL0 ?_) | (go_at_call 51; go_loud (refine (reckoned_no c HC.out _ hb _).mono ?_; rintro e w1 ⟨rfl, hb1⟩; have HB1 : Hid (Below w.heap.size w w1) := HB0.out.trans (hb1.mono HB0.out.size); clear hb1)))
    go_ret
    exact ⟨rfl, HB1.out⟩

set_option maxHeartbeats 2000000 in
theorem tcF_any (c : Cf) (hc : RC c) (x : Int) (hxr : R64 x) (w : World) :
    Calls Try.prog 28 #[.agg (cfgA c), .int .i64 x] w fun e w' => e = .returned (.int .i64 (rk c (ptc c (max x 0)))) ∧ Below w.heap.size w w' := by
  have HC := hid hc
  clear hc
  have hL0 : Lc ((w.alloc (.cells (cfgA c) 23)).alloc (.cells #[.int .i64 x] 3)) w.heap.size c := (lc_new w c 23).keep (by simp) (((Below.refl _ _).alloc (Nat.le_refl _) _))
  have HB0 : Hid (Below w.heap.size w ((w.alloc (.cells (cfgA c) 23)).alloc (.cells #[.int .i64 x] 3))) := ((Below.refl _ _).alloc (Nat.le_refl _) _).alloc (by simp) _
  have hx0 : ((w.alloc (.cells (cfgA c) 23)).alloc (.cells #[.int .i64 x] 3)).cell? ⟨w.heap.size + 1, 0, none⟩ = some (.int .i64 x) := by simp [go_sem]
  by_cases hb : bad c = none
  · rw [rk_yes hb]
    have HK : ∀ W, Below w.heap.size w W → True := fun _ _ => trivial
    clear HK
    go_enter Try.func28, Try.ntmps28
    go_wp2_with (first | (refine wpList_cfg (by rfl) _ (by rfl) (by rfl) hL0 ?_) | (go_at_call 51; go_loud (refine (reckoned_tc c HC.out (w.heap.size + 1) x hxr hb _ hx0).mono ?_; rintro e w1 ⟨rfl, hb1⟩; have HB1 : Hid (Below w.heap.size w w1) := HB0.out.trans (hb1.mono HB0.out.size); clear hb1)))
    go_ret
    exact ⟨rfl, HB1.out⟩
  · rw [rk_no hb]
    go_enter Try.func28, Try.ntmps28
    go_wp2_with (first | (refine wpList_cfg (by rfl) _ (by rfl) (by rfl) hL0 ?_) | (go_at_call 51; go_loud (refine (reckoned_no c HC.out _ hb _).mono ?_; rintro e w1 ⟨rfl, hb1⟩; have HB1 : Hid (Below w.heap.size w w1) := HB0.out.trans (hb1.mono HB0.out.size); clear hb1)))
    go_ret
    exact ⟨rfl, HB1.out⟩

set_option maxHeartbeats 2000000 in
theorem b1F_any (c : Cf) (hc : RC c) (x : Int) (hxr : R64 x) (w : World) :
    Calls Try.prog 30 #[.agg (cfgA c), .int .i64 x] w fun e w' => e = .returned (.int .i64 (rk c (pb1 c (max x 0)))) ∧ Below w.heap.size w w' := by
  have HC := hid hc
  clear hc
  have hL0 : Lc ((w.alloc (.cells (cfgA c) 23)).alloc (.cells #[.int .i64 x] 3)) w.heap.size c := (lc_new w c 23).keep (by simp) (((Below.refl _ _).alloc (Nat.le_refl _) _))
  have HB0 : Hid (Below w.heap.size w ((w.alloc (.cells (cfgA c) 23)).alloc (.cells #[.int .i64 x] 3))) := ((Below.refl _ _).alloc (Nat.le_refl _) _).alloc (by simp) _
  have hx0 : ((w.alloc (.cells (cfgA c) 23)).alloc (.cells #[.int .i64 x] 3)).cell? ⟨w.heap.size + 1, 0, none⟩ = some (.int .i64 x) := by simp [go_sem]
  by_cases hb : bad c = none
  · rw [rk_yes hb]
    have HK : ∀ W, Below w.heap.size w W → True := fun _ _ => trivial
    clear HK
    go_enter Try.func30, Try.ntmps30
    go_wp2_with (first | (refine wpList_cfg (by rfl) _ (by rfl) (by rfl) hL0 ?_) | (go_at_call 51; go_loud (refine (reckoned_b1 c HC.out (w.heap.size + 1) x hxr hb _ hx0).mono ?_; rintro e w1 ⟨rfl, hb1⟩; have HB1 : Hid (Below w.heap.size w w1) := HB0.out.trans (hb1.mono HB0.out.size); clear hb1)))
    go_ret
    exact ⟨rfl, HB1.out⟩
  · rw [rk_no hb]
    go_enter Try.func30, Try.ntmps30
    go_wp2_with (first | (refine wpList_cfg (by rfl) _ (by rfl) (by rfl) hL0 ?_) | (go_at_call 51; go_loud (refine (reckoned_no c HC.out _ hb _).mono ?_; rintro e w1 ⟨rfl, hb1⟩; have HB1 : Hid (Below w.heap.size w w1) := HB0.out.trans (hb1.mono HB0.out.size); clear hb1)))
    go_ret
    exact ⟨rfl, HB1.out⟩

set_option maxHeartbeats 2000000 in
theorem b2F_any (c : Cf) (hc : RC c) (x : Int) (hxr : R64 x) (w : World) :
    Calls Try.prog 32 #[.agg (cfgA c), .int .i64 x] w fun e w' => e = .returned (.int .i64 (rk c (pb2 c (max x 0)))) ∧ Below w.heap.size w w' := by
  have HC := hid hc
  clear hc
  have hL0 : Lc ((w.alloc (.cells (cfgA c) 23)).alloc (.cells #[.int .i64 x] 3)) w.heap.size c := (lc_new w c 23).keep (by simp) (((Below.refl _ _).alloc (Nat.le_refl _) _))
  have HB0 : Hid (Below w.heap.size w ((w.alloc (.cells (cfgA c) 23)).alloc (.cells #[.int .i64 x] 3))) := ((Below.refl _ _).alloc (Nat.le_refl _) _).alloc (by simp) _
  have hx0 : ((w.alloc (.cells (cfgA c) 23)).alloc (.cells #[.int .i64 x] 3)).cell? ⟨w.heap.size + 1, 0, none⟩ = some (.int .i64 x) := by simp [go_sem]
  by_cases hb : bad c = none
  · rw [rk_yes hb]
    have HK : ∀ W, Below w.heap.size w W → True := fun _ _ => trivial
    clear HK
    go_enter Try.func32, Try.ntmps32
    go_wp2_with (first | (refine wpList_cfg (by rfl) _ (by rfl) (by rfl) hL0 ?_) | (go_at_call 51; go_loud (refine (reckoned_b2 c HC.out (w.heap.size + 1) x hxr hb _ hx0).mono ?_; rintro e w1 ⟨rfl, hb1⟩; have HB1 : Hid (Below w.heap.size w w1) := HB0.out.trans (hb1.mono HB0.out.size); clear hb1)))
    go_ret
    exact ⟨rfl, HB1.out⟩
  · rw [rk_no hb]
    go_enter Try.func32, Try.ntmps32
    go_wp2_with (first | (refine wpList_cfg (by rfl) _ (by rfl) (by rfl) hL0 ?_) | (go_at_call 51; go_loud (refine (reckoned_no c HC.out _ hb _).mono ?_; rintro e w1 ⟨rfl, hb1⟩; have HB1 : Hid (Below w.heap.size w w1) := HB0.out.trans (hb1.mono HB0.out.size); clear hb1)))
    go_ret
    exact ⟨rfl, HB1.out⟩

set_option maxHeartbeats 2000000 in
theorem roomF_any (c : Cf) (hc : RC c) (x : Int) (hxr : R64 x) (y : Int) (hyr : R64 y) (w : World) :
    Calls Try.prog 34 #[.agg (cfgA c), .int .i64 x, .int .i64 y] w fun e w' => e = .returned (.int .i64 (rk c (pa c (max x 0) (max y 0)))) ∧ Below w.heap.size w w' := by
  have HC := hid hc
  clear hc
  have hL0 : Lc (((w.alloc (.cells (cfgA c) 23)).alloc (.cells #[.int .i64 x] 3)).alloc (.cells #[.int .i64 y] 3)) w.heap.size c := (lc_new w c 23).keep (by simp) ((((Below.refl _ _).alloc (Nat.le_refl _) _).alloc (by simp) _))
  have HB0 : Hid (Below w.heap.size w (((w.alloc (.cells (cfgA c) 23)).alloc (.cells #[.int .i64 x] 3)).alloc (.cells #[.int .i64 y] 3))) := (((Below.refl _ _).alloc (Nat.le_refl _) _).alloc (by simp) _).alloc (by simp; omega) _
  have hx0 : (((w.alloc (.cells (cfgA c) 23)).alloc (.cells #[.int .i64 x] 3)).alloc (.cells #[.int .i64 y] 3)).cell? ⟨w.heap.size + 1, 0, none⟩ = some (.int .i64 x) := by simp [go_sem]
  have hy0 : (((w.alloc (.cells (cfgA c) 23)).alloc (.cells #[.int .i64 x] 3)).alloc (.cells #[.int .i64 y] 3)).cell? ⟨w.heap.size + 1 + 1, 0, none⟩ = some (.int .i64 y) := by simp [go_sem]
  by_cases hb : bad c = none
  · rw [rk_yes hb]
    have HK : ∀ W, Below w.heap.size w W → True := fun _ _ => trivial
    clear HK
    go_enter Try.func34, Try.ntmps34
    go_wp2_with (first | (refine wpList_cfg (by rfl) _ (by rfl) (by rfl) hL0 ?_) | (go_at_call 51; go_loud (refine (reckoned_room c HC.out (w.heap.size + 1) (w.heap.size + 1 + 1) x y hxr hyr hb _ hx0 hy0).mono ?_; rintro e w1 ⟨rfl, hb1⟩; have HB1 : Hid (Below w.heap.size w w1) := HB0.out.trans (hb1.mono HB0.out.size); clear hb1)))
    go_ret
    exact ⟨rfl, HB1.out⟩
  · rw [rk_no hb]
    go_enter Try.func34, Try.ntmps34
    go_wp2_with (first | (refine wpList_cfg (by rfl) _ (by rfl) (by rfl) hL0 ?_) | (go_at_call 51; go_loud (refine (reckoned_no c HC.out _ hb _).mono ?_; rintro e w1 ⟨rfl, hb1⟩; have HB1 : Hid (Below w.heap.size w w1) := HB0.out.trans (hb1.mono HB0.out.size); clear hb1)))
    go_ret
    exact ⟨rfl, HB1.out⟩

end Pcm
end Go.Proofs.Ytebfokjgeknciaa
