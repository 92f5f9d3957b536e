import Derived.Test.YtebfokjgeknciaaPcI
namespace Go.Proofs.Ytebfokjgeknciaa
namespace Pcm
open Go.RowKit Laws Irw
set_option linter.unusedVariables false
set_option linter.unusedSimpArgs false
set_option maxRecDepth 20000

theorem max_r {x : Int} (h : R64 x) : R64 (max x 0) := by unfold R64 at *; omega
theorem max_nn (x : Int) : 0 ≤ max x 0 := by omega
theorem countedB (a : Int) (w : World) : Calls Try.prog 61 #[.int .i64 a] w fun e w' => e = .returned (.int .i64 (max a 0)) ∧ Below w.heap.size w w' := (counted_any a w).mono fun e w' ⟨he, hw⟩ => ⟨he, by rw [hw]; exact Below.refl _ _⟩
def Sx (W : World) (B b : Nat) (c : Cf) (x : Int) (V : World) : Prop := Lf V B c ∧ V.cell? ⟨b, 0, none⟩ = some (.int .i64 x) ∧ Below W.heap.size W V
theorem Sx.mk {W V : World} {B b : Nat} {c : Cf} {x : Int} (h : Lf W B c) (hz : B < W.heap.size) (hx : W.cell? ⟨b, 0, none⟩ = some (.int .i64 x)) (hb : Below W.heap.size W V) : Sx W B b c x V :=
  ⟨h.keep hz hb, (hb.cell (p := ⟨b, 0, none⟩) (World.block_lt_of_cell? W _ hx)).trans hx, hb⟩
theorem Sx.below {W V : World} {B b : Nat} {c : Cf} {x : Int} (h : Sx W B b c x V) : Below W.heap.size W V := h.2.2

set_option maxHeartbeats 2000000 in
theorem limitC_any (c : Cf) (hc : RC c) (h : Right c) (b : Nat) (x : Int) (hxr : R64 x) (w : World) (hx : w.cell? ⟨b, 0, none⟩ = some (.int .i64 x)) :
    Calls Try.prog 52 #[.agg (figA c), .pointer (some ⟨b, 0, none⟩)] w fun e w' => e = .returned (.int .i64 (plim c x)) ∧ Below w.heap.size w w' := by
  have HC := hid hc
  have HR := hid h
  have HX := hid hxr
  have hbz := World.block_lt_of_cell? w _ hx
  clear hc h hxr
  have hL0 := lf_new w c 71
  have HB0 : Hid (Below w.heap.size w (w.alloc (.cells (figA c) 71))) := (Below.refl _ _).alloc (Nat.le_refl _) _
  have hx0 : (w.alloc (.cells (figA c) 71)).cell? ⟨b, 0, none⟩ = some (.int .i64 x) := (HB0.out.cell (p := ⟨b, 0, none⟩) hbz).trans hx
  go_enter Try.func52, Try.ntmps52
  go_wp2_with (first | (refine wpList_fig (by rfl) _ (by rfl) (by rfl) hL0 ?_) | (go_at_call 53; go_loud (refine (limit_any c HC.out HR.out x HX.out _).mono ?_; rintro e w1 ⟨rfl, hb1⟩; have HB1 : Hid (Below w.heap.size w w1) := HB0.out.trans (hb1.mono HB0.out.size); clear hb1)))
  go_ret
  exact ⟨rfl, HB1.out⟩

set_option maxHeartbeats 2000000 in
theorem tfC_any (c : Cf) (hc : RC c) (h : Right c) (b : Nat) (x : Int) (hxr : R64 x) (w : World) (hx : w.cell? ⟨b, 0, none⟩ = some (.int .i64 x)) :
    Calls Try.prog 59 #[.agg (figA c), .pointer (some ⟨b, 0, none⟩)] w fun e w' => e = .returned (.int .i64 (ptf c (max x 0))) ∧ Below w.heap.size w w' := by
  have HC := hid hc
  have HR := hid h
  have HX := hid hxr
  have hbz := World.block_lt_of_cell? w _ hx
  clear hc h hxr
  have hL0 := lf_new w c 71
  have hz : w.heap.size < (w.alloc (.cells (figA c) 71)).heap.size := by simp
  have HB0 : Hid (Below w.heap.size w (w.alloc (.cells (figA c) 71))) := (Below.refl _ _).alloc (Nat.le_refl _) _
  have hx0 : (w.alloc (.cells (figA c) 71)).cell? ⟨b, 0, none⟩ = some (.int .i64 x) := (HB0.out.cell (p := ⟨b, 0, none⟩) hbz).trans hx
  go_enter Try.func59, Try.ntmps59
  go_wp2
  generalize (w.alloc (.cells (figA c) 71)) = W at *
  refine wp_region_held_drew (S := (fun V => Lf V w.heap.size c ∧ V.cell? ⟨b, 0, none⟩ = some (.int .i64 x) ∧ Below W.heap.size W V)) (by kernel_rfl) ?_ (fun hHeld => ?_)
  · exact Sx.mk hL0 hz hx0 (Below.refl _ _).drew
  refine wpAnyH_take (i := 0) (oi := { dst := some 4, op := Go.Op.load 71 (Go.Operand.tmp 2), type := 71, pos := "pace.go:28", after := #[], guard := none }) rfl (by kernel_rfl) (by kernel_rfl) (by kernel_rfl) (fun _ _ _ h => h) (yl_fig (by rfl) _ (by rfl) (by rfl) (fun V h => h.1)) hHeld ?_
  try simp only [Act.put, List.setIfInBounds_toArray, List.set_cons_zero, List.set_cons_succ]
  refine wpAnyH_take (i := 1) (oi := { dst := some 5, op := Go.Op.load 3 (Go.Operand.tmp 1), type := 3, pos := "pace.go:28", after := #[], guard := none }) (v := ?_) rfl (by kernel_rfl) (by kernel_rfl) (by kernel_rfl) (fun _ _ _ h => h) (Or.inl ⟨by rfl, ?_⟩) hHeld ?_
  rotate_left
  · (intro wq hSw; (try dsimp only at hSw); go_simp; try (with_reducible rfl))
  try simp only [Act.put, List.setIfInBounds_toArray, List.set_cons_zero, List.set_cons_succ]
  refine wpAnyH_ready (rs := [2]) (by kernel_rfl) (by simp) ?_
  refine AllReadyH.cons (o := { dst := some 6, op := Go.Op.call { callee := Go.Callee.value (Go.Operand.func 61), args := #[Go.Operand.tmp 5], argTypes := #[3] }, type := 63, pos := "pace.go:28", after := #[{ on := 1, ground := Go.Ground.data }], guard := none }) rfl (fun K hK => ?_) AllReadyH.nil
  go_simp
  refine (countedB _ _).mono ?_
  rintro e w9 ⟨rfl, hb9⟩
  try dsimp only
  refine hK.out _ _ ?_ (fun hHeld => ?_)
  · exact Sx.mk hL0 hz hx0 ((Sx.below hHeld).trans (hb9.mono (Sx.below hHeld).size))
  clear hK K
  try simp only [Act.put, List.setIfInBounds_toArray, List.set_cons_zero, List.set_cons_succ]
  refine wpAnyH_ready (rs := [3]) (by kernel_rfl) (by simp) ?_
  refine AllReadyH.cons (o := { dst := some 7, op := Go.Op.call { callee := Go.Callee.value (Go.Operand.func 60), args := #[Go.Operand.tmp 4, Go.Operand.tmp 6], argTypes := #[71, 63] }, type := 63, pos := "pace.go:28", after := #[{ on := 0, ground := Go.Ground.data }, { on := 2, ground := Go.Ground.data }, { on := 2, ground := Go.Ground.chain }], guard := none }) rfl (fun K hK => ?_) AllReadyH.nil
  go_simp
  refine (tf_any c HC.out HR.out _ (max_nn _) (max_r HX.out) _).mono ?_
  rintro e w9 ⟨rfl, hb9⟩
  try dsimp only
  refine hK.out _ _ ?_ (fun hHeld => ?_)
  · exact Sx.mk hL0 hz hx0 ((Sx.below hHeld).trans (hb9.mono (Sx.below hHeld).size))
  clear hK K
  try simp only [Act.put, List.setIfInBounds_toArray, List.set_cons_zero, List.set_cons_succ]
  refine wpAnyH_take (i := 4) (oi := { dst := some 3, op := Go.Op.assign (Go.Operand.tmp 7), type := 63, pos := "pace.go:28", after := #[{ on := 3, ground := Go.Ground.data }, { on := 3, ground := Go.Ground.chain }, { on := 0, ground := Go.Ground.phase }, { on := 1, ground := Go.Ground.phase }, { on := 2, ground := Go.Ground.phase }, { on := 3, ground := Go.Ground.phase }], guard := none }) (v := ?_) rfl (by kernel_rfl) (by kernel_rfl) (by kernel_rfl) (fun _ _ _ h => h) (Or.inl ⟨by rfl, ?_⟩) hHeld ?_
  rotate_left
  · (intro wq hSw; (try dsimp only at hSw); go_simp; try (with_reducible rfl))
  try simp only [Act.put, List.setIfInBounds_toArray, List.set_cons_zero, List.set_cons_succ]
  refine wpAnyH_done (by kernel_rfl) ?_ _
  have HBZ := hid (Sx.below hHeld)
  clear hHeld
  go_wp2
  go_ret
  exact ⟨rfl, HB0.out.trans (HBZ.out.mono HB0.out.size)⟩

set_option maxHeartbeats 2000000 in
theorem tcC_any (c : Cf) (hc : RC c) (h : Right c) (b : Nat) (x : Int) (hxr : R64 x) (w : World) (hx : w.cell? ⟨b, 0, none⟩ = some (.int .i64 x)) :
    Calls Try.prog 63 #[.agg (figA c), .pointer (some ⟨b, 0, none⟩)] w fun e w' => e = .returned (.int .i64 (ptc c (max x 0))) ∧ Below w.heap.size w w' := by
  have HC := hid hc
  have HR := hid h
  have HX := hid hxr
  have hbz := World.block_lt_of_cell? w _ hx
  clear hc h hxr
  have hL0 := lf_new w c 71
  have hz : w.heap.size < (w.alloc (.cells (figA c) 71)).heap.size := by simp
  have HB0 : Hid (Below w.heap.size w (w.alloc (.cells (figA c) 71))) := (Below.refl _ _).alloc (Nat.le_refl _) _
  have hx0 : (w.alloc (.cells (figA c) 71)).cell? ⟨b, 0, none⟩ = some (.int .i64 x) := (HB0.out.cell (p := ⟨b, 0, none⟩) hbz).trans hx
  go_enter Try.func63, Try.ntmps63
  go_wp2
  generalize (w.alloc (.cells (figA c) 71)) = W at *
  refine wp_region_held_drew (S := (fun V => Lf V w.heap.size c ∧ V.cell? ⟨b, 0, none⟩ = some (.int .i64 x) ∧ Below W.heap.size W V)) (by kernel_rfl) ?_ (fun hHeld => ?_)
  · exact Sx.mk hL0 hz hx0 (Below.refl _ _).drew
  refine wpAnyH_take (i := 0) (oi := { dst := some 4, op := Go.Op.load 71 (Go.Operand.tmp 2), type := 71, pos := "pace.go:32", after := #[], guard := none }) rfl (by kernel_rfl) (by kernel_rfl) (by kernel_rfl) (fun _ _ _ h => h) (yl_fig (by rfl) _ (by rfl) (by rfl) (fun V h => h.1)) hHeld ?_
  try simp only [Act.put, List.setIfInBounds_toArray, List.set_cons_zero, List.set_cons_succ]
  refine wpAnyH_take (i := 1) (oi := { dst := some 5, op := Go.Op.load 3 (Go.Operand.tmp 1), type := 3, pos := "pace.go:32", after := #[], guard := none }) (v := ?_) rfl (by kernel_rfl) (by kernel_rfl) (by kernel_rfl) (fun _ _ _ h => h) (Or.inl ⟨by rfl, ?_⟩) hHeld ?_
  rotate_left
  · (intro wq hSw; (try dsimp only at hSw); go_simp; try (with_reducible rfl))
  try simp only [Act.put, List.setIfInBounds_toArray, List.set_cons_zero, List.set_cons_succ]
  refine wpAnyH_ready (rs := [2]) (by kernel_rfl) (by simp) ?_
  refine AllReadyH.cons (o := { dst := some 6, op := Go.Op.call { callee := Go.Callee.value (Go.Operand.func 61), args := #[Go.Operand.tmp 5], argTypes := #[3] }, type := 63, pos := "pace.go:32", after := #[{ on := 1, ground := Go.Ground.data }], guard := none }) rfl (fun K hK => ?_) AllReadyH.nil
  go_simp
  refine (countedB _ _).mono ?_
  rintro e w9 ⟨rfl, hb9⟩
  try dsimp only
  refine hK.out _ _ ?_ (fun hHeld => ?_)
  · exact Sx.mk hL0 hz hx0 ((Sx.below hHeld).trans (hb9.mono (Sx.below hHeld).size))
  clear hK K
  try simp only [Act.put, List.setIfInBounds_toArray, List.set_cons_zero, List.set_cons_succ]
  refine wpAnyH_ready (rs := [3]) (by kernel_rfl) (by simp) ?_
  refine AllReadyH.cons (o := { dst := some 7, op := Go.Op.call { callee := Go.Callee.value (Go.Operand.func 64), args := #[Go.Operand.tmp 4, Go.Operand.tmp 6], argTypes := #[71, 63] }, type := 63, pos := "pace.go:32", after := #[{ on := 0, ground := Go.Ground.data }, { on := 2, ground := Go.Ground.data }, { on := 2, ground := Go.Ground.chain }], guard := none }) rfl (fun K hK => ?_) AllReadyH.nil
  go_simp
  refine (tc_any c HC.out HR.out _ (max_nn _) (max_r HX.out) _).mono ?_
  rintro e w9 ⟨rfl, hb9⟩
  try dsimp only
  refine hK.out _ _ ?_ (fun hHeld => ?_)
  · exact Sx.mk hL0 hz hx0 ((Sx.below hHeld).trans (hb9.mono (Sx.below hHeld).size))
  clear hK K
  try simp only [Act.put, List.setIfInBounds_toArray, List.set_cons_zero, List.set_cons_succ]
  refine wpAnyH_take (i := 4) (oi := { dst := some 3, op := Go.Op.assign (Go.Operand.tmp 7), type := 63, pos := "pace.go:32", after := #[{ on := 3, ground := Go.Ground.data }, { on := 3, ground := Go.Ground.chain }, { on := 0, ground := Go.Ground.phase }, { on := 1, ground := Go.Ground.phase }, { on := 2, ground := Go.Ground.phase }, { on := 3, ground := Go.Ground.phase }], guard := none }) (v := ?_) rfl (by kernel_rfl) (by kernel_rfl) (by kernel_rfl) (fun _ _ _ h => h) (Or.inl ⟨by rfl, ?_⟩) hHeld ?_
  rotate_left
  · (intro wq hSw; (try dsimp only at hSw); go_simp; try (with_reducible rfl))
  try simp only [Act.put, List.setIfInBounds_toArray, List.set_cons_zero, List.set_cons_succ]
  refine wpAnyH_done (by kernel_rfl) ?_ _
  have HBZ := hid (Sx.below hHeld)
  clear hHeld
  go_wp2
  go_ret
  exact ⟨rfl, HB0.out.trans (HBZ.out.mono HB0.out.size)⟩

set_option maxHeartbeats 2000000 in
theorem b1C_any (c : Cf) (hc : RC c) (h : Right c) (b : Nat) (x : Int) (hxr : R64 x) (w : World) (hx : w.cell? ⟨b, 0, none⟩ = some (.int .i64 x)) :
    Calls Try.prog 66 #[.agg (figA c), .pointer (some ⟨b, 0, none⟩)] w fun e w' => e = .returned (.int .i64 (pb1 c (max x 0))) ∧ Below w.heap.size w w' := by
  have HC := hid hc
  have HR := hid h
  have HX := hid hxr
  have hbz := World.block_lt_of_cell? w _ hx
  clear hc h hxr
  have hL0 := lf_new w c 71
  have hz : w.heap.size < (w.alloc (.cells (figA c) 71)).heap.size := by simp
  have HB0 : Hid (Below w.heap.size w (w.alloc (.cells (figA c) 71))) := (Below.refl _ _).alloc (Nat.le_refl _) _
  have hx0 : (w.alloc (.cells (figA c) 71)).cell? ⟨b, 0, none⟩ = some (.int .i64 x) := (HB0.out.cell (p := ⟨b, 0, none⟩) hbz).trans hx
  go_enter Try.func66, Try.ntmps66
  go_wp2
  generalize (w.alloc (.cells (figA c) 71)) = W at *
  refine wp_region_held_drew (S := (fun V => Lf V w.heap.size c ∧ V.cell? ⟨b, 0, none⟩ = some (.int .i64 x) ∧ Below W.heap.size W V)) (by kernel_rfl) ?_ (fun hHeld => ?_)
  · exact Sx.mk hL0 hz hx0 (Below.refl _ _).drew
  refine wpAnyH_take (i := 0) (oi := { dst := some 4, op := Go.Op.load 71 (Go.Operand.tmp 2), type := 71, pos := "pace.go:37", after := #[], guard := none }) rfl (by kernel_rfl) (by kernel_rfl) (by kernel_rfl) (fun _ _ _ h => h) (yl_fig (by rfl) _ (by rfl) (by rfl) (fun V h => h.1)) hHeld ?_
  try simp only [Act.put, List.setIfInBounds_toArray, List.set_cons_zero, List.set_cons_succ]
  refine wpAnyH_take (i := 1) (oi := { dst := some 5, op := Go.Op.load 3 (Go.Operand.tmp 1), type := 3, pos := "pace.go:37", after := #[], guard := none }) (v := ?_) rfl (by kernel_rfl) (by kernel_rfl) (by kernel_rfl) (fun _ _ _ h => h) (Or.inl ⟨by rfl, ?_⟩) hHeld ?_
  rotate_left
  · (intro wq hSw; (try dsimp only at hSw); go_simp; try (with_reducible rfl))
  try simp only [Act.put, List.setIfInBounds_toArray, List.set_cons_zero, List.set_cons_succ]
  refine wpAnyH_ready (rs := [2]) (by kernel_rfl) (by simp) ?_
  refine AllReadyH.cons (o := { dst := some 6, op := Go.Op.call { callee := Go.Callee.value (Go.Operand.func 61), args := #[Go.Operand.tmp 5], argTypes := #[3] }, type := 63, pos := "pace.go:37", after := #[{ on := 1, ground := Go.Ground.data }], guard := none }) rfl (fun K hK => ?_) AllReadyH.nil
  go_simp
  refine (countedB _ _).mono ?_
  rintro e w9 ⟨rfl, hb9⟩
  try dsimp only
  refine hK.out _ _ ?_ (fun hHeld => ?_)
  · exact Sx.mk hL0 hz hx0 ((Sx.below hHeld).trans (hb9.mono (Sx.below hHeld).size))
  clear hK K
  try simp only [Act.put, List.setIfInBounds_toArray, List.set_cons_zero, List.set_cons_succ]
  refine wpAnyH_ready (rs := [3]) (by kernel_rfl) (by simp) ?_
  refine AllReadyH.cons (o := { dst := some 7, op := Go.Op.call { callee := Go.Callee.value (Go.Operand.func 67), args := #[Go.Operand.tmp 4, Go.Operand.tmp 6], argTypes := #[71, 63] }, type := 63, pos := "pace.go:37", after := #[{ on := 0, ground := Go.Ground.data }, { on := 2, ground := Go.Ground.data }, { on := 2, ground := Go.Ground.chain }], guard := none }) rfl (fun K hK => ?_) AllReadyH.nil
  go_simp
  refine (b1_any c HC.out HR.out _ (max_nn _) (max_r HX.out) _).mono ?_
  rintro e w9 ⟨rfl, hb9⟩
  try dsimp only
  refine hK.out _ _ ?_ (fun hHeld => ?_)
  · exact Sx.mk hL0 hz hx0 ((Sx.below hHeld).trans (hb9.mono (Sx.below hHeld).size))
  clear hK K
  try simp only [Act.put, List.setIfInBounds_toArray, List.set_cons_zero, List.set_cons_succ]
  refine wpAnyH_take (i := 4) (oi := { dst := some 3, op := Go.Op.assign (Go.Operand.tmp 7), type := 63, pos := "pace.go:37", after := #[{ on := 3, ground := Go.Ground.data }, { on := 3, ground := Go.Ground.chain }, { on := 0, ground := Go.Ground.phase }, { on := 1, ground := Go.Ground.phase }, { on := 2, ground := Go.Ground.phase }, { on := 3, ground := Go.Ground.phase }], guard := none }) (v := ?_) rfl (by kernel_rfl) (by kernel_rfl) (by kernel_rfl) (fun _ _ _ h => h) (Or.inl ⟨by rfl, ?_⟩) hHeld ?_
  rotate_left
  · (intro wq hSw; (try dsimp only at hSw); go_simp; try (with_reducible rfl))
  try simp only [Act.put, List.setIfInBounds_toArray, List.set_cons_zero, List.set_cons_succ]
  refine wpAnyH_done (by kernel_rfl) ?_ _
  have HBZ := hid (Sx.below hHeld)
  clear hHeld
  go_wp2
  go_ret
  exact ⟨rfl, HB0.out.trans (HBZ.out.mono HB0.out.size)⟩

set_option maxHeartbeats 2000000 in
theorem b2C_any (c : Cf) (hc : RC c) (h : Right c) (b : Nat) (x : Int) (hxr : R64 x) (w : World) (hx : w.cell? ⟨b, 0, none⟩ = some (.int .i64 x)) :
    Calls Try.prog 69 #[.agg (figA c), .pointer (some ⟨b, 0, none⟩)] w fun e w' => e = .returned (.int .i64 (pb2 c (max x 0))) ∧ Below w.heap.size w w' := by
  have HC := hid hc
  have HR := hid h
  have HX := hid hxr
  have hbz := World.block_lt_of_cell? w _ hx
  clear hc h hxr
  have hL0 := lf_new w c 71
  have hz : w.heap.size < (w.alloc (.cells (figA c) 71)).heap.size := by simp
  have HB0 : Hid (Below w.heap.size w (w.alloc (.cells (figA c) 71))) := (Below.refl _ _).alloc (Nat.le_refl _) _
  have hx0 : (w.alloc (.cells (figA c) 71)).cell? ⟨b, 0, none⟩ = some (.int .i64 x) := (HB0.out.cell (p := ⟨b, 0, none⟩) hbz).trans hx
  go_enter Try.func69, Try.ntmps69
  go_wp2
  generalize (w.alloc (.cells (figA c) 71)) = W at *
  refine wp_region_held_drew (S := (fun V => Lf V w.heap.size c ∧ V.cell? ⟨b, 0, none⟩ = some (.int .i64 x) ∧ Below W.heap.size W V)) (by kernel_rfl) ?_ (fun hHeld => ?_)
  · exact Sx.mk hL0 hz hx0 (Below.refl _ _).drew
  refine wpAnyH_take (i := 0) (oi := { dst := some 4, op := Go.Op.load 71 (Go.Operand.tmp 2), type := 71, pos := "pace.go:41", after := #[], guard := none }) rfl (by kernel_rfl) (by kernel_rfl) (by kernel_rfl) (fun _ _ _ h => h) (yl_fig (by rfl) _ (by rfl) (by rfl) (fun V h => h.1)) hHeld ?_
  try simp only [Act.put, List.setIfInBounds_toArray, List.set_cons_zero, List.set_cons_succ]
  refine wpAnyH_take (i := 1) (oi := { dst := some 5, op := Go.Op.load 3 (Go.Operand.tmp 1), type := 3, pos := "pace.go:41", after := #[], guard := none }) (v := ?_) rfl (by kernel_rfl) (by kernel_rfl) (by kernel_rfl) (fun _ _ _ h => h) (Or.inl ⟨by rfl, ?_⟩) hHeld ?_
  rotate_left
  · (intro wq hSw; (try dsimp only at hSw); go_simp; try (with_reducible rfl))
  try simp only [Act.put, List.setIfInBounds_toArray, List.set_cons_zero, List.set_cons_succ]
  refine wpAnyH_ready (rs := [2]) (by kernel_rfl) (by simp) ?_
  refine AllReadyH.cons (o := { dst := some 6, op := Go.Op.call { callee := Go.Callee.value (Go.Operand.func 61), args := #[Go.Operand.tmp 5], argTypes := #[3] }, type := 63, pos := "pace.go:41", after := #[{ on := 1, ground := Go.Ground.data }], guard := none }) rfl (fun K hK => ?_) AllReadyH.nil
  go_simp
  refine (countedB _ _).mono ?_
  rintro e w9 ⟨rfl, hb9⟩
  try dsimp only
  refine hK.out _ _ ?_ (fun hHeld => ?_)
  · exact Sx.mk hL0 hz hx0 ((Sx.below hHeld).trans (hb9.mono (Sx.below hHeld).size))
  clear hK K
  try simp only [Act.put, List.setIfInBounds_toArray, List.set_cons_zero, List.set_cons_succ]
  refine wpAnyH_ready (rs := [3]) (by kernel_rfl) (by simp) ?_
  refine AllReadyH.cons (o := { dst := some 7, op := Go.Op.call { callee := Go.Callee.value (Go.Operand.func 70), args := #[Go.Operand.tmp 4, Go.Operand.tmp 6], argTypes := #[71, 63] }, type := 63, pos := "pace.go:41", after := #[{ on := 0, ground := Go.Ground.data }, { on := 2, ground := Go.Ground.data }, { on := 2, ground := Go.Ground.chain }], guard := none }) rfl (fun K hK => ?_) AllReadyH.nil
  go_simp
  refine (b2_any c HC.out HR.out _ (max_nn _) (max_r HX.out) _).mono ?_
  rintro e w9 ⟨rfl, hb9⟩
  try dsimp only
  refine hK.out _ _ ?_ (fun hHeld => ?_)
  · exact Sx.mk hL0 hz hx0 ((Sx.below hHeld).trans (hb9.mono (Sx.below hHeld).size))
  clear hK K
  try simp only [Act.put, List.setIfInBounds_toArray, List.set_cons_zero, List.set_cons_succ]
  refine wpAnyH_take (i := 4) (oi := { dst := some 3, op := Go.Op.assign (Go.Operand.tmp 7), type := 63, pos := "pace.go:41", after := #[{ on := 3, ground := Go.Ground.data }, { on := 3, ground := Go.Ground.chain }, { on := 0, ground := Go.Ground.phase }, { on := 1, ground := Go.Ground.phase }, { on := 2, ground := Go.Ground.phase }, { on := 3, ground := Go.Ground.phase }], guard := none }) (v := ?_) rfl (by kernel_rfl) (by kernel_rfl) (by kernel_rfl) (fun _ _ _ h => h) (Or.inl ⟨by rfl, ?_⟩) hHeld ?_
  rotate_left
  · (intro wq hSw; (try dsimp only at hSw); go_simp; try (with_reducible rfl))
  try simp only [Act.put, List.setIfInBounds_toArray, List.set_cons_zero, List.set_cons_succ]
  refine wpAnyH_done (by kernel_rfl) ?_ _
  have HBZ := hid (Sx.below hHeld)
  clear hHeld
  go_wp2
  go_ret
  exact ⟨rfl, HB0.out.trans (HBZ.out.mono HB0.out.size)⟩

set_option maxHeartbeats 2000000 in
theorem reckoned_limit (c : Cf) (hc : RC c) (b : Nat) (x : Int) (hxr : R64 x) (hb : bad c = none) (w : World) (hx : w.cell? ⟨b, 0, none⟩ = some (.int .i64 x)) :
    Calls Try.prog 51 #[.agg (cfgA c), .func (.func 52) #[] #[.pointer (some ⟨b, 0, none⟩)]] w fun e w' => e = .returned (.int .i64 (plim c x)) ∧ Below w.heap.size w w' := by
  have HC := hid hc
  have HR := hid (right_of hb)
  have hbz := World.block_lt_of_cell? w _ hx
  clear hc
  have hL0 := lc_new w c 23
  have hz0 : w.heap.size < (w.alloc (.cells (cfgA c) 23)).heap.size := by simp
  have HB0 : Hid (Below w.heap.size w (w.alloc (.cells (cfgA c) 23))) := (Below.refl _ _).alloc (Nat.le_refl _) _
  have he : ckE c = 0 := (ck_none hb).2
  have HK : ∀ W, Calls Try.prog 10 #[.agg (cfgA c)] W fun e w' => e = .returned (.tuple #[.int .i64 (ckN c), .int .i64 0]) ∧ Below W.heap.size W w' := fun W => by have := check_any c HC.out W; rwa [he] at this
  clear hb he
  go_enter Try.func51, Try.ntmps51
  go_wp2_with (first | (refine wpList_cfg (by rfl) _ (by rfl) (by rfl) hL0 ?_) | (revert HB1; intro HB1; refine wpList_cfg (by rfl) _ (by rfl) (by rfl) hL1 ?_) | (go_at_call 10; go_loud (refine (HK _).mono ?_; rintro e w1 ⟨rfl, hb1⟩; have HB1 : Hid (Below w.heap.size w w1) := HB0.out.trans (hb1.mono HB0.out.size); have hL1 := hL0.keep hz0 hb1; clear hb1)) | (go_at_call 84; go_loud (refine (figuresOf_any c _).mono ?_; rintro e w2 ⟨rfl, hb2⟩; have HB2 : Hid (Below w.heap.size w w2) := HB1.out.trans (hb2.mono HB1.out.size); clear hb2)) | (go_at_call 52; go_loud (refine (limitC_any c HC.out HR.out b x hxr _ ((HB2.out.cell (p := ⟨b, 0, none⟩) hbz).trans hx)).mono ?_; rintro e w3 ⟨rfl, hb3⟩; have HB3 : Hid (Below w.heap.size w w3) := HB2.out.trans (hb3.mono HB2.out.size); clear hb3)))
  go_ret
  exact ⟨rfl, HB3.out⟩

set_option maxHeartbeats 2000000 in
theorem reckoned_tf (c : Cf) (hc : RC c) (b : Nat) (x : Int) (hxr : R64 x) (hb : bad c = none) (w : World) (hx : w.cell? ⟨b, 0, none⟩ = some (.int .i64 x)) :
    Calls Try.prog 51 #[.agg (cfgA c), .func (.func 59) #[] #[.pointer (some ⟨b, 0, none⟩)]] w fun e w' => e = .returned (.int .i64 (ptf c (max x 0))) ∧ Below w.heap.size w w' := by
  have HC := hid hc
  have HR := hid (right_of hb)
  have hbz := World.block_lt_of_cell? w _ hx
  clear hc
  have hL0 := lc_new w c 23
  have hz0 : w.heap.size < (w.alloc (.cells (cfgA c) 23)).heap.size := by simp
  have HB0 : Hid (Below w.heap.size w (w.alloc (.cells (cfgA c) 23))) := (Below.refl _ _).alloc (Nat.le_refl _) _
  have he : ckE c = 0 := (ck_none hb).2
  have HK : ∀ W, Calls Try.prog 10 #[.agg (cfgA c)] W fun e w' => e = .returned (.tuple #[.int .i64 (ckN c), .int .i64 0]) ∧ Below W.heap.size W w' := fun W => by have := check_any c HC.out W; rwa [he] at this
  clear hb he
  go_enter Try.func51, Try.ntmps51
  go_wp2_with (first | (refine wpList_cfg (by rfl) _ (by rfl) (by rfl) hL0 ?_) | (revert HB1; intro HB1; refine wpList_cfg (by rfl) _ (by rfl) (by rfl) hL1 ?_) | (go_at_call 10; go_loud (refine (HK _).mono ?_; rintro e w1 ⟨rfl, hb1⟩; have HB1 : Hid (Below w.heap.size w w1) := HB0.out.trans (hb1.mono HB0.out.size); have hL1 := hL0.keep hz0 hb1; clear hb1)) | (go_at_call 84; go_loud (refine (figuresOf_any c _).mono ?_; rintro e w2 ⟨rfl, hb2⟩; have HB2 : Hid (Below w.heap.size w w2) := HB1.out.trans (hb2.mono HB1.out.size); clear hb2)) | (go_at_call 59; go_loud (refine (tfC_any c HC.out HR.out b x hxr _ ((HB2.out.cell (p := ⟨b, 0, none⟩) hbz).trans hx)).mono ?_; rintro e w3 ⟨rfl, hb3⟩; have HB3 : Hid (Below w.heap.size w w3) := HB2.out.trans (hb3.mono HB2.out.size); clear hb3)))
  go_ret
  exact ⟨rfl, HB3.out⟩

set_option maxHeartbeats 2000000 in
theorem reckoned_tc (c : Cf) (hc : RC c) (b : Nat) (x : Int) (hxr : R64 x) (hb : bad c = none) (w : World) (hx : w.cell? ⟨b, 0, none⟩ = some (.int .i64 x)) :
    Calls Try.prog 51 #[.agg (cfgA c), .func (.func 63) #[] #[.pointer (some ⟨b, 0, none⟩)]] w fun e w' => e = .returned (.int .i64 (ptc c (max x 0))) ∧ Below w.heap.size w w' := by
  have HC := hid hc
  have HR := hid (right_of hb)
  have hbz := World.block_lt_of_cell? w _ hx
  clear hc
  have hL0 := lc_new w c 23
  have hz0 : w.heap.size < (w.alloc (.cells (cfgA c) 23)).heap.size := by simp
  have HB0 : Hid (Below w.heap.size w (w.alloc (.cells (cfgA c) 23))) := (Below.refl _ _).alloc (Nat.le_refl _) _
  have he : ckE c = 0 := (ck_none hb).2
  have HK : ∀ W, Calls Try.prog 10 #[.agg (cfgA c)] W fun e w' => e = .returned (.tuple #[.int .i64 (ckN c), .int .i64 0]) ∧ Below W.heap.size W w' := fun W => by have := check_any c HC.out W; rwa [he] at this
  clear hb he
  go_enter Try.func51, Try.ntmps51
  go_wp2_with (first | (refine wpList_cfg (by rfl) _ (by rfl) (by rfl) hL0 ?_) | (revert HB1; intro HB1; refine wpList_cfg (by rfl) _ (by rfl) (by rfl) hL1 ?_) | (go_at_call 10; go_loud (refine (HK _).mono ?_; rintro e w1 ⟨rfl, hb1⟩; have HB1 : Hid (Below w.heap.size w w1) := HB0.out.trans (hb1.mono HB0.out.size); have hL1 := hL0.keep hz0 hb1; clear hb1)) | (go_at_call 84; go_loud (refine (figuresOf_any c _).mono ?_; rintro e w2 ⟨rfl, hb2⟩; have HB2 : Hid (Below w.heap.size w w2) := HB1.out.trans (hb2.mono HB1.out.size); clear hb2)) | (go_at_call 63; go_loud (refine (tcC_any c HC.out HR.out b x hxr _ ((HB2.out.cell (p := ⟨b, 0, none⟩) hbz).trans hx)).mono ?_; rintro e w3 ⟨rfl, hb3⟩; have HB3 : Hid (Below w.heap.size w w3) := HB2.out.trans (hb3.mono HB2.out.size); clear hb3)))
  go_ret
  exact ⟨rfl, HB3.out⟩

set_option maxHeartbeats 2000000 in
theorem reckoned_b1 (c : Cf) (hc : RC c) (b : Nat) (x : Int) (hxr : R64 x) (hb : bad c = none) (w : World) (hx : w.cell? ⟨b, 0, none⟩ = some (.int .i64 x)) :
    Calls Try.prog 51 #[.agg (cfgA c), .func (.func 66) #[] #[.pointer (some ⟨b, 0, none⟩)]] w fun e w' => e = .returned (.int .i64 (pb1 c (max x 0))) ∧ Below w.heap.size w w' := by
  have HC := hid hc
  have HR := hid (right_of hb)
  have hbz := World.block_lt_of_cell? w _ hx
  clear hc
  have hL0 := lc_new w c 23
  have hz0 : w.heap.size < (w.alloc (.cells (cfgA c) 23)).heap.size := by simp
  have HB0 : Hid (Below w.heap.size w (w.alloc (.cells (cfgA c) 23))) := (Below.refl _ _).alloc (Nat.le_refl _) _
  have he : ckE c = 0 := (ck_none hb).2
  have HK : ∀ W, Calls Try.prog 10 #[.agg (cfgA c)] W fun e w' => e = .returned (.tuple #[.int .i64 (ckN c), .int .i64 0]) ∧ Below W.heap.size W w' := fun W => by have := check_any c HC.out W; rwa [he] at this
  clear hb he
  go_enter Try.func51, Try.ntmps51
  go_wp2_with (first | (refine wpList_cfg (by rfl) _ (by rfl) (by rfl) hL0 ?_) | (revert HB1; intro HB1; refine wpList_cfg (by rfl) _ (by rfl) (by rfl) hL1 ?_) | (go_at_call 10; go_loud (refine (HK _).mono ?_; rintro e w1 ⟨rfl, hb1⟩; have HB1 : Hid (Below w.heap.size w w1) := HB0.out.trans (hb1.mono HB0.out.size); have hL1 := hL0.keep hz0 hb1; clear hb1)) | (go_at_call 84; go_loud (refine (figuresOf_any c _).mono ?_; rintro e w2 ⟨rfl, hb2⟩; have HB2 : Hid (Below w.heap.size w w2) := HB1.out.trans (hb2.mono HB1.out.size); clear hb2)) | (go_at_call 66; go_loud (refine (b1C_any c HC.out HR.out b x hxr _ ((HB2.out.cell (p := ⟨b, 0, none⟩) hbz).trans hx)).mono ?_; rintro e w3 ⟨rfl, hb3⟩; have HB3 : Hid (Below w.heap.size w w3) := HB2.out.trans (hb3.mono HB2.out.size); clear hb3)))
  go_ret
  exact ⟨rfl, HB3.out⟩

set_option maxHeartbeats 2000000 in
theorem reckoned_b2 (c : Cf) (hc : RC c) (b : Nat) (x : Int) (hxr : R64 x) (hb : bad c = none) (w : World) (hx : w.cell? ⟨b, 0, none⟩ = some (.int .i64 x)) :
    Calls Try.prog 51 #[.agg (cfgA c), .func (.func 69) #[] #[.pointer (some ⟨b, 0, none⟩)]] w fun e w' => e = .returned (.int .i64 (pb2 c (max x 0))) ∧ Below w.heap.size w w' := by
  have HC := hid hc
  have HR := hid (right_of hb)
  have hbz := World.block_lt_of_cell? w _ hx
  clear hc
  have hL0 := lc_new w c 23
  have hz0 : w.heap.size < (w.alloc (.cells (cfgA c) 23)).heap.size := by simp
  have HB0 : Hid (Below w.heap.size w (w.alloc (.cells (cfgA c) 23))) := (Below.refl _ _).alloc (Nat.le_refl _) _
  have he : ckE c = 0 := (ck_none hb).2
  have HK : ∀ W, Calls Try.prog 10 #[.agg (cfgA c)] W fun e w' => e = .returned (.tuple #[.int .i64 (ckN c), .int .i64 0]) ∧ Below W.heap.size W w' := fun W => by have := check_any c HC.out W; rwa [he] at this
  clear hb he
  go_enter Try.func51, Try.ntmps51
  go_wp2_with (first | (refine wpList_cfg (by rfl) _ (by rfl) (by rfl) hL0 ?_) | (revert HB1; intro HB1; refine wpList_cfg (by rfl) _ (by rfl) (by rfl) hL1 ?_) | (go_at_call 10; go_loud (refine (HK _).mono ?_; rintro e w1 ⟨rfl, hb1⟩; have HB1 : Hid (Below w.heap.size w w1) := HB0.out.trans (hb1.mono HB0.out.size); have hL1 := hL0.keep hz0 hb1; clear hb1)) | (go_at_call 84; go_loud (refine (figuresOf_any c _).mono ?_; rintro e w2 ⟨rfl, hb2⟩; have HB2 : Hid (Below w.heap.size w w2) := HB1.out.trans (hb2.mono HB1.out.size); clear hb2)) | (go_at_call 69; go_loud (refine (b2C_any c HC.out HR.out b x hxr _ ((HB2.out.cell (p := ⟨b, 0, none⟩) hbz).trans hx)).mono ?_; rintro e w3 ⟨rfl, hb3⟩; have HB3 : Hid (Below w.heap.size w w3) := HB2.out.trans (hb3.mono HB2.out.size); clear hb3)))
  go_ret
  exact ⟨rfl, HB3.out⟩

end Pcm
end Go.Proofs.Ytebfokjgeknciaa
