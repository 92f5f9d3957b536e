import Derived.Test.YtebfokjgeknciaaPcL
namespace Go.Proofs.Ytebfokjgeknciaa
namespace Pcm
open Go.RowKit Laws Irw
set_option linter.unusedVariables false
set_option linter.unusedSimpArgs false
set_option maxRecDepth 20000

def Std (W : World) (B : Nat) (c : Cf) (V : World) : Prop := Lf V B c ∧ Below W.heap.size W V
theorem Std.mk {W V : World} {B : Nat} {c : Cf} (h : Lf W B c) (hz : B < W.heap.size) (hb : Below W.heap.size W V) : Std W B c V :=
  ⟨h.keep hz hb, hb⟩
theorem Std.below {W V : World} {B : Nat} {c : Cf} (h : Std W B c V) : Below W.heap.size W V := h.2

set_option maxHeartbeats 8000000 in
theorem td_any (c : Cf) (hc : RC c) (h : Right c) (x : Int) (hx : 0 ≤ x) (hxr : R64 x) (w : World) :
    Calls Try.prog 89 #[.agg (figA c), .int .i64 x] w fun e w' => e = .returned (.int .i64 (ptd c x)) ∧ Below w.heap.size w w' := by
  have HC := hid hc
  have HR := hid h
  have HX := hid hxr
  have HX0 := hid hx
  have HD := hid hxr
  unfold R64 at HD
  clear hc h
  have hL0 := lf_new w c 71
  go_enter Try.func89, Try.ntmps89
  go_wp2_with (first | (refine wpList_fig (by rfl) _ (by rfl) (by rfl) hL0 ?_) | (go_at_call 96; go_loud (refine (y_any c HC.out HR.out x HX0.out HX.out _).mono ?_; rintro e w1 ⟨rfl, hb1⟩; have HB1 := hid hb1; clear hb1)))
  have hz0 : w.heap.size < (w.alloc (.cells (figA c) 71)).heap.size := by simp
  have HB0 : Hid (Below w.heap.size w (w.alloc (.cells (figA c) 71))) := (Below.refl _ _).alloc (Nat.le_refl _) _
  have hF : Lf w1 w.heap.size c := hL0.keep hz0 HB1.out
  have HBW : Hid (Below w.heap.size w w1) := HB0.out.trans (HB1.out.mono HB0.out.size)
  have hz : w.heap.size < w1.heap.size := Nat.lt_of_lt_of_le hz0 HB1.out.size
  clear hL0 HB0 hz0 HB1
  generalize w1 = W at *
  refine wp_region_held_drew (S := (fun V => Lf V w.heap.size c ∧ Below W.heap.size W V)) (by kernel_rfl) ?_ (fun hHeld => ?_)
  · exact Std.mk hF hz (Below.refl _ _).drew
  refine wpAnyH_take (i := 0) (oi := { dst := some 9, op := Go.Op.load 71 (Go.Operand.tmp 2), type := 71, pos := "figures.go:97", after := #[], guard := none }) rfl (by kernel_rfl) (by kernel_rfl) (by kernel_rfl) (fun _ _ _ h => h) (yl_fig (by rfl) _ (by rfl) (by rfl) (fun V h => h.1)) hHeld ?_
  try simp only [Act.put, List.setIfInBounds_toArray, List.set_cons_zero, List.set_cons_succ]
  refine wpAnyH_take (i := 1) (oi := { dst := some 10, op := Go.Op.move (Go.Operand.tmp 5), type := 63, pos := "figures.go:97", after := #[], guard := none }) (v := ?_) rfl (by kernel_rfl) (by kernel_rfl) (by kernel_rfl) (fun _ _ _ h => h) (Or.inl ⟨by rfl, ?_⟩) hHeld ?_
  rotate_left
  · (intro wq hSw; (try dsimp only at hSw); go_simp; try (with_reducible rfl))
  try simp only [Act.put, List.setIfInBounds_toArray, List.set_cons_zero, List.set_cons_succ]
  refine wpAnyH_take (i := 3) (oi := { dst := some 12, op := Go.Op.load 71 (Go.Operand.tmp 2), type := 71, pos := "figures.go:97", after := #[], guard := none }) rfl (by kernel_rfl) (by kernel_rfl) (by kernel_rfl) (fun _ _ _ h => h) (yl_fig (by rfl) _ (by rfl) (by rfl) (fun V h => h.1)) hHeld ?_
  try simp only [Act.put, List.setIfInBounds_toArray, List.set_cons_zero, List.set_cons_succ]
  refine wpAnyH_take (i := 4) (oi := { dst := some 13, op := Go.Op.move (Go.Operand.tmp 5), type := 63, pos := "figures.go:97", after := #[], guard := none }) (v := ?_) rfl (by kernel_rfl) (by kernel_rfl) (by kernel_rfl) (fun _ _ _ h => h) (Or.inl ⟨by rfl, ?_⟩) hHeld ?_
  rotate_left
  · (intro wq hSw; (try dsimp only at hSw); go_simp; try (with_reducible rfl))
  try simp only [Act.put, List.setIfInBounds_toArray, List.set_cons_zero, List.set_cons_succ]
  refine wpAnyH_take (i := 6) (oi := { dst := some 15, op := Go.Op.load 71 (Go.Operand.tmp 2), type := 71, pos := "figures.go:97", after := #[], guard := none }) rfl (by kernel_rfl) (by kernel_rfl) (by kernel_rfl) (fun _ _ _ h => h) (yl_fig (by rfl) _ (by rfl) (by rfl) (fun V h => h.1)) hHeld ?_
  try simp only [Act.put, List.setIfInBounds_toArray, List.set_cons_zero, List.set_cons_succ]
  refine wpAnyH_take (i := 7) (oi := { dst := some 16, op := Go.Op.load 71 (Go.Operand.tmp 2), type := 71, pos := "figures.go:97", after := #[], guard := none }) rfl (by kernel_rfl) (by kernel_rfl) (by kernel_rfl) (fun _ _ _ h => h) (yl_fig (by rfl) _ (by rfl) (by rfl) (fun V h => h.1)) hHeld ?_
  try simp only [Act.put, List.setIfInBounds_toArray, List.set_cons_zero, List.set_cons_succ]
  refine wpAnyH_take (i := 10) (oi := { dst := some 19, op := Go.Op.load 71 (Go.Operand.tmp 2), type := 71, pos := "figures.go:97", after := #[], guard := none }) rfl (by kernel_rfl) (by kernel_rfl) (by kernel_rfl) (fun _ _ _ h => h) (yl_fig (by rfl) _ (by rfl) (by rfl) (fun V h => h.1)) hHeld ?_
  try simp only [Act.put, List.setIfInBounds_toArray, List.set_cons_zero, List.set_cons_succ]
  refine wpAnyH_take (i := 11) (oi := { dst := some 20, op := Go.Op.load 71 (Go.Operand.tmp 2), type := 71, pos := "figures.go:97", after := #[], guard := none }) rfl (by kernel_rfl) (by kernel_rfl) (by kernel_rfl) (fun _ _ _ h => h) (yl_fig (by rfl) _ (by rfl) (by rfl) (fun V h => h.1)) hHeld ?_
  try simp only [Act.put, List.setIfInBounds_toArray, List.set_cons_zero, List.set_cons_succ]
  refine wpAnyH_ready (rs := [2]) (by kernel_rfl) (by simp) ?_
  refine AllReadyH.cons (o := { dst := some 11, op := Go.Op.call { callee := Go.Callee.value (Go.Operand.func 92), args := #[Go.Operand.tmp 9, Go.Operand.tmp 10], argTypes := #[71, 63] }, type := 63, pos := "figures.go:97", after := #[{ on := 0, ground := Go.Ground.data }, { on := 1, ground := Go.Ground.data }], guard := none }) rfl (fun K hK => ?_) AllReadyH.nil
  go_simp
  refine (entries_any c HC.out HR.out _ (py_nn HR.out HX0.out) (sadd_r _ _) _).mono ?_
  rintro e w9 ⟨rfl, hb9⟩
  try dsimp only
  refine hK.out _ _ ?_ (fun hHeld => ?_)
  · first | exact Std.mk hF hz ((Std.below hHeld).trans (hb9.mono (Std.below hHeld).size)) | exact Std.mk hF hz (((Std.below hHeld).alloc (Std.below hHeld).size _).trans (hb9.mono (by have := (Std.below hHeld).size; simp; omega)))
  clear hK K
  try simp only [Act.put, List.setIfInBounds_toArray, List.set_cons_zero, List.set_cons_succ]
  refine wpAnyH_ready (rs := [5]) (by kernel_rfl) (by simp) ?_
  refine AllReadyH.cons (o := { dst := some 14, op := Go.Op.call { callee := Go.Callee.value (Go.Operand.func 64), args := #[Go.Operand.tmp 12, Go.Operand.tmp 13], argTypes := #[71, 63] }, type := 63, pos := "figures.go:97", after := #[{ on := 3, ground := Go.Ground.data }, { on := 4, ground := Go.Ground.data }, { on := 2, ground := Go.Ground.chain }], guard := none }) rfl (fun K hK => ?_) AllReadyH.nil
  go_simp
  refine (tc_any c HC.out HR.out _ (py_nn HR.out HX0.out) (sadd_r _ _) _).mono ?_
  rintro e w9 ⟨rfl, hb9⟩
  try dsimp only
  refine hK.out _ _ ?_ (fun hHeld => ?_)
  · first | exact Std.mk hF hz ((Std.below hHeld).trans (hb9.mono (Std.below hHeld).size)) | exact Std.mk hF hz (((Std.below hHeld).alloc (Std.below hHeld).size _).trans (hb9.mono (by have := (Std.below hHeld).size; simp; omega)))
  clear hK K
  try simp only [Act.put, List.setIfInBounds_toArray, List.set_cons_zero, List.set_cons_succ]
  refine wpAnyH_ready (rs := [8]) (by kernel_rfl) (by simp) ?_
  refine AllReadyH.cons (o := { dst := some 17, op := Go.Op.call { callee := Go.Callee.value (Go.Operand.func 91), args := #[Go.Operand.tmp 16], argTypes := #[71] }, type := 63, pos := "figures.go:97", after := #[{ on := 7, ground := Go.Ground.data }, { on := 5, ground := Go.Ground.chain }], guard := none }) rfl (fun K hK => ?_) AllReadyH.nil
  go_simp
  refine (j_any c HC.out HR.out _).mono ?_
  rintro e w9 ⟨rfl, hb9⟩
  try dsimp only
  refine hK.out _ _ ?_ (fun hHeld => ?_)
  · first | exact Std.mk hF hz ((Std.below hHeld).trans (hb9.mono (Std.below hHeld).size)) | exact Std.mk hF hz (((Std.below hHeld).alloc (Std.below hHeld).size _).trans (hb9.mono (by have := (Std.below hHeld).size; simp; omega)))
  clear hK K
  try simp only [Act.put, List.setIfInBounds_toArray, List.set_cons_zero, List.set_cons_succ]
  refine wpAnyH_ready (rs := [9]) (by kernel_rfl) (by simp) ?_
  refine AllReadyH.cons (o := { dst := some 18, op := Go.Op.call { callee := Go.Callee.value (Go.Operand.func 64), args := #[Go.Operand.tmp 15, Go.Operand.tmp 17], argTypes := #[71, 63] }, type := 63, pos := "figures.go:97", after := #[{ on := 6, ground := Go.Ground.data }, { on := 8, ground := Go.Ground.data }, { on := 8, ground := Go.Ground.chain }], guard := none }) rfl (fun K hK => ?_) AllReadyH.nil
  go_simp
  refine (tc_any c HC.out HR.out _ (pj_nn HR.out) (smul_r _ _) _).mono ?_
  rintro e w9 ⟨rfl, hb9⟩
  try dsimp only
  refine hK.out _ _ ?_ (fun hHeld => ?_)
  · first | exact Std.mk hF hz ((Std.below hHeld).trans (hb9.mono (Std.below hHeld).size)) | exact Std.mk hF hz (((Std.below hHeld).alloc (Std.below hHeld).size _).trans (hb9.mono (by have := (Std.below hHeld).size; simp; omega)))
  clear hK K
  try simp only [Act.put, List.setIfInBounds_toArray, List.set_cons_zero, List.set_cons_succ]
  refine wpAnyH_ready (rs := [12]) (by kernel_rfl) (by simp) ?_
  refine AllReadyH.cons (o := { dst := some 21, op := Go.Op.call { callee := Go.Callee.value (Go.Operand.func 56), args := #[Go.Operand.tmp 20], argTypes := #[71] }, type := 63, pos := "figures.go:97", after := #[{ on := 11, ground := Go.Ground.data }, { on := 9, ground := Go.Ground.chain }], guard := none }) rfl (fun K hK => ?_) AllReadyH.nil
  go_simp
  refine (memCap_any c HC.out _).mono ?_
  rintro e w9 ⟨rfl, hb9⟩
  try dsimp only
  refine hK.out _ _ ?_ (fun hHeld => ?_)
  · first | exact Std.mk hF hz ((Std.below hHeld).trans (hb9.mono (Std.below hHeld).size)) | exact Std.mk hF hz (((Std.below hHeld).alloc (Std.below hHeld).size _).trans (hb9.mono (by have := (Std.below hHeld).size; simp; omega)))
  clear hK K
  try simp only [Act.put, List.setIfInBounds_toArray, List.set_cons_zero, List.set_cons_succ]
  refine wpAnyH_ready (rs := [13]) (by kernel_rfl) (by simp) ?_
  refine AllReadyH.cons (o := { dst := some 22, op := Go.Op.call { callee := Go.Callee.value (Go.Operand.func 60), args := #[Go.Operand.tmp 19, Go.Operand.tmp 21], argTypes := #[71, 63] }, type := 63, pos := "figures.go:97", after := #[{ on := 10, ground := Go.Ground.data }, { on := 12, ground := Go.Ground.data }, { on := 12, ground := Go.Ground.chain }], guard := none }) rfl (fun K hK => ?_) AllReadyH.nil
  go_simp
  refine (tf_any c HC.out HR.out _ (pmem_nn HR.out) (sadd_r _ _) _).mono ?_
  rintro e w9 ⟨rfl, hb9⟩
  try dsimp only
  refine hK.out _ _ ?_ (fun hHeld => ?_)
  · first | exact Std.mk hF hz ((Std.below hHeld).trans (hb9.mono (Std.below hHeld).size)) | exact Std.mk hF hz (((Std.below hHeld).alloc (Std.below hHeld).size _).trans (hb9.mono (by have := (Std.below hHeld).size; simp; omega)))
  clear hK K
  try simp only [Act.put, List.setIfInBounds_toArray, List.set_cons_zero, List.set_cons_succ]
  refine wpAnyH_ready (rs := [14]) (by kernel_rfl) (by simp) ?_
  refine AllReadyH.cons (o := { dst := some 23, op := Go.Op.buildSlice 93 4 #[(0, Go.Operand.tmp 14), (1, Go.Operand.tmp 18), (2, Go.Operand.tmp 22), (3, Go.Operand.const (Go.Value.int Go.IntKind.i64 8))], type := 93, pos := "figures.go:97", after := #[{ on := 5, ground := Go.Ground.data }, { on := 9, ground := Go.Ground.data }, { on := 13, ground := Go.Ground.data }], guard := none }) rfl (fun K hK => ?_) AllReadyH.nil
  go_simp
  refine hK.out _ _ ?_ (fun hHeld => ?_)
  · exact Std.mk hF hz ((Std.below hHeld).alloc (Std.below hHeld).size _)
  clear hK K
  try simp only [Act.put, List.setIfInBounds_toArray, List.set_cons_zero, List.set_cons_succ]
  refine wpAnyH_ready (rs := [15]) (by kernel_rfl) (by simp) ?_
  refine AllReadyH.cons (o := { dst := some 24, op := Go.Op.call { callee := Go.Callee.value (Go.Operand.func 85), args := #[Go.Operand.tmp 23], argTypes := #[93] }, type := 63, pos := "figures.go:97", after := #[{ on := 14, ground := Go.Ground.data }, { on := 13, ground := Go.Ground.chain }], guard := none }) rfl (fun K hK => ?_) AllReadyH.nil
  go_simp
  first | (refine (sumD_any _ _ _ _ (by rfl) (by rfl) (by repeat (first | exact inil | refine icons (by first | exact sadd_r _ _ | exact smul_r _ _ | exact ssum_r _ | exact HC.out _ | exact plsum_r | exact pd_r _ _ | (have hq1 := HD.out; unfold R64; omega)) ?_))).mono ?_; rintro e w9 ⟨rfl, hb9⟩) | (refine (sumN_any _ _ _ _ (by rfl) (by rfl) (by repeat (first | exact inil | refine icons (by first | exact sadd_r _ _ | exact smul_r _ _ | exact ssum_r _ | exact HC.out _ | exact plsum_r | exact pd_r _ _ | (have hq1 := HD.out; unfold R64; omega)) ?_))).mono ?_; rintro e w9 ⟨rfl, hb9⟩)
  try dsimp only
  refine hK.out _ _ ?_ (fun hHeld => ?_)
  · first | exact Std.mk hF hz ((Std.below hHeld).trans (hb9.mono (Std.below hHeld).size)) | exact Std.mk hF hz (((Std.below hHeld).alloc (Std.below hHeld).size _).trans (hb9.mono (by have := (Std.below hHeld).size; simp; omega)))
  clear hK K
  try simp only [Act.put, List.setIfInBounds_toArray, List.set_cons_zero, List.set_cons_succ]
  refine wpAnyH_ready (rs := [16]) (by kernel_rfl) (by simp) ?_
  refine AllReadyH.cons (o := { dst := some 25, op := Go.Op.call { callee := Go.Callee.value (Go.Operand.func 48), args := #[Go.Operand.tmp 11, Go.Operand.tmp 24], argTypes := #[63, 63] }, type := 63, pos := "figures.go:97", after := #[{ on := 2, ground := Go.Ground.data }, { on := 15, ground := Go.Ground.data }, { on := 15, ground := Go.Ground.chain }], guard := none }) rfl (fun K hK => ?_) AllReadyH.nil
  go_simp
  refine (timesB _ _ (by first | exact sadd_r _ _ | exact smul_r _ _ | exact ssum_r _ | exact HC.out _ | exact plsum_r | exact pd_r _ _ | (have hq1 := HD.out; unfold R64; omega)) (by first | exact sadd_r _ _ | exact smul_r _ _ | exact ssum_r _ | exact HC.out _ | exact plsum_r | exact pd_r _ _ | (have hq1 := HD.out; unfold R64; omega)) _).mono ?_
  rintro e w9 ⟨rfl, hb9⟩
  try dsimp only
  refine hK.out _ _ ?_ (fun hHeld => ?_)
  · first | exact Std.mk hF hz ((Std.below hHeld).trans (hb9.mono (Std.below hHeld).size)) | exact Std.mk hF hz (((Std.below hHeld).alloc (Std.below hHeld).size _).trans (hb9.mono (by have := (Std.below hHeld).size; simp; omega)))
  clear hK K
  try simp only [Act.put, List.setIfInBounds_toArray, List.set_cons_zero, List.set_cons_succ]
  refine wpAnyH_take (i := 17) (oi := { dst := some 4, op := Go.Op.assign (Go.Operand.tmp 25), type := 63, pos := "figures.go:97", after := #[{ on := 16, ground := Go.Ground.data }, { on := 16, ground := Go.Ground.chain }, { on := 0, ground := Go.Ground.phase }, { on := 1, ground := Go.Ground.phase }, { on := 2, ground := Go.Ground.phase }, { on := 3, ground := Go.Ground.phase }, { on := 4, ground := Go.Ground.phase }, { on := 5, ground := Go.Ground.phase }, { on := 6, ground := Go.Ground.phase }, { on := 7, ground := Go.Ground.phase }, { on := 8, ground := Go.Ground.phase }, { on := 9, ground := Go.Ground.phase }, { on := 10, ground := Go.Ground.phase }, { on := 11, ground := Go.Ground.phase }, { on := 12, ground := Go.Ground.phase }, { on := 13, ground := Go.Ground.phase }, { on := 14, ground := Go.Ground.phase }, { on := 15, ground := Go.Ground.phase }, { on := 16, ground := Go.Ground.phase }], guard := none }) (v := ?_) rfl (by kernel_rfl) (by kernel_rfl) (by kernel_rfl) (fun _ _ _ h => h) (Or.inl ⟨by rfl, ?_⟩) hHeld ?_
  rotate_left
  · (intro wq hSw; (try dsimp only at hSw); go_simp; try (with_reducible rfl))
  try simp only [Act.put, List.setIfInBounds_toArray, List.set_cons_zero, List.set_cons_succ]
  refine wpAnyH_done (by kernel_rfl) ?_ _
  have HBZ := hid (Std.below hHeld)
  clear hHeld
  go_wp2
  go_ret
  exact ⟨rfl, HBW.out.trans (HBZ.out.mono HBW.out.size)⟩

end Pcm
end Go.Proofs.Ytebfokjgeknciaa
