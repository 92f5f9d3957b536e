import Derived.Test.YtebfokjgeknciabGreatDoorPcL
namespace Go.Proofs.YtebfokjgeknciabGreatDoor
namespace Pcm
open Go.RowKit Laws Irw
set_option linter.unusedVariables false
set_option linter.unusedSimpArgs false
set_option maxRecDepth 20000

def Sl (W : World) (C B : Nat) (c : Cf) (V : World) : Prop := Lf V B c ∧ V.cell? ⟨C, 5, none⟩ = some (.int .i64 (c 5)) ∧ V.cell? ⟨B, 3, none⟩ = some (.int .i64 (c 4)) ∧ Below W.heap.size W V
theorem Sl.mk {W V : World} {C B : Nat} {c : Cf} (h : Lf W B c) (hz : B < W.heap.size) (h5 : W.cell? ⟨C, 5, none⟩ = some (.int .i64 (c 5))) (hC : C < W.heap.size) (hb : Below W.heap.size W V) : Sl W C B c V :=
  ⟨h.keep hz hb, (hb.cell (p := ⟨C, 5, none⟩) hC).trans h5, (h.keep hz hb).cell 3 rfl, hb⟩
theorem Sl.below {W V : World} {C B : Nat} {c : Cf} (h : Sl W C B c V) : Below W.heap.size W V := h.2.2.2
set_option maxHeartbeats 8000000 in
theorem leastDebtStop_any (c : Cf) (hc : RC c) (w : World) :
    Calls Tryz.prog 84 #[.agg (cfgA c)] w fun e w' => e = .returned (.int .i64 (pX c)) ∧ Below w.heap.size w w' := by
  have HC := hid hc
  clear hc
  have HF : ∀ W, Calls Tryz.prog 85 #[.agg (cfgA c)] W fun e w' => e = .returned (.agg #[.int .i64 (c 0), .int .i64 (c 2), .int .i64 (c 3), .int .i64 (c 4), .int .i64 (c 8), .int .i64 (c 9), .int .i64 (c 10), .int .i64 (c 11), .int .i64 (c 12), .int .i64 (c 16), .int .i64 (c 17), .int .i64 (c 19), .int .i64 (c 21), .int .i64 (c 22), .int .i64 (c 23), .int .i64 (c 26)]) ∧ Below W.heap.size W w' := fun W => figuresOf_any c W
  have HD := hid (show (0 : Int) ≤ 0 by omega)
  have hL0 := lc_new w c 65
  go_enter Tryz.func84, Tryz.ntmps84
  go_wp2_with (first | (refine wpList_cfg (by rfl) _ (by rfl) (by rfl) hL0 ?_) | (go_at_call 85; go_loud (refine (HF _).mono ?_; rintro e w1 ⟨rfl, hb1⟩; have HB1 := hid hb1; clear hb1)))
  have hF : Lf (w1.alloc (.cells #[.int .i64 (c 0), .int .i64 (c 2), .int .i64 (c 3), .int .i64 (c 4), .int .i64 (c 8), .int .i64 (c 9), .int .i64 (c 10), .int .i64 (c 11), .int .i64 (c 12), .int .i64 (c 16), .int .i64 (c 17), .int .i64 (c 19), .int .i64 (c 21), .int .i64 (c 22), .int .i64 (c 23), .int .i64 (c 26)] 91)) w1.heap.size c := lf_new w1 c 91
  have hz1 : w.heap.size < w1.heap.size := by have := HB1.out.size; simp at this; omega
  have hc5 : w1.cell? ⟨w.heap.size, 5, none⟩ = some (.int .i64 (c 5)) := (hL0.keep (by simp) HB1.out).cell 5 rfl
  obtain ⟨W, hW⟩ : ∃ W, w1.alloc (.cells #[.int .i64 (c 0), .int .i64 (c 2), .int .i64 (c 3), .int .i64 (c 4), .int .i64 (c 8), .int .i64 (c 9), .int .i64 (c 10), .int .i64 (c 11), .int .i64 (c 12), .int .i64 (c 16), .int .i64 (c 17), .int .i64 (c 19), .int .i64 (c 21), .int .i64 (c 22), .int .i64 (c 23), .int .i64 (c 26)] 91) = W := ⟨_, rfl⟩
  have hz : w1.heap.size < W.heap.size := by rw [← hW]; simp
  have HBW : Hid (Below w.heap.size w W) := by
    rw [← hW]
    exact ((((Below.refl _ _).alloc (Nat.le_refl _) _).trans (HB1.out.mono (by simp))).alloc (by have := HB1.out.size; simp at this; omega) _)
  have hc5' : W.cell? ⟨w.heap.size, 5, none⟩ = some (.int .i64 (c 5)) := by rw [← hW, World.cell?_alloc_past _ _ _ (by simpa using hz1)]; exact hc5
  rw [hW] at hF ⊢
  clear hW hc5 HB1 hL0 HF
  have hz2 : w.heap.size < W.heap.size := by omega
  generalize (Value.agg #[.int .i64 (c 0), .int .i64 (c 2), .int .i64 (c 3), .int .i64 (c 4), .int .i64 (c 8), .int .i64 (c 9), .int .i64 (c 10), .int .i64 (c 11), .int .i64 (c 12), .int .i64 (c 16), .int .i64 (c 17), .int .i64 (c 19), .int .i64 (c 21), .int .i64 (c 22), .int .i64 (c 23), .int .i64 (c 26)]) = A0
  refine wp_region_held_drew (S := (fun V => Lf V w1.heap.size c ∧ V.cell? ⟨w.heap.size, 5, none⟩ = some (.int .i64 (c 5)) ∧ V.cell? ⟨w1.heap.size, 3, none⟩ = some (.int .i64 (c 4)) ∧ Below W.heap.size W V)) (by kernel_rfl) ?_ (fun hHeld => ?_)
  · exact Sl.mk hF hz hc5' hz2 (Below.refl _ _).drew
  refine wpAnyH_take (i := 0) (oi := { dst := some 6, op := Go.Op.fieldAddr 65 (Go.Operand.tmp 1) 5, type := 0, pos := "check.go:54", after := #[], guard := none }) (v := ?_) rfl (by kernel_rfl) (by kernel_rfl) (by kernel_rfl) (fun _ _ _ h => h) (Or.inl ⟨by rfl, ?_⟩) hHeld ?_
  rotate_left
  · (intro wq hSw; (try dsimp only at hSw); go_simp; try (with_reducible rfl))
  try simp only [Act.put, List.setIfInBounds_toArray, List.set_cons_zero, List.set_cons_succ]
  refine wpAnyH_take (i := 1) (oi := { dst := some 7, op := Go.Op.load 3 (Go.Operand.tmp 6), type := 3, pos := "check.go:54", after := #[{ on := 0, ground := Go.Ground.data }], guard := none }) (v := ?_) rfl (by kernel_rfl) (by kernel_rfl) (by kernel_rfl) (fun _ _ _ h => h) (Or.inl ⟨by rfl, ?_⟩) hHeld ?_
  rotate_left
  · (intro wq hSw; (try dsimp only at hSw); go_simp; try (with_reducible rfl))
  try simp only [Act.put, List.setIfInBounds_toArray, List.set_cons_zero, List.set_cons_succ]
  refine wpAnyH_take (i := 2) (oi := { dst := some 8, op := Go.Op.fieldAddr 91 (Go.Operand.tmp 3) 3, type := 0, pos := "check.go:54", after := #[], guard := none }) (v := ?_) rfl (by kernel_rfl) (by kernel_rfl) (by kernel_rfl) (fun _ _ _ h => h) (Or.inl ⟨by rfl, ?_⟩) hHeld ?_
  rotate_left
  · (intro wq hSw; (try dsimp only at hSw); go_simp; try (with_reducible rfl))
  try simp only [Act.put, List.setIfInBounds_toArray, List.set_cons_zero, List.set_cons_succ]
  refine wpAnyH_take (i := 3) (oi := { dst := some 9, op := Go.Op.load 77 (Go.Operand.tmp 8), type := 77, pos := "check.go:54", after := #[{ on := 2, ground := Go.Ground.data }], guard := none }) (v := ?_) rfl (by kernel_rfl) (by kernel_rfl) (by kernel_rfl) (fun _ _ _ h => h) (Or.inl ⟨by rfl, ?_⟩) hHeld ?_
  rotate_left
  · (intro wq hSw; (try dsimp only at hSw); go_simp; try (with_reducible rfl))
  try simp only [Act.put, List.setIfInBounds_toArray, List.set_cons_zero, List.set_cons_succ]
  refine wpAnyH_take (i := 6) (oi := { dst := some 12, op := Go.Op.load 91 (Go.Operand.tmp 3), type := 91, pos := "check.go:54", after := #[], guard := none }) rfl (by kernel_rfl) (by kernel_rfl) (by kernel_rfl) (fun _ _ _ h => h) (yl_fig (by rfl) _ (by rfl) (by rfl) (fun V h => h.1)) hHeld ?_
  try simp only [Act.put, List.setIfInBounds_toArray, List.set_cons_zero, List.set_cons_succ]
  refine wpAnyH_ready (rs := [4]) (by kernel_rfl) (by simp) ?_
  refine AllReadyH.cons (o := { dst := some 10, op := Go.Op.buildSlice 161 3 #[(0, Go.Operand.tmp 7), (1, Go.Operand.tmp 9), (2, Go.Operand.const (Go.Value.int Go.IntKind.i64 2))], type := 161, pos := "check.go:54", after := #[{ on := 1, ground := Go.Ground.data }, { on := 3, ground := Go.Ground.data }], guard := none }) rfl (fun K hK => ?_) AllReadyH.nil
  go_simp
  refine hK.out _ _ ?_ (fun hHeld => ?_)
  · exact Sl.mk hF hz hc5' hz2 ((Sl.below hHeld).alloc (Sl.below hHeld).size _)
  clear hK K
  try simp only [Act.put, List.setIfInBounds_toArray, List.set_cons_zero, List.set_cons_succ]
  refine wpAnyH_ready (rs := [5]) (by kernel_rfl) (by simp) ?_
  refine AllReadyH.cons (o := { dst := some 11, op := Go.Op.call { callee := Go.Callee.value (Go.Operand.func 130), args := #[Go.Operand.tmp 10], argTypes := #[161] }, type := 77, pos := "check.go:54", after := #[{ on := 4, ground := Go.Ground.data }], guard := none }) rfl (fun K hK => ?_) AllReadyH.nil
  go_simp
  first | (refine (sumD_any _ _ _ _ (by rfl) (by rfl) (by repeat (first | exact inil | refine icons (by first | exact sadd_r _ _ | exact smul_r _ _ | exact ssum_r _ | exact HC.out _ | exact plsum_r | exact pd_r _ _ | (have hq1 := HD.out; unfold R64; omega)) ?_))).mono ?_; rintro e w9 ⟨rfl, hb9⟩) | (refine (sumN_any _ _ _ _ (by rfl) (by rfl) (by repeat (first | exact inil | refine icons (by first | exact sadd_r _ _ | exact smul_r _ _ | exact ssum_r _ | exact HC.out _ | exact plsum_r | exact pd_r _ _ | (have hq1 := HD.out; unfold R64; omega)) ?_))).mono ?_; rintro e w9 ⟨rfl, hb9⟩)
  try dsimp only
  refine hK.out _ _ ?_ (fun hHeld => ?_)
  · first | exact Sl.mk hF hz hc5' hz2 ((Sl.below hHeld).trans (hb9.mono (Sl.below hHeld).size)) | exact Sl.mk hF hz hc5' hz2 (((Sl.below hHeld).alloc (Sl.below hHeld).size _).trans (hb9.mono (by have := (Sl.below hHeld).size; simp; omega)))
  clear hK K
  try simp only [Act.put, List.setIfInBounds_toArray, List.set_cons_zero, List.set_cons_succ]
  refine wpAnyH_ready (rs := [7]) (by kernel_rfl) (by simp) ?_
  refine AllReadyH.cons (o := { dst := some 13, op := Go.Op.call { callee := Go.Callee.value (Go.Operand.func 55), args := #[Go.Operand.tmp 12], argTypes := #[91] }, type := 77, pos := "check.go:54", after := #[{ on := 6, ground := Go.Ground.data }, { on := 5, ground := Go.Ground.chain }], guard := none }) rfl (fun K hK => ?_) AllReadyH.nil
  go_simp
  refine (memCap_any c HC.out _).mono ?_
  rintro e w9 ⟨rfl, hb9⟩
  try dsimp only
  refine hK.out _ _ ?_ (fun hHeld => ?_)
  · first | exact Sl.mk hF hz hc5' hz2 ((Sl.below hHeld).trans (hb9.mono (Sl.below hHeld).size)) | exact Sl.mk hF hz hc5' hz2 (((Sl.below hHeld).alloc (Sl.below hHeld).size _).trans (hb9.mono (by have := (Sl.below hHeld).size; simp; omega)))
  clear hK K
  try simp only [Act.put, List.setIfInBounds_toArray, List.set_cons_zero, List.set_cons_succ]
  refine wpAnyH_ready (rs := [8]) (by kernel_rfl) (by simp) ?_
  refine AllReadyH.cons (o := { dst := some 14, op := Go.Op.call { callee := Go.Callee.value (Go.Operand.func 131), args := #[Go.Operand.tmp 11, Go.Operand.tmp 13], argTypes := #[77, 77] }, type := 77, pos := "check.go:54", after := #[{ on := 5, ground := Go.Ground.data }, { on := 7, ground := Go.Ground.data }, { on := 7, ground := Go.Ground.chain }], guard := none }) rfl (fun K hK => ?_) AllReadyH.nil
  go_simp
  refine (timesB _ _ (by first | exact sadd_r _ _ | exact smul_r _ _ | exact ssum_r _ | exact HC.out _ | exact plsum_r | exact pd_r _ _ | (have hq1 := HD.out; unfold R64; omega)) (by first | exact sadd_r _ _ | exact smul_r _ _ | exact ssum_r _ | exact HC.out _ | exact plsum_r | exact pd_r _ _ | (have hq1 := HD.out; unfold R64; omega)) _).mono ?_
  rintro e w9 ⟨rfl, hb9⟩
  try dsimp only
  refine hK.out _ _ ?_ (fun hHeld => ?_)
  · first | exact Sl.mk hF hz hc5' hz2 ((Sl.below hHeld).trans (hb9.mono (Sl.below hHeld).size)) | exact Sl.mk hF hz hc5' hz2 (((Sl.below hHeld).alloc (Sl.below hHeld).size _).trans (hb9.mono (by have := (Sl.below hHeld).size; simp; omega)))
  clear hK K
  try simp only [Act.put, List.setIfInBounds_toArray, List.set_cons_zero, List.set_cons_succ]
  refine wpAnyH_ready (rs := [9]) (by kernel_rfl) (by simp) ?_
  refine AllReadyH.cons (o := { dst := some 15, op := Go.Op.call { callee := Go.Callee.value (Go.Operand.func 61), args := #[Go.Operand.tmp 14, Go.Operand.const (Go.Value.int Go.IntKind.i64 1)], argTypes := #[77, 77] }, type := 77, pos := "check.go:54", after := #[{ on := 8, ground := Go.Ground.data }, { on := 8, ground := Go.Ground.chain }], guard := none }) rfl (fun K hK => ?_) AllReadyH.nil
  go_simp
  refine (plusB _ _ (by first | exact sadd_r _ _ | exact smul_r _ _ | exact ssum_r _ | exact HC.out _ | exact plsum_r | exact pd_r _ _ | (have hq1 := HD.out; unfold R64; omega)) (by first | exact sadd_r _ _ | exact smul_r _ _ | exact ssum_r _ | exact HC.out _ | exact plsum_r | exact pd_r _ _ | (have hq1 := HD.out; unfold R64; omega)) _).mono ?_
  rintro e w9 ⟨rfl, hb9⟩
  try dsimp only
  refine hK.out _ _ ?_ (fun hHeld => ?_)
  · first | exact Sl.mk hF hz hc5' hz2 ((Sl.below hHeld).trans (hb9.mono (Sl.below hHeld).size)) | exact Sl.mk hF hz hc5' hz2 (((Sl.below hHeld).alloc (Sl.below hHeld).size _).trans (hb9.mono (by have := (Sl.below hHeld).size; simp; omega)))
  clear hK K
  try simp only [Act.put, List.setIfInBounds_toArray, List.set_cons_zero, List.set_cons_succ]
  refine wpAnyH_take (i := 10) (oi := { dst := some 2, op := Go.Op.assign (Go.Operand.tmp 15), type := 3, pos := "check.go:54", after := #[{ on := 9, ground := Go.Ground.data }, { on := 9, ground := Go.Ground.chain }, { on := 0, ground := Go.Ground.phase }, { on := 1, ground := Go.Ground.phase }, { on := 2, ground := Go.Ground.phase }, { on := 3, ground := Go.Ground.phase }, { on := 4, ground := Go.Ground.phase }, { on := 5, ground := Go.Ground.phase }, { on := 6, ground := Go.Ground.phase }, { on := 7, ground := Go.Ground.phase }, { on := 8, ground := Go.Ground.phase }, { on := 9, ground := Go.Ground.phase }], guard := none }) (v := ?_) rfl (by kernel_rfl) (by kernel_rfl) (by kernel_rfl) (fun _ _ _ h => h) (Or.inl ⟨by rfl, ?_⟩) hHeld ?_
  rotate_left
  · (intro wq hSw; (try dsimp only at hSw); go_simp; try (with_reducible rfl))
  try simp only [Act.put, List.setIfInBounds_toArray, List.set_cons_zero, List.set_cons_succ]
  refine wpAnyH_done (by kernel_rfl) ?_ _
  have HBZ := hid (Sl.below hHeld)
  clear hHeld
  go_wp2
  go_ret
  exact ⟨rfl, HBW.out.trans (HBZ.out.mono HBW.out.size)⟩

end Pcm
end Go.Proofs.YtebfokjgeknciabGreatDoor
