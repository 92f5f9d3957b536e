import Derived.Test.YtebfokjgeknciaaPcC
namespace Go.Proofs.Ytebfokjgeknciaa
namespace Pcm
open Go.RowKit Laws Irw
set_option linter.unusedVariables false
set_option linter.unusedSimpArgs false
set_option maxRecDepth 20000

def Sb2 (W : World) (B : Nat) (c : Cf) (V : World) : Prop := Lf V B c ∧ V.cell? ⟨B, 3, none⟩ = some (.int .i64 (c 4)) ∧ V.cell? ⟨B, 9, none⟩ = some (.int .i64 (c 16)) ∧ V.cell? ⟨B, 4, none⟩ = some (.int .i64 (c 8)) ∧ Below W.heap.size W V
theorem Sb2.mk {W V : World} {B : Nat} {c : Cf} (h : Lf W B c) (hz : B < W.heap.size) (hb : Below W.heap.size W V) : Sb2 W B c V :=
  ⟨h.keep hz hb, (h.keep hz hb).cell 3 rfl, (h.keep hz hb).cell 9 rfl, (h.keep hz hb).cell 4 rfl, hb⟩
theorem Sb2.below {W V : World} {B : Nat} {c : Cf} (h : Sb2 W B c V) : Below W.heap.size W V := h.2.2.2.2

set_option maxHeartbeats 8000000 in
theorem b2_any (c : Cf) (hc : RC c) (h : Right c) (x : Int) (hx : 0 ≤ x) (hxr : R64 x) (w : World) :
    Calls Try.prog 70 #[.agg (figA c), .int .i64 x] w fun e w' => e = .returned (.int .i64 (pb2 c x)) ∧ Below w.heap.size w w' := by
  have HC := hid hc
  have HR := hid h
  have HX := hid hxr
  have HX0 := hid hx
  obtain ⟨a1, a2⟩ := h.o.h16
  have hn0 := pn_nn h hx
  have hnr : R64 (pn c x) := ssum_r _
  have HD := hid (And.intro hxr (div_lt hn0 hnr (show 2 ≤ c 16 by omega)))
  have q0 : ¬ c 16 = 0 := by omega
  have q1 := wtd hn0 hnr (show 1 ≤ c 16 by omega)
  unfold R64 at HD hnr
  clear hc h
  have hL0 := lf_new w c 71
  go_enter Try.func70, Try.ntmps70
  go_wp2_with (first | (refine wpList_fig (by rfl) _ (by rfl) (by rfl) hL0 ?_) | (go_at_call 90; go_loud (refine (n_any c HC.out HR.out x HX0.out HX.out _).mono ?_; rintro e w1 ⟨rfl, hb1⟩; have HB1 := hid hb1; clear hb1)))
  have hz0 : w.heap.size < (w.alloc (.cells (figA c) 71)).heap.size := by simp
  have HB0 : Hid (Below w.heap.size w (w.alloc (.cells (figA c) 71))) := (Below.refl _ _).alloc (Nat.le_refl _) _
  have hF : Lf w1 w.heap.size c := hL0.keep hz0 HB1.out
  have HBW : Hid (Below w.heap.size w w1) := HB0.out.trans (HB1.out.mono HB0.out.size)
  have hz : w.heap.size < w1.heap.size := Nat.lt_of_lt_of_le hz0 HB1.out.size
  clear hL0 HB0 hz0 HB1
  generalize w1 = W at *
  refine wp_region_held_drew (S := (fun V => Lf V w.heap.size c ∧ V.cell? ⟨w.heap.size, 3, none⟩ = some (.int .i64 (c 4)) ∧ V.cell? ⟨w.heap.size, 9, none⟩ = some (.int .i64 (c 16)) ∧ V.cell? ⟨w.heap.size, 4, none⟩ = some (.int .i64 (c 8)) ∧ Below W.heap.size W V)) (by kernel_rfl) ?_ (fun hHeld => ?_)
  · exact Sb2.mk hF hz (Below.refl _ _).drew
  refine wpAnyH_take (i := 0) (oi := { dst := some 9, op := Go.Op.load 71 (Go.Operand.tmp 2), type := 71, pos := "figures.go:117", after := #[], guard := none }) rfl (by kernel_rfl) (by kernel_rfl) (by kernel_rfl) (fun _ _ _ h => h) (yl_fig (by rfl) _ (by rfl) (by rfl) (fun V h => h.1)) hHeld ?_
  try simp only [Act.put, List.setIfInBounds_toArray, List.set_cons_zero, List.set_cons_succ]
  refine wpAnyH_take (i := 1) (oi := { dst := some 10, op := Go.Op.move (Go.Operand.tmp 1), type := 63, pos := "figures.go:117", after := #[], guard := none }) (v := ?_) rfl (by kernel_rfl) (by kernel_rfl) (by kernel_rfl) (fun _ _ _ h => h) (Or.inl ⟨by rfl, ?_⟩) hHeld ?_
  rotate_left
  · (intro wq hSw; (try dsimp only at hSw); go_simp; try (with_reducible rfl))
  try simp only [Act.put, List.setIfInBounds_toArray, List.set_cons_zero, List.set_cons_succ]
  refine wpAnyH_take (i := 3) (oi := { dst := some 12, op := Go.Op.fieldAddr 71 (Go.Operand.tmp 2) 3, type := 0, pos := "figures.go:117", after := #[], guard := none }) (v := ?_) rfl (by kernel_rfl) (by kernel_rfl) (by kernel_rfl) (fun _ _ _ h => h) (Or.inl ⟨by rfl, ?_⟩) hHeld ?_
  rotate_left
  · (intro wq hSw; (try dsimp only at hSw); go_simp; try (with_reducible rfl))
  try simp only [Act.put, List.setIfInBounds_toArray, List.set_cons_zero, List.set_cons_succ]
  refine wpAnyH_take (i := 4) (oi := { dst := some 13, op := Go.Op.load 63 (Go.Operand.tmp 12), type := 63, pos := "figures.go:117", after := #[{ on := 3, ground := Go.Ground.data }], guard := none }) (v := ?_) rfl (by kernel_rfl) (by kernel_rfl) (by kernel_rfl) (fun _ _ _ h => h) (Or.inl ⟨by rfl, ?_⟩) hHeld ?_
  rotate_left
  · (intro wq hSw; (try dsimp only at hSw); go_simp; try (with_reducible rfl))
  try simp only [Act.put, List.setIfInBounds_toArray, List.set_cons_zero, List.set_cons_succ]
  refine wpAnyH_take (i := 6) (oi := { dst := some 15, op := Go.Op.load 71 (Go.Operand.tmp 2), type := 71, pos := "figures.go:117", after := #[], guard := none }) rfl (by kernel_rfl) (by kernel_rfl) (by kernel_rfl) (fun _ _ _ h => h) (yl_fig (by rfl) _ (by rfl) (by rfl) (fun V h => h.1)) hHeld ?_
  try simp only [Act.put, List.setIfInBounds_toArray, List.set_cons_zero, List.set_cons_succ]
  refine wpAnyH_take (i := 7) (oi := { dst := some 16, op := Go.Op.load 71 (Go.Operand.tmp 2), type := 71, pos := "figures.go:117", after := #[], guard := none }) rfl (by kernel_rfl) (by kernel_rfl) (by kernel_rfl) (fun _ _ _ h => h) (yl_fig (by rfl) _ (by rfl) (by rfl) (fun V h => h.1)) hHeld ?_
  try simp only [Act.put, List.setIfInBounds_toArray, List.set_cons_zero, List.set_cons_succ]
  refine wpAnyH_take (i := 10) (oi := { dst := some 19, op := Go.Op.load 71 (Go.Operand.tmp 2), type := 71, pos := "figures.go:117", after := #[], guard := none }) rfl (by kernel_rfl) (by kernel_rfl) (by kernel_rfl) (fun _ _ _ h => h) (yl_fig (by rfl) _ (by rfl) (by rfl) (fun V h => h.1)) hHeld ?_
  try simp only [Act.put, List.setIfInBounds_toArray, List.set_cons_zero, List.set_cons_succ]
  refine wpAnyH_take (i := 11) (oi := { dst := some 20, op := Go.Op.move (Go.Operand.tmp 5), type := 63, pos := "figures.go:117", after := #[], guard := none }) (v := ?_) rfl (by kernel_rfl) (by kernel_rfl) (by kernel_rfl) (fun _ _ _ h => h) (Or.inl ⟨by rfl, ?_⟩) hHeld ?_
  rotate_left
  · (intro wq hSw; (try dsimp only at hSw); go_simp; try (with_reducible rfl))
  try simp only [Act.put, List.setIfInBounds_toArray, List.set_cons_zero, List.set_cons_succ]
  refine wpAnyH_take (i := 13) (oi := { dst := some 22, op := Go.Op.load 71 (Go.Operand.tmp 2), type := 71, pos := "figures.go:117", after := #[], guard := none }) rfl (by kernel_rfl) (by kernel_rfl) (by kernel_rfl) (fun _ _ _ h => h) (yl_fig (by rfl) _ (by rfl) (by rfl) (fun V h => h.1)) hHeld ?_
  try simp only [Act.put, List.setIfInBounds_toArray, List.set_cons_zero, List.set_cons_succ]
  refine wpAnyH_take (i := 14) (oi := { dst := some 23, op := Go.Op.load 71 (Go.Operand.tmp 2), type := 71, pos := "figures.go:117", after := #[], guard := none }) rfl (by kernel_rfl) (by kernel_rfl) (by kernel_rfl) (fun _ _ _ h => h) (yl_fig (by rfl) _ (by rfl) (by rfl) (fun V h => h.1)) hHeld ?_
  try simp only [Act.put, List.setIfInBounds_toArray, List.set_cons_zero, List.set_cons_succ]
  refine wpAnyH_take (i := 20) (oi := { dst := some 29, op := Go.Op.load 71 (Go.Operand.tmp 2), type := 71, pos := "figures.go:117", after := #[], guard := none }) rfl (by kernel_rfl) (by kernel_rfl) (by kernel_rfl) (fun _ _ _ h => h) (yl_fig (by rfl) _ (by rfl) (by rfl) (fun V h => h.1)) hHeld ?_
  try simp only [Act.put, List.setIfInBounds_toArray, List.set_cons_zero, List.set_cons_succ]
  refine wpAnyH_take (i := 21) (oi := { dst := some 30, op := Go.Op.move (Go.Operand.tmp 5), type := 63, pos := "figures.go:117", after := #[], guard := none }) (v := ?_) rfl (by kernel_rfl) (by kernel_rfl) (by kernel_rfl) (fun _ _ _ h => h) (Or.inl ⟨by rfl, ?_⟩) hHeld ?_
  rotate_left
  · (intro wq hSw; (try dsimp only at hSw); go_simp; try (with_reducible rfl))
  try simp only [Act.put, List.setIfInBounds_toArray, List.set_cons_zero, List.set_cons_succ]
  refine wpAnyH_take (i := 23) (oi := { dst := some 32, op := Go.Op.load 71 (Go.Operand.tmp 2), type := 71, pos := "figures.go:117", after := #[], guard := none }) rfl (by kernel_rfl) (by kernel_rfl) (by kernel_rfl) (fun _ _ _ h => h) (yl_fig (by rfl) _ (by rfl) (by rfl) (fun V h => h.1)) hHeld ?_
  try simp only [Act.put, List.setIfInBounds_toArray, List.set_cons_zero, List.set_cons_succ]
  refine wpAnyH_take (i := 24) (oi := { dst := some 33, op := Go.Op.move (Go.Operand.tmp 5), type := 63, pos := "figures.go:117", after := #[], guard := none }) (v := ?_) rfl (by kernel_rfl) (by kernel_rfl) (by kernel_rfl) (fun _ _ _ h => h) (Or.inl ⟨by rfl, ?_⟩) hHeld ?_
  rotate_left
  · (intro wq hSw; (try dsimp only at hSw); go_simp; try (with_reducible rfl))
  try simp only [Act.put, List.setIfInBounds_toArray, List.set_cons_zero, List.set_cons_succ]
  refine wpAnyH_take (i := 26) (oi := { dst := some 35, op := Go.Op.load 71 (Go.Operand.tmp 2), type := 71, pos := "figures.go:117", after := #[], guard := none }) rfl (by kernel_rfl) (by kernel_rfl) (by kernel_rfl) (fun _ _ _ h => h) (yl_fig (by rfl) _ (by rfl) (by rfl) (fun V h => h.1)) hHeld ?_
  try simp only [Act.put, List.setIfInBounds_toArray, List.set_cons_zero, List.set_cons_succ]
  refine wpAnyH_take (i := 27) (oi := { dst := some 36, op := Go.Op.load 71 (Go.Operand.tmp 2), type := 71, pos := "figures.go:117", after := #[], guard := none }) rfl (by kernel_rfl) (by kernel_rfl) (by kernel_rfl) (fun _ _ _ h => h) (yl_fig (by rfl) _ (by rfl) (by rfl) (fun V h => h.1)) hHeld ?_
  try simp only [Act.put, List.setIfInBounds_toArray, List.set_cons_zero, List.set_cons_succ]
  refine wpAnyH_take (i := 33) (oi := { dst := some 42, op := Go.Op.move (Go.Operand.tmp 5), type := 63, pos := "figures.go:117", after := #[], guard := none }) (v := ?_) rfl (by kernel_rfl) (by kernel_rfl) (by kernel_rfl) (fun _ _ _ h => h) (Or.inl ⟨by rfl, ?_⟩) hHeld ?_
  rotate_left
  · (intro wq hSw; (try dsimp only at hSw); go_simp; try (with_reducible rfl))
  try simp only [Act.put, List.setIfInBounds_toArray, List.set_cons_zero, List.set_cons_succ]
  refine wpAnyH_take (i := 34) (oi := { dst := some 43, op := Go.Op.fieldAddr 71 (Go.Operand.tmp 2) 9, type := 0, pos := "figures.go:117", after := #[], guard := none }) (v := ?_) rfl (by kernel_rfl) (by kernel_rfl) (by kernel_rfl) (fun _ _ _ h => h) (Or.inl ⟨by rfl, ?_⟩) hHeld ?_
  rotate_left
  · (intro wq hSw; (try dsimp only at hSw); go_simp; try (with_reducible rfl))
  try simp only [Act.put, List.setIfInBounds_toArray, List.set_cons_zero, List.set_cons_succ]
  refine wpAnyH_take (i := 35) (oi := { dst := some 44, op := Go.Op.load 63 (Go.Operand.tmp 43), type := 63, pos := "figures.go:117", after := #[{ on := 34, ground := Go.Ground.data }], guard := none }) (v := ?_) rfl (by kernel_rfl) (by kernel_rfl) (by kernel_rfl) (fun _ _ _ h => h) (Or.inl ⟨by rfl, ?_⟩) hHeld ?_
  rotate_left
  · (intro wq hSw; (try dsimp only at hSw); go_simp; try (with_reducible rfl))
  try simp only [Act.put, List.setIfInBounds_toArray, List.set_cons_zero, List.set_cons_succ]
  refine wpAnyH_take (i := 36) (oi := { dst := some 45, op := Go.Op.binOp Go.BinOp.quo 63 (Go.Operand.tmp 42) (Go.Operand.tmp 44) 63, type := 63, pos := "figures.go:117", after := #[{ on := 33, ground := Go.Ground.data }, { on := 35, ground := Go.Ground.data }], guard := none }) (v := ?_) rfl (by kernel_rfl) (by kernel_rfl) (by kernel_rfl) (fun _ _ _ h => h) (Or.inl ⟨by rfl, ?_⟩) hHeld ?_
  rotate_left
  · (intro wq hSw; (try dsimp only at hSw); go_simp; try (with_reducible rfl))
  try simp only [Act.put, List.setIfInBounds_toArray, List.set_cons_zero, List.set_cons_succ]
  refine wpAnyH_take (i := 37) (oi := { dst := some 46, op := Go.Op.fieldAddr 71 (Go.Operand.tmp 2) 4, type := 0, pos := "figures.go:117", after := #[], guard := none }) (v := ?_) rfl (by kernel_rfl) (by kernel_rfl) (by kernel_rfl) (fun _ _ _ h => h) (Or.inl ⟨by rfl, ?_⟩) hHeld ?_
  rotate_left
  · (intro wq hSw; (try dsimp only at hSw); go_simp; try (with_reducible rfl))
  try simp only [Act.put, List.setIfInBounds_toArray, List.set_cons_zero, List.set_cons_succ]
  refine wpAnyH_take (i := 38) (oi := { dst := some 47, op := Go.Op.load 63 (Go.Operand.tmp 46), type := 63, pos := "figures.go:117", after := #[{ on := 37, ground := Go.Ground.data }], guard := none }) (v := ?_) rfl (by kernel_rfl) (by kernel_rfl) (by kernel_rfl) (fun _ _ _ h => h) (Or.inl ⟨by rfl, ?_⟩) hHeld ?_
  rotate_left
  · (intro wq hSw; (try dsimp only at hSw); go_simp; try (with_reducible rfl))
  try simp only [Act.put, List.setIfInBounds_toArray, List.set_cons_zero, List.set_cons_succ]
  refine wpAnyH_ready (rs := [2]) (by kernel_rfl) (by simp) ?_
  refine AllReadyH.cons (o := { dst := some 11, op := Go.Op.call { callee := Go.Callee.value (Go.Operand.func 67), args := #[Go.Operand.tmp 9, Go.Operand.tmp 10], argTypes := #[71, 63] }, type := 63, pos := "figures.go:118", after := #[{ on := 0, ground := Go.Ground.data }, { on := 1, ground := Go.Ground.data }], guard := none }) rfl (fun K hK => ?_) AllReadyH.nil
  go_simp
  refine (b1_any c HC.out HR.out _ HX0.out HX.out _).mono ?_
  rintro e w9 ⟨rfl, hb9⟩
  try dsimp only
  refine hK.out _ _ ?_ (fun hHeld => ?_)
  · first | exact Sb2.mk hF hz ((Sb2.below hHeld).trans (hb9.mono (Sb2.below hHeld).size)) | exact Sb2.mk hF hz (((Sb2.below hHeld).alloc (Sb2.below hHeld).size _).trans (hb9.mono (by have := (Sb2.below hHeld).size; simp; omega)))
  clear hK K
  try simp only [Act.put, List.setIfInBounds_toArray, List.set_cons_zero, List.set_cons_succ]
  refine wpAnyH_ready (rs := [5]) (by kernel_rfl) (by simp) ?_
  refine AllReadyH.cons (o := { dst := some 14, op := Go.Op.call { callee := Go.Callee.value (Go.Operand.func 47), args := #[Go.Operand.tmp 13, Go.Operand.const (Go.Value.int Go.IntKind.i64 2)], argTypes := #[63, 63] }, type := 63, pos := "figures.go:119", after := #[{ on := 4, ground := Go.Ground.data }, { on := 2, ground := Go.Ground.chain }], guard := none }) rfl (fun K hK => ?_) AllReadyH.nil
  go_simp
  refine (plusB _ _ (by first | exact sadd_r _ _ | exact smul_r _ _ | exact ssum_r _ | exact HC.out _ | exact plsum_r | exact pd_r _ _ | (have hq1 := HD.out; unfold R64; omega)) (by first | exact sadd_r _ _ | exact smul_r _ _ | exact ssum_r _ | exact HC.out _ | exact plsum_r | exact pd_r _ _ | (have hq1 := HD.out; unfold R64; omega)) _).mono ?_
  rintro e w9 ⟨rfl, hb9⟩
  try dsimp only
  refine hK.out _ _ ?_ (fun hHeld => ?_)
  · first | exact Sb2.mk hF hz ((Sb2.below hHeld).trans (hb9.mono (Sb2.below hHeld).size)) | exact Sb2.mk hF hz (((Sb2.below hHeld).alloc (Sb2.below hHeld).size _).trans (hb9.mono (by have := (Sb2.below hHeld).size; simp; omega)))
  clear hK K
  try simp only [Act.put, List.setIfInBounds_toArray, List.set_cons_zero, List.set_cons_succ]
  refine wpAnyH_ready (rs := [8]) (by kernel_rfl) (by simp) ?_
  refine AllReadyH.cons (o := { dst := some 17, op := Go.Op.call { callee := Go.Callee.value (Go.Operand.func 56), args := #[Go.Operand.tmp 16], argTypes := #[71] }, type := 63, pos := "figures.go:119", after := #[{ on := 7, ground := Go.Ground.data }, { on := 5, ground := Go.Ground.chain }], guard := none }) rfl (fun K hK => ?_) AllReadyH.nil
  go_simp
  refine (memCap_any c HC.out _).mono ?_
  rintro e w9 ⟨rfl, hb9⟩
  try dsimp only
  refine hK.out _ _ ?_ (fun hHeld => ?_)
  · first | exact Sb2.mk hF hz ((Sb2.below hHeld).trans (hb9.mono (Sb2.below hHeld).size)) | exact Sb2.mk hF hz (((Sb2.below hHeld).alloc (Sb2.below hHeld).size _).trans (hb9.mono (by have := (Sb2.below hHeld).size; simp; omega)))
  clear hK K
  try simp only [Act.put, List.setIfInBounds_toArray, List.set_cons_zero, List.set_cons_succ]
  refine wpAnyH_ready (rs := [9]) (by kernel_rfl) (by simp) ?_
  refine AllReadyH.cons (o := { dst := some 18, op := Go.Op.call { callee := Go.Callee.value (Go.Operand.func 60), args := #[Go.Operand.tmp 15, Go.Operand.tmp 17], argTypes := #[71, 63] }, type := 63, pos := "figures.go:119", after := #[{ on := 6, ground := Go.Ground.data }, { on := 8, ground := Go.Ground.data }, { on := 8, ground := Go.Ground.chain }], guard := none }) rfl (fun K hK => ?_) AllReadyH.nil
  go_simp
  refine (tf_any c HC.out HR.out _ (pmem_nn HR.out) (sadd_r _ _) _).mono ?_
  rintro e w9 ⟨rfl, hb9⟩
  try dsimp only
  refine hK.out _ _ ?_ (fun hHeld => ?_)
  · first | exact Sb2.mk hF hz ((Sb2.below hHeld).trans (hb9.mono (Sb2.below hHeld).size)) | exact Sb2.mk hF hz (((Sb2.below hHeld).alloc (Sb2.below hHeld).size _).trans (hb9.mono (by have := (Sb2.below hHeld).size; simp; omega)))
  clear hK K
  try simp only [Act.put, List.setIfInBounds_toArray, List.set_cons_zero, List.set_cons_succ]
  refine wpAnyH_ready (rs := [12]) (by kernel_rfl) (by simp) ?_
  refine AllReadyH.cons (o := { dst := some 21, op := Go.Op.call { callee := Go.Callee.value (Go.Operand.func 64), args := #[Go.Operand.tmp 19, Go.Operand.tmp 20], argTypes := #[71, 63] }, type := 63, pos := "figures.go:119", after := #[{ on := 10, ground := Go.Ground.data }, { on := 11, ground := Go.Ground.data }, { on := 9, ground := Go.Ground.chain }], guard := none }) rfl (fun K hK => ?_) AllReadyH.nil
  go_simp
  refine (tc_any c HC.out HR.out _ (pn_nn HR.out HX0.out) (ssum_r _) _).mono ?_
  rintro e w9 ⟨rfl, hb9⟩
  try dsimp only
  refine hK.out _ _ ?_ (fun hHeld => ?_)
  · first | exact Sb2.mk hF hz ((Sb2.below hHeld).trans (hb9.mono (Sb2.below hHeld).size)) | exact Sb2.mk hF hz (((Sb2.below hHeld).alloc (Sb2.below hHeld).size _).trans (hb9.mono (by have := (Sb2.below hHeld).size; simp; omega)))
  clear hK K
  try simp only [Act.put, List.setIfInBounds_toArray, List.set_cons_zero, List.set_cons_succ]
  refine wpAnyH_ready (rs := [15]) (by kernel_rfl) (by simp) ?_
  refine AllReadyH.cons (o := { dst := some 24, op := Go.Op.call { callee := Go.Callee.value (Go.Operand.func 91), args := #[Go.Operand.tmp 23], argTypes := #[71] }, type := 63, pos := "figures.go:119", after := #[{ on := 14, ground := Go.Ground.data }, { on := 12, ground := Go.Ground.chain }], guard := none }) rfl (fun K hK => ?_) AllReadyH.nil
  go_simp
  refine (j_any c HC.out HR.out _).mono ?_
  rintro e w9 ⟨rfl, hb9⟩
  try dsimp only
  refine hK.out _ _ ?_ (fun hHeld => ?_)
  · first | exact Sb2.mk hF hz ((Sb2.below hHeld).trans (hb9.mono (Sb2.below hHeld).size)) | exact Sb2.mk hF hz (((Sb2.below hHeld).alloc (Sb2.below hHeld).size _).trans (hb9.mono (by have := (Sb2.below hHeld).size; simp; omega)))
  clear hK K
  try simp only [Act.put, List.setIfInBounds_toArray, List.set_cons_zero, List.set_cons_succ]
  refine wpAnyH_ready (rs := [16]) (by kernel_rfl) (by simp) ?_
  refine AllReadyH.cons (o := { dst := some 25, op := Go.Op.call { callee := Go.Callee.value (Go.Operand.func 64), args := #[Go.Operand.tmp 22, Go.Operand.tmp 24], argTypes := #[71, 63] }, type := 63, pos := "figures.go:119", after := #[{ on := 13, ground := Go.Ground.data }, { on := 15, ground := Go.Ground.data }, { on := 15, ground := Go.Ground.chain }], guard := none }) rfl (fun K hK => ?_) AllReadyH.nil
  go_simp
  refine (tc_any c HC.out HR.out _ (pj_nn HR.out) (smul_r _ _) _).mono ?_
  rintro e w9 ⟨rfl, hb9⟩
  try dsimp only
  refine hK.out _ _ ?_ (fun hHeld => ?_)
  · first | exact Sb2.mk hF hz ((Sb2.below hHeld).trans (hb9.mono (Sb2.below hHeld).size)) | exact Sb2.mk hF hz (((Sb2.below hHeld).alloc (Sb2.below hHeld).size _).trans (hb9.mono (by have := (Sb2.below hHeld).size; simp; omega)))
  clear hK K
  try simp only [Act.put, List.setIfInBounds_toArray, List.set_cons_zero, List.set_cons_succ]
  refine wpAnyH_ready (rs := [17]) (by kernel_rfl) (by simp) ?_
  refine AllReadyH.cons (o := { dst := some 26, op := Go.Op.buildSlice 93 4 #[(0, Go.Operand.tmp 18), (1, Go.Operand.tmp 21), (2, Go.Operand.tmp 25), (3, Go.Operand.const (Go.Value.int Go.IntKind.i64 8))], type := 93, pos := "figures.go:117", after := #[{ on := 9, ground := Go.Ground.data }, { on := 12, ground := Go.Ground.data }, { on := 16, ground := Go.Ground.data }], guard := none }) rfl (fun K hK => ?_) AllReadyH.nil
  go_simp
  refine hK.out _ _ ?_ (fun hHeld => ?_)
  · exact Sb2.mk hF hz ((Sb2.below hHeld).alloc (Sb2.below hHeld).size _)
  clear hK K
  try simp only [Act.put, List.setIfInBounds_toArray, List.set_cons_zero, List.set_cons_succ]
  refine wpAnyH_ready (rs := [18]) (by kernel_rfl) (by simp) ?_
  refine AllReadyH.cons (o := { dst := some 27, op := Go.Op.call { callee := Go.Callee.value (Go.Operand.func 85), args := #[Go.Operand.tmp 26], argTypes := #[93] }, type := 63, pos := "figures.go:119", after := #[{ on := 17, ground := Go.Ground.data }, { on := 16, ground := Go.Ground.chain }], guard := none }) rfl (fun K hK => ?_) AllReadyH.nil
  go_simp
  first | (refine (sumD_any _ _ _ _ (by rfl) (by rfl) (by repeat (first | exact inil | refine icons (by first | exact sadd_r _ _ | exact smul_r _ _ | exact ssum_r _ | exact HC.out _ | exact plsum_r | exact pd_r _ _ | (have hq1 := HD.out; unfold R64; omega)) ?_))).mono ?_; rintro e w9 ⟨rfl, hb9⟩) | (refine (sumN_any _ _ _ _ (by rfl) (by rfl) (by repeat (first | exact inil | refine icons (by first | exact sadd_r _ _ | exact smul_r _ _ | exact ssum_r _ | exact HC.out _ | exact plsum_r | exact pd_r _ _ | (have hq1 := HD.out; unfold R64; omega)) ?_))).mono ?_; rintro e w9 ⟨rfl, hb9⟩)
  try dsimp only
  refine hK.out _ _ ?_ (fun hHeld => ?_)
  · first | exact Sb2.mk hF hz ((Sb2.below hHeld).trans (hb9.mono (Sb2.below hHeld).size)) | exact Sb2.mk hF hz (((Sb2.below hHeld).alloc (Sb2.below hHeld).size _).trans (hb9.mono (by have := (Sb2.below hHeld).size; simp; omega)))
  clear hK K
  try simp only [Act.put, List.setIfInBounds_toArray, List.set_cons_zero, List.set_cons_succ]
  refine wpAnyH_ready (rs := [19]) (by kernel_rfl) (by simp) ?_
  refine AllReadyH.cons (o := { dst := some 28, op := Go.Op.call { callee := Go.Callee.value (Go.Operand.func 48), args := #[Go.Operand.tmp 14, Go.Operand.tmp 27], argTypes := #[63, 63] }, type := 63, pos := "figures.go:119", after := #[{ on := 5, ground := Go.Ground.data }, { on := 18, ground := Go.Ground.data }, { on := 18, ground := Go.Ground.chain }], guard := none }) rfl (fun K hK => ?_) AllReadyH.nil
  go_simp
  refine (timesB _ _ (by first | exact sadd_r _ _ | exact smul_r _ _ | exact ssum_r _ | exact HC.out _ | exact plsum_r | exact pd_r _ _ | (have hq1 := HD.out; unfold R64; omega)) (by first | exact sadd_r _ _ | exact smul_r _ _ | exact ssum_r _ | exact HC.out _ | exact plsum_r | exact pd_r _ _ | (have hq1 := HD.out; unfold R64; omega)) _).mono ?_
  rintro e w9 ⟨rfl, hb9⟩
  try dsimp only
  refine hK.out _ _ ?_ (fun hHeld => ?_)
  · first | exact Sb2.mk hF hz ((Sb2.below hHeld).trans (hb9.mono (Sb2.below hHeld).size)) | exact Sb2.mk hF hz (((Sb2.below hHeld).alloc (Sb2.below hHeld).size _).trans (hb9.mono (by have := (Sb2.below hHeld).size; simp; omega)))
  clear hK K
  try simp only [Act.put, List.setIfInBounds_toArray, List.set_cons_zero, List.set_cons_succ]
  refine wpAnyH_ready (rs := [22]) (by kernel_rfl) (by simp) ?_
  refine AllReadyH.cons (o := { dst := some 31, op := Go.Op.call { callee := Go.Callee.value (Go.Operand.func 92), args := #[Go.Operand.tmp 29, Go.Operand.tmp 30], argTypes := #[71, 63] }, type := 63, pos := "figures.go:120", after := #[{ on := 20, ground := Go.Ground.data }, { on := 21, ground := Go.Ground.data }, { on := 19, ground := Go.Ground.chain }], guard := none }) rfl (fun K hK => ?_) AllReadyH.nil
  go_simp
  refine (entries_any c HC.out HR.out _ (pn_nn HR.out HX0.out) (ssum_r _) _).mono ?_
  rintro e w9 ⟨rfl, hb9⟩
  try dsimp only
  refine hK.out _ _ ?_ (fun hHeld => ?_)
  · first | exact Sb2.mk hF hz ((Sb2.below hHeld).trans (hb9.mono (Sb2.below hHeld).size)) | exact Sb2.mk hF hz (((Sb2.below hHeld).alloc (Sb2.below hHeld).size _).trans (hb9.mono (by have := (Sb2.below hHeld).size; simp; omega)))
  clear hK K
  try simp only [Act.put, List.setIfInBounds_toArray, List.set_cons_zero, List.set_cons_succ]
  refine wpAnyH_ready (rs := [25]) (by kernel_rfl) (by simp) ?_
  refine AllReadyH.cons (o := { dst := some 34, op := Go.Op.call { callee := Go.Callee.value (Go.Operand.func 64), args := #[Go.Operand.tmp 32, Go.Operand.tmp 33], argTypes := #[71, 63] }, type := 63, pos := "figures.go:120", after := #[{ on := 23, ground := Go.Ground.data }, { on := 24, ground := Go.Ground.data }, { on := 22, ground := Go.Ground.chain }], guard := none }) rfl (fun K hK => ?_) AllReadyH.nil
  go_simp
  refine (tc_any c HC.out HR.out _ (pn_nn HR.out HX0.out) (ssum_r _) _).mono ?_
  rintro e w9 ⟨rfl, hb9⟩
  try dsimp only
  refine hK.out _ _ ?_ (fun hHeld => ?_)
  · first | exact Sb2.mk hF hz ((Sb2.below hHeld).trans (hb9.mono (Sb2.below hHeld).size)) | exact Sb2.mk hF hz (((Sb2.below hHeld).alloc (Sb2.below hHeld).size _).trans (hb9.mono (by have := (Sb2.below hHeld).size; simp; omega)))
  clear hK K
  try simp only [Act.put, List.setIfInBounds_toArray, List.set_cons_zero, List.set_cons_succ]
  refine wpAnyH_ready (rs := [28]) (by kernel_rfl) (by simp) ?_
  refine AllReadyH.cons (o := { dst := some 37, op := Go.Op.call { callee := Go.Callee.value (Go.Operand.func 91), args := #[Go.Operand.tmp 36], argTypes := #[71] }, type := 63, pos := "figures.go:120", after := #[{ on := 27, ground := Go.Ground.data }, { on := 25, ground := Go.Ground.chain }], guard := none }) rfl (fun K hK => ?_) AllReadyH.nil
  go_simp
  refine (j_any c HC.out HR.out _).mono ?_
  rintro e w9 ⟨rfl, hb9⟩
  try dsimp only
  refine hK.out _ _ ?_ (fun hHeld => ?_)
  · first | exact Sb2.mk hF hz ((Sb2.below hHeld).trans (hb9.mono (Sb2.below hHeld).size)) | exact Sb2.mk hF hz (((Sb2.below hHeld).alloc (Sb2.below hHeld).size _).trans (hb9.mono (by have := (Sb2.below hHeld).size; simp; omega)))
  clear hK K
  try simp only [Act.put, List.setIfInBounds_toArray, List.set_cons_zero, List.set_cons_succ]
  refine wpAnyH_ready (rs := [29]) (by kernel_rfl) (by simp) ?_
  refine AllReadyH.cons (o := { dst := some 38, op := Go.Op.call { callee := Go.Callee.value (Go.Operand.func 64), args := #[Go.Operand.tmp 35, Go.Operand.tmp 37], argTypes := #[71, 63] }, type := 63, pos := "figures.go:120", after := #[{ on := 26, ground := Go.Ground.data }, { on := 28, ground := Go.Ground.data }, { on := 28, ground := Go.Ground.chain }], guard := none }) rfl (fun K hK => ?_) AllReadyH.nil
  go_simp
  refine (tc_any c HC.out HR.out _ (pj_nn HR.out) (smul_r _ _) _).mono ?_
  rintro e w9 ⟨rfl, hb9⟩
  try dsimp only
  refine hK.out _ _ ?_ (fun hHeld => ?_)
  · first | exact Sb2.mk hF hz ((Sb2.below hHeld).trans (hb9.mono (Sb2.below hHeld).size)) | exact Sb2.mk hF hz (((Sb2.below hHeld).alloc (Sb2.below hHeld).size _).trans (hb9.mono (by have := (Sb2.below hHeld).size; simp; omega)))
  clear hK K
  try simp only [Act.put, List.setIfInBounds_toArray, List.set_cons_zero, List.set_cons_succ]
  refine wpAnyH_ready (rs := [30]) (by kernel_rfl) (by simp) ?_
  refine AllReadyH.cons (o := { dst := some 39, op := Go.Op.buildSlice 93 3 #[(0, Go.Operand.tmp 34), (1, Go.Operand.tmp 38), (2, Go.Operand.const (Go.Value.int Go.IntKind.i64 2))], type := 93, pos := "figures.go:117", after := #[{ on := 25, ground := Go.Ground.data }, { on := 29, ground := Go.Ground.data }], guard := none }) rfl (fun K hK => ?_) AllReadyH.nil
  go_simp
  refine hK.out _ _ ?_ (fun hHeld => ?_)
  · exact Sb2.mk hF hz ((Sb2.below hHeld).alloc (Sb2.below hHeld).size _)
  clear hK K
  try simp only [Act.put, List.setIfInBounds_toArray, List.set_cons_zero, List.set_cons_succ]
  refine wpAnyH_ready (rs := [31]) (by kernel_rfl) (by simp) ?_
  refine AllReadyH.cons (o := { dst := some 40, op := Go.Op.call { callee := Go.Callee.value (Go.Operand.func 85), args := #[Go.Operand.tmp 39], argTypes := #[93] }, type := 63, pos := "figures.go:120", after := #[{ on := 30, ground := Go.Ground.data }, { on := 29, ground := Go.Ground.chain }], guard := none }) rfl (fun K hK => ?_) AllReadyH.nil
  go_simp
  first | (refine (sumD_any _ _ _ _ (by rfl) (by rfl) (by repeat (first | exact inil | refine icons (by first | exact sadd_r _ _ | exact smul_r _ _ | exact ssum_r _ | exact HC.out _ | exact plsum_r | exact pd_r _ _ | (have hq1 := HD.out; unfold R64; omega)) ?_))).mono ?_; rintro e w9 ⟨rfl, hb9⟩) | (refine (sumN_any _ _ _ _ (by rfl) (by rfl) (by repeat (first | exact inil | refine icons (by first | exact sadd_r _ _ | exact smul_r _ _ | exact ssum_r _ | exact HC.out _ | exact plsum_r | exact pd_r _ _ | (have hq1 := HD.out; unfold R64; omega)) ?_))).mono ?_; rintro e w9 ⟨rfl, hb9⟩)
  try dsimp only
  refine hK.out _ _ ?_ (fun hHeld => ?_)
  · first | exact Sb2.mk hF hz ((Sb2.below hHeld).trans (hb9.mono (Sb2.below hHeld).size)) | exact Sb2.mk hF hz (((Sb2.below hHeld).alloc (Sb2.below hHeld).size _).trans (hb9.mono (by have := (Sb2.below hHeld).size; simp; omega)))
  clear hK K
  try simp only [Act.put, List.setIfInBounds_toArray, List.set_cons_zero, List.set_cons_succ]
  refine wpAnyH_ready (rs := [32]) (by kernel_rfl) (by simp) ?_
  refine AllReadyH.cons (o := { dst := some 41, op := Go.Op.call { callee := Go.Callee.value (Go.Operand.func 48), args := #[Go.Operand.tmp 31, Go.Operand.tmp 40], argTypes := #[63, 63] }, type := 63, pos := "figures.go:120", after := #[{ on := 22, ground := Go.Ground.data }, { on := 31, ground := Go.Ground.data }, { on := 31, ground := Go.Ground.chain }], guard := none }) rfl (fun K hK => ?_) AllReadyH.nil
  go_simp
  refine (timesB _ _ (by first | exact sadd_r _ _ | exact smul_r _ _ | exact ssum_r _ | exact HC.out _ | exact plsum_r | exact pd_r _ _ | (have hq1 := HD.out; unfold R64; omega)) (by first | exact sadd_r _ _ | exact smul_r _ _ | exact ssum_r _ | exact HC.out _ | exact plsum_r | exact pd_r _ _ | (have hq1 := HD.out; unfold R64; omega)) _).mono ?_
  rintro e w9 ⟨rfl, hb9⟩
  try dsimp only
  refine hK.out _ _ ?_ (fun hHeld => ?_)
  · first | exact Sb2.mk hF hz ((Sb2.below hHeld).trans (hb9.mono (Sb2.below hHeld).size)) | exact Sb2.mk hF hz (((Sb2.below hHeld).alloc (Sb2.below hHeld).size _).trans (hb9.mono (by have := (Sb2.below hHeld).size; simp; omega)))
  clear hK K
  try simp only [Act.put, List.setIfInBounds_toArray, List.set_cons_zero, List.set_cons_succ]
  refine wpAnyH_ready (rs := [39]) (by kernel_rfl) (by simp) ?_
  refine AllReadyH.cons (o := { dst := some 48, op := Go.Op.buildSlice 93 6 #[(0, Go.Operand.tmp 11), (1, Go.Operand.tmp 28), (2, Go.Operand.tmp 41), (3, Go.Operand.tmp 45), (4, Go.Operand.tmp 47), (5, Go.Operand.const (Go.Value.int Go.IntKind.i64 40))], type := 93, pos := "figures.go:117", after := #[{ on := 2, ground := Go.Ground.data }, { on := 19, ground := Go.Ground.data }, { on := 32, ground := Go.Ground.data }, { on := 36, ground := Go.Ground.data }, { on := 38, ground := Go.Ground.data }], guard := none }) rfl (fun K hK => ?_) AllReadyH.nil
  go_simp
  refine hK.out _ _ ?_ (fun hHeld => ?_)
  · exact Sb2.mk hF hz ((Sb2.below hHeld).alloc (Sb2.below hHeld).size _)
  clear hK K
  try simp only [Act.put, List.setIfInBounds_toArray, List.set_cons_zero, List.set_cons_succ]
  refine wpAnyH_ready (rs := [40]) (by kernel_rfl) (by simp) ?_
  refine AllReadyH.cons (o := { dst := some 49, op := Go.Op.call { callee := Go.Callee.value (Go.Operand.func 85), args := #[Go.Operand.tmp 48], argTypes := #[93] }, type := 63, pos := "figures.go:117", after := #[{ on := 39, ground := Go.Ground.data }, { on := 32, ground := Go.Ground.chain }], guard := none }) rfl (fun K hK => ?_) AllReadyH.nil
  go_simp
  first | (refine (sumD_any _ _ _ _ (by rfl) (by rfl) (by repeat (first | exact inil | refine icons (by first | exact sadd_r _ _ | exact smul_r _ _ | exact ssum_r _ | exact HC.out _ | exact plsum_r | exact pd_r _ _ | (have hq1 := HD.out; unfold R64; omega)) ?_))).mono ?_; rintro e w9 ⟨rfl, hb9⟩) | (refine (sumN_any _ _ _ _ (by rfl) (by rfl) (by repeat (first | exact inil | refine icons (by first | exact sadd_r _ _ | exact smul_r _ _ | exact ssum_r _ | exact HC.out _ | exact plsum_r | exact pd_r _ _ | (have hq1 := HD.out; unfold R64; omega)) ?_))).mono ?_; rintro e w9 ⟨rfl, hb9⟩)
  try dsimp only
  refine hK.out _ _ ?_ (fun hHeld => ?_)
  · first | exact Sb2.mk hF hz ((Sb2.below hHeld).trans (hb9.mono (Sb2.below hHeld).size)) | exact Sb2.mk hF hz (((Sb2.below hHeld).alloc (Sb2.below hHeld).size _).trans (hb9.mono (by have := (Sb2.below hHeld).size; simp; omega)))
  clear hK K
  try simp only [Act.put, List.setIfInBounds_toArray, List.set_cons_zero, List.set_cons_succ]
  refine wpAnyH_take (i := 41) (oi := { dst := some 4, op := Go.Op.assign (Go.Operand.tmp 49), type := 63, pos := "figures.go:117", after := #[{ on := 40, ground := Go.Ground.data }, { on := 40, ground := Go.Ground.chain }, { on := 0, ground := Go.Ground.phase }, { on := 1, ground := Go.Ground.phase }, { on := 2, ground := Go.Ground.phase }, { on := 3, ground := Go.Ground.phase }, { on := 4, ground := Go.Ground.phase }, { on := 5, ground := Go.Ground.phase }, { on := 6, ground := Go.Ground.phase }, { on := 7, ground := Go.Ground.phase }, { on := 8, ground := Go.Ground.phase }, { on := 9, ground := Go.Ground.phase }, { on := 10, ground := Go.Ground.phase }, { on := 11, ground := Go.Ground.phase }, { on := 12, ground := Go.Ground.phase }, { on := 13, ground := Go.Ground.phase }, { on := 14, ground := Go.Ground.phase }, { on := 15, ground := Go.Ground.phase }, { on := 16, ground := Go.Ground.phase }, { on := 17, ground := Go.Ground.phase }, { on := 18, ground := Go.Ground.phase }, { on := 19, ground := Go.Ground.phase }, { on := 20, ground := Go.Ground.phase }, { on := 21, ground := Go.Ground.phase }, { on := 22, ground := Go.Ground.phase }, { on := 23, ground := Go.Ground.phase }, { on := 24, ground := Go.Ground.phase }, { on := 25, ground := Go.Ground.phase }, { on := 26, ground := Go.Ground.phase }, { on := 27, ground := Go.Ground.phase }, { on := 28, ground := Go.Ground.phase }, { on := 29, ground := Go.Ground.phase }, { on := 30, ground := Go.Ground.phase }, { on := 31, ground := Go.Ground.phase }, { on := 32, ground := Go.Ground.phase }, { on := 33, ground := Go.Ground.phase }, { on := 34, ground := Go.Ground.phase }, { on := 35, ground := Go.Ground.phase }, { on := 36, ground := Go.Ground.phase }, { on := 37, ground := Go.Ground.phase }, { on := 38, ground := Go.Ground.phase }, { on := 39, ground := Go.Ground.phase }, { on := 40, ground := Go.Ground.phase }], guard := none }) (v := ?_) rfl (by kernel_rfl) (by kernel_rfl) (by kernel_rfl) (fun _ _ _ h => h) (Or.inl ⟨by rfl, ?_⟩) hHeld ?_
  rotate_left
  · (intro wq hSw; (try dsimp only at hSw); go_simp; try (with_reducible rfl))
  try simp only [Act.put, List.setIfInBounds_toArray, List.set_cons_zero, List.set_cons_succ]
  refine wpAnyH_done (by kernel_rfl) ?_ _
  have HBZ := hid (Sb2.below hHeld)
  clear hHeld
  go_wp2
  go_ret
  exact ⟨rfl, HBW.out.trans (HBZ.out.mono HBW.out.size)⟩

end Pcm
end Go.Proofs.Ytebfokjgeknciaa
