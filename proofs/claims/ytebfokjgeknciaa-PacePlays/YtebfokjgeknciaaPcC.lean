import Derived.Test.YtebfokjgeknciaaPcA
import Derived.Test.YtebfokjgeknciaaPcB
namespace Go.Proofs.Ytebfokjgeknciaa
namespace Pcm
open Go.RowKit Laws Irw
set_option linter.unusedVariables false
set_option linter.unusedSimpArgs false
set_option maxRecDepth 20000

def Sb1 (W : World) (B : Nat) (c : Cf) (V : World) : Prop := Lf V B c ∧ V.cell? ⟨B, 3, none⟩ = some (.int .i64 (c 4)) ∧ V.cell? ⟨B, 11, none⟩ = some (.int .i64 (c 19)) ∧ V.cell? ⟨B, 0, none⟩ = some (.int .i64 (c 0)) ∧ Below W.heap.size W V
theorem Sb1.mk {W V : World} {B : Nat} {c : Cf} (h : Lf W B c) (hz : B < W.heap.size) (hb : Below W.heap.size W V) : Sb1 W B c V :=
  ⟨h.keep hz hb, (h.keep hz hb).cell 3 rfl, (h.keep hz hb).cell 11 rfl, (h.keep hz hb).cell 0 rfl, hb⟩
theorem Sb1.below {W V : World} {B : Nat} {c : Cf} (h : Sb1 W B c V) : Below W.heap.size W V := h.2.2.2.2

set_option maxHeartbeats 8000000 in
theorem b1_any (c : Cf) (hc : RC c) (h : Right c) (x : Int) (hx : 0 ≤ x) (hxr : R64 x) (w : World) :
    Calls Try.prog 67 #[.agg (figA c), .int .i64 x] w fun e w' => e = .returned (.int .i64 (pb1 c x)) ∧ Below w.heap.size w w' := by
  have HC := hid hc
  have HR := hid h
  have HX := hid hxr
  have HX0 := hid hx
  obtain ⟨a1, a2⟩ := h.o.h19
  have HD := hid (And.intro hxr (div_le (show (0 : Int) ≤ 17408 by omega) (show 1 ≤ c 19 by omega)))
  unfold R64 at HD
  have q0 : ¬ c 19 = 0 := by omega
  have q1 := wtd (show (0 : Int) ≤ 17408 by omega) (by unfold R64; omega) (show 1 ≤ c 19 by omega)
  clear hc h
  have hL0 := lf_new w c 71
  go_enter Try.func67, Try.ntmps67
  go_wp2_with (first | (refine wpList_fig (by rfl) _ (by rfl) (by rfl) hL0 ?_) | (go_at_call 87; go_loud (refine (t0_any c HC.out HR.out x HX0.out HX.out _).mono ?_; rintro e w1 ⟨rfl, hb1⟩; have HB1 := hid hb1; clear hb1)))
  have hz0 : w.heap.size < (w.alloc (.cells (figA c) 71)).heap.size := by simp
  have HB0 : Hid (Below w.heap.size w (w.alloc (.cells (figA c) 71))) := (Below.refl _ _).alloc (Nat.le_refl _) _
  have hF : Lf w1 w.heap.size c := hL0.keep hz0 HB1.out
  have HBW : Hid (Below w.heap.size w w1) := HB0.out.trans (HB1.out.mono HB0.out.size)
  have hz : w.heap.size < w1.heap.size := Nat.lt_of_lt_of_le hz0 HB1.out.size
  clear hL0 HB0 hz0 HB1
  generalize w1 = W at *
  refine wp_region_held_drew (S := (fun V => Lf V w.heap.size c ∧ V.cell? ⟨w.heap.size, 3, none⟩ = some (.int .i64 (c 4)) ∧ V.cell? ⟨w.heap.size, 11, none⟩ = some (.int .i64 (c 19)) ∧ V.cell? ⟨w.heap.size, 0, none⟩ = some (.int .i64 (c 0)) ∧ Below W.heap.size W V)) (by kernel_rfl) ?_ (fun hHeld => ?_)
  · exact Sb1.mk hF hz (Below.refl _ _).drew
  refine wpAnyH_take (i := 0) (oi := { dst := some 10, op := Go.Op.load 71 (Go.Operand.tmp 2), type := 71, pos := "figures.go:102", after := #[], guard := none }) rfl (by kernel_rfl) (by kernel_rfl) (by kernel_rfl) (fun _ _ _ h => h) (yl_fig (by rfl) _ (by rfl) (by rfl) (fun V h => h.1)) hHeld ?_
  try simp only [Act.put, List.setIfInBounds_toArray, List.set_cons_zero, List.set_cons_succ]
  refine wpAnyH_take (i := 3) (oi := { dst := some 13, op := Go.Op.move (Go.Operand.tmp 5), type := 63, pos := "figures.go:102", after := #[], guard := none }) (v := ?_) rfl (by kernel_rfl) (by kernel_rfl) (by kernel_rfl) (fun _ _ _ h => h) (Or.inl ⟨by rfl, ?_⟩) hHeld ?_
  rotate_left
  · (intro wq hSw; (try dsimp only at hSw); go_simp; try (with_reducible rfl))
  try simp only [Act.put, List.setIfInBounds_toArray, List.set_cons_zero, List.set_cons_succ]
  refine wpAnyH_take (i := 6) (oi := { dst := some 16, op := Go.Op.load 71 (Go.Operand.tmp 2), type := 71, pos := "figures.go:102", after := #[], guard := none }) rfl (by kernel_rfl) (by kernel_rfl) (by kernel_rfl) (fun _ _ _ h => h) (yl_fig (by rfl) _ (by rfl) (by rfl) (fun V h => h.1)) hHeld ?_
  try simp only [Act.put, List.setIfInBounds_toArray, List.set_cons_zero, List.set_cons_succ]
  refine wpAnyH_take (i := 7) (oi := { dst := some 17, op := Go.Op.move (Go.Operand.tmp 1), type := 63, pos := "figures.go:102", after := #[], guard := none }) (v := ?_) rfl (by kernel_rfl) (by kernel_rfl) (by kernel_rfl) (fun _ _ _ h => h) (Or.inl ⟨by rfl, ?_⟩) hHeld ?_
  rotate_left
  · (intro wq hSw; (try dsimp only at hSw); go_simp; try (with_reducible rfl))
  try simp only [Act.put, List.setIfInBounds_toArray, List.set_cons_zero, List.set_cons_succ]
  refine wpAnyH_take (i := 9) (oi := { dst := some 19, op := Go.Op.fieldAddr 71 (Go.Operand.tmp 2) 3, type := 0, pos := "figures.go:102", after := #[], guard := none }) (v := ?_) rfl (by kernel_rfl) (by kernel_rfl) (by kernel_rfl) (fun _ _ _ h => h) (Or.inl ⟨by rfl, ?_⟩) hHeld ?_
  rotate_left
  · (intro wq hSw; (try dsimp only at hSw); go_simp; try (with_reducible rfl))
  try simp only [Act.put, List.setIfInBounds_toArray, List.set_cons_zero, List.set_cons_succ]
  refine wpAnyH_take (i := 10) (oi := { dst := some 20, op := Go.Op.load 63 (Go.Operand.tmp 19), type := 63, pos := "figures.go:102", after := #[{ on := 9, ground := Go.Ground.data }], guard := none }) (v := ?_) rfl (by kernel_rfl) (by kernel_rfl) (by kernel_rfl) (fun _ _ _ h => h) (Or.inl ⟨by rfl, ?_⟩) hHeld ?_
  rotate_left
  · (intro wq hSw; (try dsimp only at hSw); go_simp; try (with_reducible rfl))
  try simp only [Act.put, List.setIfInBounds_toArray, List.set_cons_zero, List.set_cons_succ]
  refine wpAnyH_take (i := 12) (oi := { dst := some 22, op := Go.Op.move (Go.Operand.tmp 5), type := 63, pos := "figures.go:102", after := #[], guard := none }) (v := ?_) rfl (by kernel_rfl) (by kernel_rfl) (by kernel_rfl) (fun _ _ _ h => h) (Or.inl ⟨by rfl, ?_⟩) hHeld ?_
  rotate_left
  · (intro wq hSw; (try dsimp only at hSw); go_simp; try (with_reducible rfl))
  try simp only [Act.put, List.setIfInBounds_toArray, List.set_cons_zero, List.set_cons_succ]
  refine wpAnyH_take (i := 13) (oi := { dst := some 23, op := Go.Op.load 71 (Go.Operand.tmp 2), type := 71, pos := "figures.go:102", after := #[], guard := none }) rfl (by kernel_rfl) (by kernel_rfl) (by kernel_rfl) (fun _ _ _ h => h) (yl_fig (by rfl) _ (by rfl) (by rfl) (fun V h => h.1)) hHeld ?_
  try simp only [Act.put, List.setIfInBounds_toArray, List.set_cons_zero, List.set_cons_succ]
  refine wpAnyH_take (i := 14) (oi := { dst := some 24, op := Go.Op.load 71 (Go.Operand.tmp 2), type := 71, pos := "figures.go:102", after := #[], guard := none }) rfl (by kernel_rfl) (by kernel_rfl) (by kernel_rfl) (fun _ _ _ h => h) (yl_fig (by rfl) _ (by rfl) (by rfl) (fun V h => h.1)) hHeld ?_
  try simp only [Act.put, List.setIfInBounds_toArray, List.set_cons_zero, List.set_cons_succ]
  refine wpAnyH_take (i := 20) (oi := { dst := some 30, op := Go.Op.fieldAddr 71 (Go.Operand.tmp 2) 11, type := 0, pos := "figures.go:102", after := #[], guard := none }) (v := ?_) rfl (by kernel_rfl) (by kernel_rfl) (by kernel_rfl) (fun _ _ _ h => h) (Or.inl ⟨by rfl, ?_⟩) hHeld ?_
  rotate_left
  · (intro wq hSw; (try dsimp only at hSw); go_simp; try (with_reducible rfl))
  try simp only [Act.put, List.setIfInBounds_toArray, List.set_cons_zero, List.set_cons_succ]
  refine wpAnyH_take (i := 21) (oi := { dst := some 31, op := Go.Op.load 63 (Go.Operand.tmp 30), type := 63, pos := "figures.go:102", after := #[{ on := 20, ground := Go.Ground.data }], guard := none }) (v := ?_) rfl (by kernel_rfl) (by kernel_rfl) (by kernel_rfl) (fun _ _ _ h => h) (Or.inl ⟨by rfl, ?_⟩) hHeld ?_
  rotate_left
  · (intro wq hSw; (try dsimp only at hSw); go_simp; try (with_reducible rfl))
  try simp only [Act.put, List.setIfInBounds_toArray, List.set_cons_zero, List.set_cons_succ]
  refine wpAnyH_take (i := 22) (oi := { dst := some 32, op := Go.Op.binOp Go.BinOp.quo 63 (Go.Operand.const (Go.Value.int Go.IntKind.i64 17408)) (Go.Operand.tmp 31) 63, type := 63, pos := "figures.go:102", after := #[{ on := 21, ground := Go.Ground.data }], guard := none }) (v := ?_) rfl (by kernel_rfl) (by kernel_rfl) (by kernel_rfl) (fun _ _ _ h => h) (Or.inl ⟨by rfl, ?_⟩) hHeld ?_
  rotate_left
  · (intro wq hSw; (try dsimp only at hSw); go_simp; try (with_reducible rfl))
  try simp only [Act.put, List.setIfInBounds_toArray, List.set_cons_zero, List.set_cons_succ]
  refine wpAnyH_take (i := 23) (oi := { dst := some 33, op := Go.Op.fieldAddr 71 (Go.Operand.tmp 2) 0, type := 0, pos := "figures.go:102", after := #[], guard := none }) (v := ?_) rfl (by kernel_rfl) (by kernel_rfl) (by kernel_rfl) (fun _ _ _ h => h) (Or.inl ⟨by rfl, ?_⟩) hHeld ?_
  rotate_left
  · (intro wq hSw; (try dsimp only at hSw); go_simp; try (with_reducible rfl))
  try simp only [Act.put, List.setIfInBounds_toArray, List.set_cons_zero, List.set_cons_succ]
  refine wpAnyH_take (i := 24) (oi := { dst := some 34, op := Go.Op.load 63 (Go.Operand.tmp 33), type := 63, pos := "figures.go:102", after := #[{ on := 23, ground := Go.Ground.data }], guard := none }) (v := ?_) rfl (by kernel_rfl) (by kernel_rfl) (by kernel_rfl) (fun _ _ _ h => h) (Or.inl ⟨by rfl, ?_⟩) hHeld ?_
  rotate_left
  · (intro wq hSw; (try dsimp only at hSw); go_simp; try (with_reducible rfl))
  try simp only [Act.put, List.setIfInBounds_toArray, List.set_cons_zero, List.set_cons_succ]
  refine wpAnyH_ready (rs := [1]) (by kernel_rfl) (by simp) ?_
  refine AllReadyH.cons (o := { dst := some 11, op := Go.Op.call { callee := Go.Callee.value (Go.Operand.func 88), args := #[Go.Operand.tmp 10], argTypes := #[71] }, type := 63, pos := "figures.go:103", after := #[{ on := 0, ground := Go.Ground.data }], guard := none }) rfl (fun K hK => ?_) AllReadyH.nil
  go_simp
  refine (q_any c HC.out HR.out _).mono ?_
  rintro e w9 ⟨rfl, hb9⟩
  try dsimp only
  refine hK.out _ _ ?_ (fun hHeld => ?_)
  · first | exact Sb1.mk hF hz ((Sb1.below hHeld).trans (hb9.mono (Sb1.below hHeld).size)) | exact Sb1.mk hF hz (((Sb1.below hHeld).alloc (Sb1.below hHeld).size _).trans (hb9.mono (by have := (Sb1.below hHeld).size; simp; omega)))
  clear hK K
  try simp only [Act.put, List.setIfInBounds_toArray, List.set_cons_zero, List.set_cons_succ]
  refine wpAnyH_ready (rs := [2]) (by kernel_rfl) (by simp) ?_
  refine AllReadyH.cons (o := { dst := some 12, op := Go.Op.call { callee := Go.Callee.value (Go.Operand.func 47), args := #[Go.Operand.tmp 11, Go.Operand.const (Go.Value.int Go.IntKind.i64 2)], argTypes := #[63, 63] }, type := 63, pos := "figures.go:103", after := #[{ on := 1, ground := Go.Ground.data }, { on := 1, ground := Go.Ground.chain }], guard := none }) rfl (fun K hK => ?_) AllReadyH.nil
  go_simp
  refine (plusB _ _ (by first | exact sadd_r _ _ | exact smul_r _ _ | exact ssum_r _ | exact HC.out _ | exact plsum_r | exact pd_r _ _ | (have hq1 := HD.out; unfold R64; omega)) (by first | exact sadd_r _ _ | exact smul_r _ _ | exact ssum_r _ | exact HC.out _ | exact plsum_r | exact pd_r _ _ | (have hq1 := HD.out; unfold R64; omega)) _).mono ?_
  rintro e w9 ⟨rfl, hb9⟩
  try dsimp only
  refine hK.out _ _ ?_ (fun hHeld => ?_)
  · first | exact Sb1.mk hF hz ((Sb1.below hHeld).trans (hb9.mono (Sb1.below hHeld).size)) | exact Sb1.mk hF hz (((Sb1.below hHeld).alloc (Sb1.below hHeld).size _).trans (hb9.mono (by have := (Sb1.below hHeld).size; simp; omega)))
  clear hK K
  try simp only [Act.put, List.setIfInBounds_toArray, List.set_cons_zero, List.set_cons_succ]
  refine wpAnyH_ready (rs := [4]) (by kernel_rfl) (by simp) ?_
  refine AllReadyH.cons (o := { dst := some 14, op := Go.Op.call { callee := Go.Callee.value (Go.Operand.func 47), args := #[Go.Operand.tmp 13, Go.Operand.const (Go.Value.int Go.IntKind.i64 2)], argTypes := #[63, 63] }, type := 63, pos := "figures.go:103", after := #[{ on := 3, ground := Go.Ground.data }, { on := 2, ground := Go.Ground.chain }], guard := none }) rfl (fun K hK => ?_) AllReadyH.nil
  go_simp
  refine (plusB _ _ (by first | exact sadd_r _ _ | exact smul_r _ _ | exact ssum_r _ | exact HC.out _ | exact plsum_r | exact pd_r _ _ | (have hq1 := HD.out; unfold R64; omega)) (by first | exact sadd_r _ _ | exact smul_r _ _ | exact ssum_r _ | exact HC.out _ | exact plsum_r | exact pd_r _ _ | (have hq1 := HD.out; unfold R64; omega)) _).mono ?_
  rintro e w9 ⟨rfl, hb9⟩
  try dsimp only
  refine hK.out _ _ ?_ (fun hHeld => ?_)
  · first | exact Sb1.mk hF hz ((Sb1.below hHeld).trans (hb9.mono (Sb1.below hHeld).size)) | exact Sb1.mk hF hz (((Sb1.below hHeld).alloc (Sb1.below hHeld).size _).trans (hb9.mono (by have := (Sb1.below hHeld).size; simp; omega)))
  clear hK K
  try simp only [Act.put, List.setIfInBounds_toArray, List.set_cons_zero, List.set_cons_succ]
  refine wpAnyH_ready (rs := [5]) (by kernel_rfl) (by simp) ?_
  refine AllReadyH.cons (o := { dst := some 15, op := Go.Op.call { callee := Go.Callee.value (Go.Operand.func 48), args := #[Go.Operand.tmp 12, Go.Operand.tmp 14], argTypes := #[63, 63] }, type := 63, pos := "figures.go:103", after := #[{ on := 2, ground := Go.Ground.data }, { on := 4, ground := Go.Ground.data }, { on := 4, ground := Go.Ground.chain }], guard := none }) rfl (fun K hK => ?_) AllReadyH.nil
  go_simp
  refine (timesB _ _ (by first | exact sadd_r _ _ | exact smul_r _ _ | exact ssum_r _ | exact HC.out _ | exact plsum_r | exact pd_r _ _ | (have hq1 := HD.out; unfold R64; omega)) (by first | exact sadd_r _ _ | exact smul_r _ _ | exact ssum_r _ | exact HC.out _ | exact plsum_r | exact pd_r _ _ | (have hq1 := HD.out; unfold R64; omega)) _).mono ?_
  rintro e w9 ⟨rfl, hb9⟩
  try dsimp only
  refine hK.out _ _ ?_ (fun hHeld => ?_)
  · first | exact Sb1.mk hF hz ((Sb1.below hHeld).trans (hb9.mono (Sb1.below hHeld).size)) | exact Sb1.mk hF hz (((Sb1.below hHeld).alloc (Sb1.below hHeld).size _).trans (hb9.mono (by have := (Sb1.below hHeld).size; simp; omega)))
  clear hK K
  try simp only [Act.put, List.setIfInBounds_toArray, List.set_cons_zero, List.set_cons_succ]
  refine wpAnyH_ready (rs := [8]) (by kernel_rfl) (by simp) ?_
  refine AllReadyH.cons (o := { dst := some 18, op := Go.Op.call { callee := Go.Callee.value (Go.Operand.func 89), args := #[Go.Operand.tmp 16, Go.Operand.tmp 17], argTypes := #[71, 63] }, type := 63, pos := "figures.go:104", after := #[{ on := 6, ground := Go.Ground.data }, { on := 7, ground := Go.Ground.data }, { on := 5, ground := Go.Ground.chain }], guard := none }) rfl (fun K hK => ?_) AllReadyH.nil
  go_simp
  refine (td_any c HC.out HR.out _ HX0.out HX.out _).mono ?_
  rintro e w9 ⟨rfl, hb9⟩
  try dsimp only
  refine hK.out _ _ ?_ (fun hHeld => ?_)
  · first | exact Sb1.mk hF hz ((Sb1.below hHeld).trans (hb9.mono (Sb1.below hHeld).size)) | exact Sb1.mk hF hz (((Sb1.below hHeld).alloc (Sb1.below hHeld).size _).trans (hb9.mono (by have := (Sb1.below hHeld).size; simp; omega)))
  clear hK K
  try simp only [Act.put, List.setIfInBounds_toArray, List.set_cons_zero, List.set_cons_succ]
  refine wpAnyH_ready (rs := [11]) (by kernel_rfl) (by simp) ?_
  refine AllReadyH.cons (o := { dst := some 21, op := Go.Op.call { callee := Go.Callee.value (Go.Operand.func 47), args := #[Go.Operand.tmp 20, Go.Operand.const (Go.Value.int Go.IntKind.i64 1)], argTypes := #[63, 63] }, type := 63, pos := "figures.go:105", after := #[{ on := 10, ground := Go.Ground.data }, { on := 8, ground := Go.Ground.chain }], guard := none }) rfl (fun K hK => ?_) AllReadyH.nil
  go_simp
  refine (plusB _ _ (by first | exact sadd_r _ _ | exact smul_r _ _ | exact ssum_r _ | exact HC.out _ | exact plsum_r | exact pd_r _ _ | (have hq1 := HD.out; unfold R64; omega)) (by first | exact sadd_r _ _ | exact smul_r _ _ | exact ssum_r _ | exact HC.out _ | exact plsum_r | exact pd_r _ _ | (have hq1 := HD.out; unfold R64; omega)) _).mono ?_
  rintro e w9 ⟨rfl, hb9⟩
  try dsimp only
  refine hK.out _ _ ?_ (fun hHeld => ?_)
  · first | exact Sb1.mk hF hz ((Sb1.below hHeld).trans (hb9.mono (Sb1.below hHeld).size)) | exact Sb1.mk hF hz (((Sb1.below hHeld).alloc (Sb1.below hHeld).size _).trans (hb9.mono (by have := (Sb1.below hHeld).size; simp; omega)))
  clear hK K
  try simp only [Act.put, List.setIfInBounds_toArray, List.set_cons_zero, List.set_cons_succ]
  refine wpAnyH_ready (rs := [15]) (by kernel_rfl) (by simp) ?_
  refine AllReadyH.cons (o := { dst := some 25, op := Go.Op.call { callee := Go.Callee.value (Go.Operand.func 56), args := #[Go.Operand.tmp 24], argTypes := #[71] }, type := 63, pos := "figures.go:105", after := #[{ on := 14, ground := Go.Ground.data }, { on := 11, ground := Go.Ground.chain }], guard := none }) rfl (fun K hK => ?_) AllReadyH.nil
  go_simp
  refine (memCap_any c HC.out _).mono ?_
  rintro e w9 ⟨rfl, hb9⟩
  try dsimp only
  refine hK.out _ _ ?_ (fun hHeld => ?_)
  · first | exact Sb1.mk hF hz ((Sb1.below hHeld).trans (hb9.mono (Sb1.below hHeld).size)) | exact Sb1.mk hF hz (((Sb1.below hHeld).alloc (Sb1.below hHeld).size _).trans (hb9.mono (by have := (Sb1.below hHeld).size; simp; omega)))
  clear hK K
  try simp only [Act.put, List.setIfInBounds_toArray, List.set_cons_zero, List.set_cons_succ]
  refine wpAnyH_ready (rs := [16]) (by kernel_rfl) (by simp) ?_
  refine AllReadyH.cons (o := { dst := some 26, op := Go.Op.call { callee := Go.Callee.value (Go.Operand.func 60), args := #[Go.Operand.tmp 23, Go.Operand.tmp 25], argTypes := #[71, 63] }, type := 63, pos := "figures.go:105", after := #[{ on := 13, ground := Go.Ground.data }, { on := 15, ground := Go.Ground.data }, { on := 15, ground := Go.Ground.chain }], guard := none }) rfl (fun K hK => ?_) AllReadyH.nil
  go_simp
  refine (tf_any c HC.out HR.out _ (pmem_nn HR.out) (sadd_r _ _) _).mono ?_
  rintro e w9 ⟨rfl, hb9⟩
  try dsimp only
  refine hK.out _ _ ?_ (fun hHeld => ?_)
  · first | exact Sb1.mk hF hz ((Sb1.below hHeld).trans (hb9.mono (Sb1.below hHeld).size)) | exact Sb1.mk hF hz (((Sb1.below hHeld).alloc (Sb1.below hHeld).size _).trans (hb9.mono (by have := (Sb1.below hHeld).size; simp; omega)))
  clear hK K
  try simp only [Act.put, List.setIfInBounds_toArray, List.set_cons_zero, List.set_cons_succ]
  refine wpAnyH_ready (rs := [17]) (by kernel_rfl) (by simp) ?_
  refine AllReadyH.cons (o := { dst := some 27, op := Go.Op.buildSlice 93 3 #[(0, Go.Operand.tmp 22), (1, Go.Operand.tmp 26), (2, Go.Operand.const (Go.Value.int Go.IntKind.i64 2))], type := 93, pos := "figures.go:102", after := #[{ on := 12, ground := Go.Ground.data }, { on := 16, ground := Go.Ground.data }], guard := none }) rfl (fun K hK => ?_) AllReadyH.nil
  go_simp
  refine hK.out _ _ ?_ (fun hHeld => ?_)
  · exact Sb1.mk hF hz ((Sb1.below hHeld).alloc (Sb1.below hHeld).size _)
  clear hK K
  try simp only [Act.put, List.setIfInBounds_toArray, List.set_cons_zero, List.set_cons_succ]
  refine wpAnyH_ready (rs := [18]) (by kernel_rfl) (by simp) ?_
  refine AllReadyH.cons (o := { dst := some 28, op := Go.Op.call { callee := Go.Callee.value (Go.Operand.func 85), args := #[Go.Operand.tmp 27], argTypes := #[93] }, type := 63, pos := "figures.go:105", after := #[{ on := 17, ground := Go.Ground.data }, { on := 16, ground := Go.Ground.chain }], guard := none }) rfl (fun K hK => ?_) AllReadyH.nil
  go_simp
  first | (refine (sumD_any _ _ _ _ (by rfl) (by rfl) (by repeat (first | exact inil | refine icons (by first | exact sadd_r _ _ | exact smul_r _ _ | exact ssum_r _ | exact HC.out _ | exact plsum_r | exact pd_r _ _ | (have hq1 := HD.out; unfold R64; omega)) ?_))).mono ?_; rintro e w9 ⟨rfl, hb9⟩) | (refine (sumN_any _ _ _ _ (by rfl) (by rfl) (by repeat (first | exact inil | refine icons (by first | exact sadd_r _ _ | exact smul_r _ _ | exact ssum_r _ | exact HC.out _ | exact plsum_r | exact pd_r _ _ | (have hq1 := HD.out; unfold R64; omega)) ?_))).mono ?_; rintro e w9 ⟨rfl, hb9⟩)
  try dsimp only
  refine hK.out _ _ ?_ (fun hHeld => ?_)
  · first | exact Sb1.mk hF hz ((Sb1.below hHeld).trans (hb9.mono (Sb1.below hHeld).size)) | exact Sb1.mk hF hz (((Sb1.below hHeld).alloc (Sb1.below hHeld).size _).trans (hb9.mono (by have := (Sb1.below hHeld).size; simp; omega)))
  clear hK K
  try simp only [Act.put, List.setIfInBounds_toArray, List.set_cons_zero, List.set_cons_succ]
  refine wpAnyH_ready (rs := [19]) (by kernel_rfl) (by simp) ?_
  refine AllReadyH.cons (o := { dst := some 29, op := Go.Op.call { callee := Go.Callee.value (Go.Operand.func 48), args := #[Go.Operand.tmp 21, Go.Operand.tmp 28], argTypes := #[63, 63] }, type := 63, pos := "figures.go:105", after := #[{ on := 11, ground := Go.Ground.data }, { on := 18, ground := Go.Ground.data }, { on := 18, ground := Go.Ground.chain }], guard := none }) rfl (fun K hK => ?_) AllReadyH.nil
  go_simp
  refine (timesB _ _ (by first | exact sadd_r _ _ | exact smul_r _ _ | exact ssum_r _ | exact HC.out _ | exact plsum_r | exact pd_r _ _ | (have hq1 := HD.out; unfold R64; omega)) (by first | exact sadd_r _ _ | exact smul_r _ _ | exact ssum_r _ | exact HC.out _ | exact plsum_r | exact pd_r _ _ | (have hq1 := HD.out; unfold R64; omega)) _).mono ?_
  rintro e w9 ⟨rfl, hb9⟩
  try dsimp only
  refine hK.out _ _ ?_ (fun hHeld => ?_)
  · first | exact Sb1.mk hF hz ((Sb1.below hHeld).trans (hb9.mono (Sb1.below hHeld).size)) | exact Sb1.mk hF hz (((Sb1.below hHeld).alloc (Sb1.below hHeld).size _).trans (hb9.mono (by have := (Sb1.below hHeld).size; simp; omega)))
  clear hK K
  try simp only [Act.put, List.setIfInBounds_toArray, List.set_cons_zero, List.set_cons_succ]
  refine wpAnyH_ready (rs := [25]) (by kernel_rfl) (by simp) ?_
  refine AllReadyH.cons (o := { dst := some 35, op := Go.Op.call { callee := Go.Callee.value (Go.Operand.func 48), args := #[Go.Operand.const (Go.Value.int Go.IntKind.i64 18), Go.Operand.tmp 34], argTypes := #[63, 63] }, type := 63, pos := "figures.go:107", after := #[{ on := 24, ground := Go.Ground.data }, { on := 19, ground := Go.Ground.chain }], guard := none }) rfl (fun K hK => ?_) AllReadyH.nil
  go_simp
  refine (timesB _ _ (by first | exact sadd_r _ _ | exact smul_r _ _ | exact ssum_r _ | exact HC.out _ | exact plsum_r | exact pd_r _ _ | (have hq1 := HD.out; unfold R64; omega)) (by first | exact sadd_r _ _ | exact smul_r _ _ | exact ssum_r _ | exact HC.out _ | exact plsum_r | exact pd_r _ _ | (have hq1 := HD.out; unfold R64; omega)) _).mono ?_
  rintro e w9 ⟨rfl, hb9⟩
  try dsimp only
  refine hK.out _ _ ?_ (fun hHeld => ?_)
  · first | exact Sb1.mk hF hz ((Sb1.below hHeld).trans (hb9.mono (Sb1.below hHeld).size)) | exact Sb1.mk hF hz (((Sb1.below hHeld).alloc (Sb1.below hHeld).size _).trans (hb9.mono (by have := (Sb1.below hHeld).size; simp; omega)))
  clear hK K
  try simp only [Act.put, List.setIfInBounds_toArray, List.set_cons_zero, List.set_cons_succ]
  refine wpAnyH_ready (rs := [26]) (by kernel_rfl) (by simp) ?_
  refine AllReadyH.cons (o := { dst := some 36, op := Go.Op.buildSlice 93 6 #[(0, Go.Operand.tmp 15), (1, Go.Operand.tmp 18), (2, Go.Operand.tmp 29), (3, Go.Operand.tmp 32), (4, Go.Operand.tmp 35), (5, Go.Operand.const (Go.Value.int Go.IntKind.i64 24))], type := 93, pos := "figures.go:102", after := #[{ on := 5, ground := Go.Ground.data }, { on := 8, ground := Go.Ground.data }, { on := 19, ground := Go.Ground.data }, { on := 22, ground := Go.Ground.data }, { on := 25, ground := Go.Ground.data }], guard := none }) rfl (fun K hK => ?_) AllReadyH.nil
  go_simp
  refine hK.out _ _ ?_ (fun hHeld => ?_)
  · exact Sb1.mk hF hz ((Sb1.below hHeld).alloc (Sb1.below hHeld).size _)
  clear hK K
  try simp only [Act.put, List.setIfInBounds_toArray, List.set_cons_zero, List.set_cons_succ]
  refine wpAnyH_ready (rs := [27]) (by kernel_rfl) (by simp) ?_
  refine AllReadyH.cons (o := { dst := some 37, op := Go.Op.call { callee := Go.Callee.value (Go.Operand.func 85), args := #[Go.Operand.tmp 36], argTypes := #[93] }, type := 63, pos := "figures.go:102", after := #[{ on := 26, ground := Go.Ground.data }, { on := 25, ground := Go.Ground.chain }], guard := none }) rfl (fun K hK => ?_) AllReadyH.nil
  go_simp
  first | (refine (sumD_any _ _ _ _ (by rfl) (by rfl) (by repeat (first | exact inil | refine icons (by first | exact sadd_r _ _ | exact smul_r _ _ | exact ssum_r _ | exact HC.out _ | exact plsum_r | exact pd_r _ _ | (have hq1 := HD.out; unfold R64; omega)) ?_))).mono ?_; rintro e w9 ⟨rfl, hb9⟩) | (refine (sumN_any _ _ _ _ (by rfl) (by rfl) (by repeat (first | exact inil | refine icons (by first | exact sadd_r _ _ | exact smul_r _ _ | exact ssum_r _ | exact HC.out _ | exact plsum_r | exact pd_r _ _ | (have hq1 := HD.out; unfold R64; omega)) ?_))).mono ?_; rintro e w9 ⟨rfl, hb9⟩)
  try dsimp only
  refine hK.out _ _ ?_ (fun hHeld => ?_)
  · first | exact Sb1.mk hF hz ((Sb1.below hHeld).trans (hb9.mono (Sb1.below hHeld).size)) | exact Sb1.mk hF hz (((Sb1.below hHeld).alloc (Sb1.below hHeld).size _).trans (hb9.mono (by have := (Sb1.below hHeld).size; simp; omega)))
  clear hK K
  try simp only [Act.put, List.setIfInBounds_toArray, List.set_cons_zero, List.set_cons_succ]
  refine wpAnyH_take (i := 28) (oi := { dst := some 6, op := Go.Op.assign (Go.Operand.tmp 37), type := 63, pos := "figures.go:102", after := #[{ on := 27, ground := Go.Ground.data }, { on := 27, ground := Go.Ground.chain }, { on := 0, ground := Go.Ground.phase }, { on := 1, ground := Go.Ground.phase }, { on := 2, ground := Go.Ground.phase }, { on := 3, ground := Go.Ground.phase }, { on := 4, ground := Go.Ground.phase }, { on := 5, ground := Go.Ground.phase }, { on := 6, ground := Go.Ground.phase }, { on := 7, ground := Go.Ground.phase }, { on := 8, ground := Go.Ground.phase }, { on := 9, ground := Go.Ground.phase }, { on := 10, ground := Go.Ground.phase }, { on := 11, ground := Go.Ground.phase }, { on := 12, ground := Go.Ground.phase }, { on := 13, ground := Go.Ground.phase }, { on := 14, ground := Go.Ground.phase }, { on := 15, ground := Go.Ground.phase }, { on := 16, ground := Go.Ground.phase }, { on := 17, ground := Go.Ground.phase }, { on := 18, ground := Go.Ground.phase }, { on := 19, ground := Go.Ground.phase }, { on := 20, ground := Go.Ground.phase }, { on := 21, ground := Go.Ground.phase }, { on := 22, ground := Go.Ground.phase }, { on := 23, ground := Go.Ground.phase }, { on := 24, ground := Go.Ground.phase }, { on := 25, ground := Go.Ground.phase }, { on := 26, ground := Go.Ground.phase }, { on := 27, ground := Go.Ground.phase }], guard := none }) (v := ?_) rfl (by kernel_rfl) (by kernel_rfl) (by kernel_rfl) (fun _ _ _ h => h) (Or.inl ⟨by rfl, ?_⟩) hHeld ?_
  rotate_left
  · (intro wq hSw; (try dsimp only at hSw); go_simp; try (with_reducible rfl))
  try simp only [Act.put, List.setIfInBounds_toArray, List.set_cons_zero, List.set_cons_succ]
  refine wpAnyH_done (by kernel_rfl) ?_ _
  have HBZ := hid (Sb1.below hHeld)
  have hc0 := (hF.keep hz HBZ.out).cell 0 rfl
  clear hHeld
  go_wp2_with (go_at_call 48; go_loud (refine (times_any _ _ (HC.out _) (ssum_r _) _).mono ?_; rintro e w8 ⟨rfl, hw7⟩; have hw8 := hw7.symm; clear hw7; subst hw8))
  go_ret
  exact ⟨rfl, HBW.out.trans (HBZ.out.mono HBW.out.size)⟩

end Pcm
end Go.Proofs.Ytebfokjgeknciaa
