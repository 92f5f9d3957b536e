import Derived.Test.YtebfokjgeknciaaPr2
namespace Go.Proofs.Ytebfokjgeknciaa
namespace Pcm
open Go.RowKit Laws Irw
set_option linter.unusedVariables false
set_option linter.unusedSimpArgs false
set_option maxRecDepth 20000

def rckOps : Array Oper := List.toArray ({ dst := some 106, op := Go.Op.move (Go.Operand.tmp 4), type := 62, pos := "screeref15.go:77", after := #[], guard := none } :: { dst := some 107, op := Go.Op.move (Go.Operand.tmp 5), type := 3, pos := "screeref15.go:77", after := #[], guard := none } :: { dst := some 108, op := Go.Op.fieldAddr 23 (Go.Operand.tmp 1) 5, type := 0, pos := "screeref15.go:77", after := #[], guard := none } :: { dst := some 109, op := Go.Op.load 3 (Go.Operand.tmp 108), type := 3, pos := "screeref15.go:77", after := #[{ on := 2, ground := Go.Ground.data }], guard := none } :: { dst := some 110, op := Go.Op.fieldAddr 23 (Go.Operand.tmp 1) 4, type := 0, pos := "screeref15.go:77", after := #[], guard := none } :: { dst := some 111, op := Go.Op.load 3 (Go.Operand.tmp 110), type := 3, pos := "screeref15.go:77", after := #[{ on := 4, ground := Go.Ground.data }], guard := none } :: { dst := some 112, op := Go.Op.binOp Go.BinOp.add 3 (Go.Operand.tmp 109) (Go.Operand.tmp 111) 3, type := 3, pos := "screeref15.go:77", after := #[{ on := 3, ground := Go.Ground.data }, { on := 5, ground := Go.Ground.data }], guard := none } :: { dst := some 113, op := Go.Op.binOp Go.BinOp.add 3 (Go.Operand.tmp 112) (Go.Operand.const (Go.Value.int Go.IntKind.i64 2)) 3, type := 3, pos := "screeref15.go:77", after := #[{ on := 6, ground := Go.Ground.data }], guard := none } :: { dst := some 114, op := Go.Op.load 23 (Go.Operand.tmp 1), type := 23, pos := "screeref15.go:77", after := #[], guard := none } :: { dst := some 115, op := Go.Op.call { callee := Go.Callee.value (Go.Operand.func 46), args := #[Go.Operand.tmp 114], argTypes := #[23] }, type := 3, pos := "screeref15.go:77", after := #[{ on := 8, ground := Go.Ground.data }], guard := none } :: { dst := some 116, op := Go.Op.binOp Go.BinOp.mul 3 (Go.Operand.tmp 113) (Go.Operand.tmp 115) 3, type := 3, pos := "screeref15.go:77", after := #[{ on := 7, ground := Go.Ground.data }, { on := 9, ground := Go.Ground.data }], guard := none } :: { dst := some 117, op := Go.Op.binOp Go.BinOp.add 3 (Go.Operand.tmp 116) (Go.Operand.const (Go.Value.int Go.IntKind.i64 1)) 3, type := 3, pos := "screeref15.go:77", after := #[{ on := 10, ground := Go.Ground.data }], guard := none } :: { dst := some 118, op := Go.Op.indexAddr 62 (Go.Operand.tmp 106) (Go.Operand.tmp 107), type := 0, pos := "screeref15.go:77", after := #[{ on := 0, ground := Go.Ground.data }, { on := 1, ground := Go.Ground.data }, { on := 0, ground := Go.Ground.phase }, { on := 1, ground := Go.Ground.phase }, { on := 2, ground := Go.Ground.phase }, { on := 3, ground := Go.Ground.phase }, { on := 4, ground := Go.Ground.phase }, { on := 5, ground := Go.Ground.phase }, { on := 6, ground := Go.Ground.phase }, { on := 7, ground := Go.Ground.phase }, { on := 8, ground := Go.Ground.phase }, { on := 9, ground := Go.Ground.phase }, { on := 10, ground := Go.Ground.phase }, { on := 11, ground := Go.Ground.phase }], guard := none } :: { dst := some 119, op := Go.Op.fieldAddr 61 (Go.Operand.tmp 118) 1, type := 0, pos := "screeref15.go:77", after := #[{ on := 12, ground := Go.Ground.data }, { on := 0, ground := Go.Ground.phase }, { on := 1, ground := Go.Ground.phase }, { on := 2, ground := Go.Ground.phase }, { on := 3, ground := Go.Ground.phase }, { on := 4, ground := Go.Ground.phase }, { on := 5, ground := Go.Ground.phase }, { on := 6, ground := Go.Ground.phase }, { on := 7, ground := Go.Ground.phase }, { on := 8, ground := Go.Ground.phase }, { on := 9, ground := Go.Ground.phase }, { on := 10, ground := Go.Ground.phase }, { on := 11, ground := Go.Ground.phase }], guard := none } :: { dst := none, op := Go.Op.store 3 (Go.Operand.tmp 119) (Go.Operand.tmp 117), type := 0, pos := "screeref15.go:77", after := #[{ on := 13, ground := Go.Ground.data }, { on := 11, ground := Go.Ground.data }, { on := 9, ground := Go.Ground.chain }, { on := 0, ground := Go.Ground.phase }, { on := 1, ground := Go.Ground.phase }, { on := 2, ground := Go.Ground.phase }, { on := 3, ground := Go.Ground.phase }, { on := 4, ground := Go.Ground.phase }, { on := 5, ground := Go.Ground.phase }, { on := 6, ground := Go.Ground.phase }, { on := 7, ground := Go.Ground.phase }, { on := 8, ground := Go.Ground.phase }, { on := 9, ground := Go.Ground.phase }, { on := 10, ground := Go.Ground.phase }, { on := 11, ground := Go.Ground.phase }], guard := none } :: [])
set_option maxHeartbeats 8000000 in
theorem rcheck_any (c : Cf) (hc : RC c) (w : World) :
    Calls Try.prog 11 #[.agg (cfgA c)] w fun e w' => e = .returned (.tuple #[.int .i64 (ckN c), .int .i64 (ckE c)]) ∧ Below w.heap.size w w' := by
  have HC := hid hc
  clear hc
  have hL0 := lc_new w c 23
  have k0 := hL0.cell 0 (v := .int .i64 (c 0)) rfl
  have k1 := hL0.cell 1 (v := .int .i64 (c 1)) rfl
  have k2 := hL0.cell 2 (v := .int .i64 (c 2)) rfl
  have k3 := hL0.cell 3 (v := .int .i64 (c 3)) rfl
  have k4 := hL0.cell 4 (v := .int .i64 (c 4)) rfl
  have k5 := hL0.cell 5 (v := .int .i64 (c 5)) rfl
  have k6 := hL0.cell 6 (v := .int .i64 (c 6)) rfl
  have k7 := hL0.cell 7 (v := .int .i64 (c 7)) rfl
  have k8 := hL0.cell 8 (v := .int .i64 (c 8)) rfl
  have k9 := hL0.cell 9 (v := .int .i64 (c 9)) rfl
  have k10 := hL0.cell 10 (v := .int .i64 (c 10)) rfl
  have k11 := hL0.cell 11 (v := .int .i64 (c 11)) rfl
  have k12 := hL0.cell 12 (v := .int .i64 (c 12)) rfl
  have k13 := hL0.cell 13 (v := .int .i64 (c 13)) rfl
  have k14 := hL0.cell 14 (v := .int .i64 (c 14)) rfl
  have k15 := hL0.cell 15 (v := .int .i64 (c 15)) rfl
  have k16 := hL0.cell 16 (v := .int .i64 (c 16)) rfl
  have k17 := hL0.cell 17 (v := .int .i64 (c 17)) rfl
  have k18 := hL0.cell 18 (v := .int .i64 (c 18)) rfl
  have k19 := hL0.cell 19 (v := .int .i64 (c 19)) rfl
  have k20 := hL0.cell 20 (v := .int .i64 (c 20)) rfl
  have k21 := hL0.cell 21 (v := .int .i64 (c 21)) rfl
  have k22 := hL0.cell 22 (v := .int .i64 (c 22)) rfl
  have k23 := hL0.cell 23 (v := .int .i64 (c 23)) rfl
  have k24 := hL0.cell 24 (v := .int .i64 (c 24)) rfl
  have k25 := hL0.cell 25 (v := .int .i64 (c 25)) rfl
  have k26 := hL0.cell 26 (v := .int .i64 (c 26)) rfl
  have HB0 : Hid (Below w.heap.size w (w.alloc (.cells (cfgA c) 23))) := (Below.refl _ _).alloc (Nat.le_refl _) _
  have HL : Hid ((flds c (rX c)).length = 27) := flds_len c _
  go_enter Try.func11, Try.ntmps11
  go_upto_region 1 with (fail)
  go_cut [1, 2, 3, 4] (fun v1 v2 v3 v4 w' => v1 = .pointer (some ⟨w.heap.size, 0, none⟩) ∧ v2 = .int .i64 0 ∧ v3 = .int .i64 0 ∧ v4 = .slice (some ⟨w.heap.size + 1, 0, none⟩) 27 27 ∧ Hid (Rk w w' (w.heap.size + 1) c 0))
  case first =>
    go_wp2
    go_meet
    case rel =>
      have h1 : ((w.alloc (.cells (cfgA c) 23))).heap.size = w.heap.size + 1 := by simp
      have hrow := frow_new (w.alloc (.cells (cfgA c) 23)) (flds c 0) 61 _ rfl
      rw [h1] at hrow
      exact ⟨rfl, rfl, rfl, rfl, ⟨HB0.out.alloc HB0.out.size _, hL0.keep (by simp) ((Below.refl _ _).alloc (Nat.le_refl _) _), hrow, by omega, by simp⟩⟩
  case rest =>
    obtain ⟨rfl, rfl, rfl, rfl, HR0⟩ := hcut
    rename World => W1
    clear hL0 k0 k1 k2 k3 k4 k5 k6 k7 k8 k9 k10 k11 k12 k13 k14 k15 k16 k17 k18 k19 k20 k21 k22 k23 k24 k25 k26 HB0
    go_wp2_with fail
    have HB23 : Hid (bad c = fbad (flds c (rX c))) := (bad_ref c).symm
    go_loopw [5] (fun i V => ∃ k : Nat, k ≤ 27 ∧ i = .int .i64 k ∧ (∀ (j : Nat) (u : Fd), j < k → (flds c (rX c))[j]? = some u → badF u = false) ∧ Rk w V (w.heap.size + 1) c (XAt c k)) (fun i _ => 27 - (intOf i).toNat)
    case atStart => exact ⟨0, by omega, rfl, fun j u hj => by omega, HR0.out⟩
    case round =>
      obtain ⟨k, hk, rfl, hgood, hrk⟩ := hrel
      have HGD := hid hgood
      have HRK := hid hrk
      clear hgood hrk
      by_cases hlt : k < 27
      · by_cases h23 : k = 23
        · subst h23
          have HRK1 : Hid (Rk w wr (w.heap.size + 1) c 0) := HRK.out
          have hb1 : w.heap.size + 1 < wr.heap.size := HRK1.out.row.1
          have hcf := HRK1.out.cfg
          go_wp2
          change Code.wp _ (Code.region 6 rckOps true) _ _ _
          have hns : Region.noSelect rckOps = true := by kernel_rfl
          have HX : Hid (IntKind.i64.wrap (IntKind.i64.wrap (IntKind.i64.wrap (IntKind.i64.wrap (c 5 + c 4) + 2) * rmem c) + 1) = rX c) := by simp only [wrapEq]; exact hid rfl
          refine startL (S := (fun V => Lc V w.heap.size c)) 15 (List.toArray (false :: false :: false :: false :: false :: false :: false :: false :: false :: false :: false :: false :: false :: false :: false :: [])) (by kernel_rfl) (by kernel_rfl) (by rfl) ?_ (fun hHeld => ?_)
          · exact hcf
          refine takeL (i := 0) (oi := { dst := some 106, op := Go.Op.move (Go.Operand.tmp 4), type := 62, pos := "screeref15.go:77", after := #[], guard := none }) (v := ?_) (List.toArray (true :: false :: false :: false :: false :: false :: false :: false :: false :: false :: false :: false :: false :: false :: false :: [])) hns (by kernel_rfl) (by kernel_rfl) (by kernel_rfl) (by rfl) (fun _ _ _ h => h) (Or.inl ⟨by rfl, ?_⟩) hHeld ?_
          rotate_left
          · (intro wq hSw; (try dsimp only at hSw); go_simp; try (with_reducible rfl))
          try simp only [Act.put, List.setIfInBounds_toArray, List.set_cons_zero, List.set_cons_succ]
          refine takeL (i := 1) (oi := { dst := some 107, op := Go.Op.move (Go.Operand.tmp 5), type := 3, pos := "screeref15.go:77", after := #[], guard := none }) (v := ?_) (List.toArray (true :: true :: false :: false :: false :: false :: false :: false :: false :: false :: false :: false :: false :: false :: false :: [])) hns (by kernel_rfl) (by kernel_rfl) (by kernel_rfl) (by rfl) (fun _ _ _ h => h) (Or.inl ⟨by rfl, ?_⟩) hHeld ?_
          rotate_left
          · (intro wq hSw; (try dsimp only at hSw); go_simp; try (with_reducible rfl))
          try simp only [Act.put, List.setIfInBounds_toArray, List.set_cons_zero, List.set_cons_succ]
          refine takeL (i := 2) (oi := { dst := some 108, op := Go.Op.fieldAddr 23 (Go.Operand.tmp 1) 5, type := 0, pos := "screeref15.go:77", after := #[], guard := none }) (v := ?_) (List.toArray (true :: true :: true :: false :: false :: false :: false :: false :: false :: false :: false :: false :: false :: false :: false :: [])) hns (by kernel_rfl) (by kernel_rfl) (by kernel_rfl) (by rfl) (fun _ _ _ h => h) (Or.inl ⟨by rfl, ?_⟩) hHeld ?_
          rotate_left
          · (intro wq hSw; (try dsimp only at hSw); go_simp; try (with_reducible rfl))
          try simp only [Act.put, List.setIfInBounds_toArray, List.set_cons_zero, List.set_cons_succ]
          refine takeL (i := 3) (oi := { dst := some 109, op := Go.Op.load 3 (Go.Operand.tmp 108), type := 3, pos := "screeref15.go:77", after := #[{ on := 2, ground := Go.Ground.data }], guard := none }) (List.toArray (true :: true :: true :: true :: false :: false :: false :: false :: false :: false :: false :: false :: false :: false :: false :: [])) hns (by kernel_rfl) (by kernel_rfl) (by kernel_rfl) (by rfl) (fun _ _ _ h => h) (yl_int (k := 5) (v := c 5) (by rfl) _ (by rfl) (by rfl) (fun V h => h.cell 5 rfl)) hHeld ?_
          try simp only [Act.put, List.setIfInBounds_toArray, List.set_cons_zero, List.set_cons_succ]
          refine takeL (i := 4) (oi := { dst := some 110, op := Go.Op.fieldAddr 23 (Go.Operand.tmp 1) 4, type := 0, pos := "screeref15.go:77", after := #[], guard := none }) (v := ?_) (List.toArray (true :: true :: true :: true :: true :: false :: false :: false :: false :: false :: false :: false :: false :: false :: false :: [])) hns (by kernel_rfl) (by kernel_rfl) (by kernel_rfl) (by rfl) (fun _ _ _ h => h) (Or.inl ⟨by rfl, ?_⟩) hHeld ?_
          rotate_left
          · (intro wq hSw; (try dsimp only at hSw); go_simp; try (with_reducible rfl))
          try simp only [Act.put, List.setIfInBounds_toArray, List.set_cons_zero, List.set_cons_succ]
          refine takeL (i := 5) (oi := { dst := some 111, op := Go.Op.load 3 (Go.Operand.tmp 110), type := 3, pos := "screeref15.go:77", after := #[{ on := 4, ground := Go.Ground.data }], guard := none }) (List.toArray (true :: true :: true :: true :: true :: true :: false :: false :: false :: false :: false :: false :: false :: false :: false :: [])) hns (by kernel_rfl) (by kernel_rfl) (by kernel_rfl) (by rfl) (fun _ _ _ h => h) (yl_int (k := 4) (v := c 4) (by rfl) _ (by rfl) (by rfl) (fun V h => h.cell 4 rfl)) hHeld ?_
          try simp only [Act.put, List.setIfInBounds_toArray, List.set_cons_zero, List.set_cons_succ]
          refine takeL (i := 6) (oi := { dst := some 112, op := Go.Op.binOp Go.BinOp.add 3 (Go.Operand.tmp 109) (Go.Operand.tmp 111) 3, type := 3, pos := "screeref15.go:77", after := #[{ on := 3, ground := Go.Ground.data }, { on := 5, ground := Go.Ground.data }], guard := none }) (v := ?_) (List.toArray (true :: true :: true :: true :: true :: true :: true :: false :: false :: false :: false :: false :: false :: false :: false :: [])) hns (by kernel_rfl) (by kernel_rfl) (by kernel_rfl) (by rfl) (fun _ _ _ h => h) (Or.inl ⟨by rfl, ?_⟩) hHeld ?_
          rotate_left
          · (intro wq hSw; (try dsimp only at hSw); go_simp; try (with_reducible rfl))
          try simp only [Act.put, List.setIfInBounds_toArray, List.set_cons_zero, List.set_cons_succ]
          refine takeL (i := 7) (oi := { dst := some 113, op := Go.Op.binOp Go.BinOp.add 3 (Go.Operand.tmp 112) (Go.Operand.const (Go.Value.int Go.IntKind.i64 2)) 3, type := 3, pos := "screeref15.go:77", after := #[{ on := 6, ground := Go.Ground.data }], guard := none }) (v := ?_) (List.toArray (true :: true :: true :: true :: true :: true :: true :: true :: false :: false :: false :: false :: false :: false :: false :: [])) hns (by kernel_rfl) (by kernel_rfl) (by kernel_rfl) (by rfl) (fun _ _ _ h => h) (Or.inl ⟨by rfl, ?_⟩) hHeld ?_
          rotate_left
          · (intro wq hSw; (try dsimp only at hSw); go_simp; try (with_reducible rfl))
          try simp only [Act.put, List.setIfInBounds_toArray, List.set_cons_zero, List.set_cons_succ]
          refine takeL (i := 8) (oi := { dst := some 114, op := Go.Op.load 23 (Go.Operand.tmp 1), type := 23, pos := "screeref15.go:77", after := #[], guard := none }) (List.toArray (true :: true :: true :: true :: true :: true :: true :: true :: true :: false :: false :: false :: false :: false :: false :: [])) hns (by kernel_rfl) (by kernel_rfl) (by kernel_rfl) (by rfl) (fun _ _ _ h => h) (yl_cfg (by rfl) _ (by rfl) (by rfl) (fun V h => h)) hHeld ?_
          try simp only [Act.put, List.setIfInBounds_toArray, List.set_cons_zero, List.set_cons_succ]
          refine stepL (i := 9) (o := { dst := some 115, op := Go.Op.call { callee := Go.Callee.value (Go.Operand.func 46), args := #[Go.Operand.tmp 114], argTypes := #[23] }, type := 3, pos := "screeref15.go:77", after := #[{ on := 8, ground := Go.Ground.data }], guard := none }) (List.toArray (true :: true :: true :: true :: true :: true :: true :: true :: true :: true :: false :: false :: false :: false :: false :: [])) (by kernel_rfl) (by rfl) (by kernel_rfl) (fun K hK => ?_)
          go_simp
          refine (rmem_any c HC.out _).mono ?_
          rintro e w9 ⟨rfl, hb9⟩
          have HRB : Hid (Rk w w9 (w.heap.size + 1) c 0) := HRK1.out.below (((Below.refl _ _).drew).trans hb9)
          have c70 : w9.cell? ⟨w.heap.size + 1, 70, none⟩ = some (.int .i64 0) := (HRB.out.row.2 23 _ (flds_23 c 0)).2.1
          have f70 := HRB.out.fz
          try dsimp only
          refine hK.out _ _ ?_ (fun hHeld => ?_)
          · exact HRB.out.cfg
          clear hK K
          try simp only [Act.put, List.setIfInBounds_toArray, List.set_cons_zero, List.set_cons_succ]
          refine takeL (i := 10) (oi := { dst := some 116, op := Go.Op.binOp Go.BinOp.mul 3 (Go.Operand.tmp 113) (Go.Operand.tmp 115) 3, type := 3, pos := "screeref15.go:77", after := #[{ on := 7, ground := Go.Ground.data }, { on := 9, ground := Go.Ground.data }], guard := none }) (v := ?_) (List.toArray (true :: true :: true :: true :: true :: true :: true :: true :: true :: true :: true :: false :: false :: false :: false :: [])) hns (by kernel_rfl) (by kernel_rfl) (by kernel_rfl) (by rfl) (fun _ _ _ h => h) (Or.inl ⟨by rfl, ?_⟩) hHeld ?_
          rotate_left
          · (intro wq hSw; (try dsimp only at hSw); go_simp; try (with_reducible rfl))
          try simp only [Act.put, List.setIfInBounds_toArray, List.set_cons_zero, List.set_cons_succ]
          refine takeL (i := 11) (oi := { dst := some 117, op := Go.Op.binOp Go.BinOp.add 3 (Go.Operand.tmp 116) (Go.Operand.const (Go.Value.int Go.IntKind.i64 1)) 3, type := 3, pos := "screeref15.go:77", after := #[{ on := 10, ground := Go.Ground.data }], guard := none }) (v := ?_) (List.toArray (true :: true :: true :: true :: true :: true :: true :: true :: true :: true :: true :: true :: false :: false :: false :: [])) hns (by kernel_rfl) (by kernel_rfl) (by kernel_rfl) (by rfl) (fun _ _ _ h => h) (Or.inl ⟨by rfl, ?_⟩) hHeld ?_
          rotate_left
          · (intro wq hSw; (try dsimp only at hSw); go_simp; try (with_reducible rfl))
          try simp only [Act.put, List.setIfInBounds_toArray, List.set_cons_zero, List.set_cons_succ]
          refine takeL (i := 12) (oi := { dst := some 118, op := Go.Op.indexAddr 62 (Go.Operand.tmp 106) (Go.Operand.tmp 107), type := 0, pos := "screeref15.go:77", after := #[{ on := 0, ground := Go.Ground.data }, { on := 1, ground := Go.Ground.data }, { on := 0, ground := Go.Ground.phase }, { on := 1, ground := Go.Ground.phase }, { on := 2, ground := Go.Ground.phase }, { on := 3, ground := Go.Ground.phase }, { on := 4, ground := Go.Ground.phase }, { on := 5, ground := Go.Ground.phase }, { on := 6, ground := Go.Ground.phase }, { on := 7, ground := Go.Ground.phase }, { on := 8, ground := Go.Ground.phase }, { on := 9, ground := Go.Ground.phase }, { on := 10, ground := Go.Ground.phase }, { on := 11, ground := Go.Ground.phase }], guard := none }) (v := ?_) (List.toArray (true :: true :: true :: true :: true :: true :: true :: true :: true :: true :: true :: true :: true :: false :: false :: [])) hns (by kernel_rfl) (by kernel_rfl) (by kernel_rfl) (by rfl) (fun _ _ _ h => h) (Or.inl ⟨by rfl, ?_⟩) hHeld ?_
          rotate_left
          · (intro wq hSw; (try dsimp only at hSw); go_simp; try (with_reducible rfl))
          try simp only [Act.put, List.setIfInBounds_toArray, List.set_cons_zero, List.set_cons_succ]
          refine takeL (i := 13) (oi := { dst := some 119, op := Go.Op.fieldAddr 61 (Go.Operand.tmp 118) 1, type := 0, pos := "screeref15.go:77", after := #[{ on := 12, ground := Go.Ground.data }, { on := 0, ground := Go.Ground.phase }, { on := 1, ground := Go.Ground.phase }, { on := 2, ground := Go.Ground.phase }, { on := 3, ground := Go.Ground.phase }, { on := 4, ground := Go.Ground.phase }, { on := 5, ground := Go.Ground.phase }, { on := 6, ground := Go.Ground.phase }, { on := 7, ground := Go.Ground.phase }, { on := 8, ground := Go.Ground.phase }, { on := 9, ground := Go.Ground.phase }, { on := 10, ground := Go.Ground.phase }, { on := 11, ground := Go.Ground.phase }], guard := none }) (v := ?_) (List.toArray (true :: true :: true :: true :: true :: true :: true :: true :: true :: true :: true :: true :: true :: true :: false :: [])) hns (by kernel_rfl) (by kernel_rfl) (by kernel_rfl) (by rfl) (fun _ _ _ h => h) (Or.inl ⟨by rfl, ?_⟩) hHeld ?_
          rotate_left
          · (intro wq hSw; (try dsimp only at hSw); go_simp; try (with_reducible rfl))
          try simp only [Act.put, List.setIfInBounds_toArray, List.set_cons_zero, List.set_cons_succ]
          refine stepL (i := 14) (o := { dst := none, op := Go.Op.store 3 (Go.Operand.tmp 119) (Go.Operand.tmp 117), type := 0, pos := "screeref15.go:77", after := #[{ on := 13, ground := Go.Ground.data }, { on := 11, ground := Go.Ground.data }, { on := 9, ground := Go.Ground.chain }, { on := 0, ground := Go.Ground.phase }, { on := 1, ground := Go.Ground.phase }, { on := 2, ground := Go.Ground.phase }, { on := 3, ground := Go.Ground.phase }, { on := 4, ground := Go.Ground.phase }, { on := 5, ground := Go.Ground.phase }, { on := 6, ground := Go.Ground.phase }, { on := 7, ground := Go.Ground.phase }, { on := 8, ground := Go.Ground.phase }, { on := 9, ground := Go.Ground.phase }, { on := 10, ground := Go.Ground.phase }, { on := 11, ground := Go.Ground.phase }], guard := none }) (List.toArray (true :: true :: true :: true :: true :: true :: true :: true :: true :: true :: true :: true :: true :: true :: true :: [])) (by kernel_rfl) (by rfl) (by kernel_rfl) (fun K hK => ?_)
          go_simp
          refine hK.out _ _ ?_ (fun hHeld => ?_)
          · exact Lc.setO HRB.out.cfg (by omega)
          clear hK K
          try simp only [Act.put, List.setIfInBounds_toArray, List.set_cons_zero, List.set_cons_succ]
          refine wpAnyH_done (by kernel_rfl) ?_ _
          have HRS : Hid (Rk w _ (w.heap.size + 1) c (rX c)) := HRB.out.set (Y := rX c)
          rw [HX.out]
          clear hHeld
          generalize (w9.setCell ⟨w.heap.size + 1, 70, none⟩ (.int .i64 (rX c))) = V at *
          obtain ⟨x, lo, hi, ht⟩ : ∃ x lo hi, (flds c (rX c))[23]? = some (x, lo, hi) := ⟨_, _, _, flds_23 c _⟩
          obtain ⟨c0, c1, c2⟩ := HRS.out.row.2 23 _ ht
          dsimp only at c0 c1 c2
          have HT := hid ht
          have hbV : w.heap.size + 1 < V.heap.size := HRS.out.row.1
          clear ht c70 f70 hb1 hb9
          by_cases h1 : x < lo
          · have HE : Hid (bad c = some 23) := HB23.out.trans (fbad_at HT.out (by simp [badF, h1]) HGD.out)
            go_wp2
            go_quiet (fail)
            go_wp2
            go_ret2
            obtain ⟨e1, e2⟩ := ck_some HE.out
            exact ⟨by rw [e1, e2]; rfl, below_drewN HRS.out.bel nq⟩
          · have h1' : decide (x < lo) = false := by simpa using h1
            by_cases h2 : hi < x
            · have HE : Hid (bad c = some 23) := HB23.out.trans (fbad_at HT.out (by simp [badF, h2]) HGD.out)
              go_wp2
              go_quiet (fail)
              go_wp2
              go_ret2
              obtain ⟨e1, e2⟩ := ck_some HE.out
              exact ⟨by rw [e1, e2]; rfl, below_drewN HRS.out.bel nq⟩
            · have HE : Hid (badF (x, lo, hi) = false) := hid (by simp [badF]; omega)
              go_wp2
              go_quiet (fail)
              go_wp2
              go_roundw
              case rel =>
                refine ⟨24, by omega, by go_num, fun j u hj hu => ?_, HRS.out.below (below_drewN (Below.refl _ _) nq)⟩
                by_cases e : j = 23
                · subst e
                  rw [HT.out] at hu
                  cases hu
                  exact HE.out
                · exact HGD.out j u (by omega) hu
              case measure => simp [intOf] <;> omega
        · have HRK1 : Hid (Rk w wr (w.heap.size + 1) c (XAt c (k + 1))) := by
            have e : XAt c (k + 1) = XAt c k := by unfold XAt; by_cases h : k ≤ 23 <;> simp [h] <;> omega
            rw [e]
            exact HRK
          obtain ⟨x, lo, hi, ht⟩ : ∃ x lo hi, (flds c (XAt c (k + 1)))[k]? = some (x, lo, hi) := ⟨_, _, _, List.getElem?_eq_getElem (by rw [flds_len]; exact hlt)⟩
          obtain ⟨c0, c1, c2⟩ := HRK1.out.row.2 k _ ht
          dsimp only at c0 c1 c2
          have HT : Hid ((flds c (rX c))[k]? = some (x, lo, hi)) := (flds_ne h23).trans ht
          have HRS := HRK1
          have hbV : w.heap.size + 1 < wr.heap.size := HRS.out.row.1
          have q1 : (k : Int) < 27 := by omega
          have q23 : ¬ (k : Int) = 23 := by omega
          clear ht
          by_cases h1 : x < lo
          · have HE : Hid (bad c = some k) := HB23.out.trans (fbad_at HT.out (by simp [badF, h1]) HGD.out)
            go_wp2
            go_quiet (fail)
            go_wp2
            go_ret2
            obtain ⟨e1, e2⟩ := ck_some HE.out
            exact ⟨by rw [e1, e2]; rfl, below_drewN HRS.out.bel nq⟩
          · have h1' : decide (x < lo) = false := by simpa using h1
            by_cases h2 : hi < x
            · have HE : Hid (bad c = some k) := HB23.out.trans (fbad_at HT.out (by simp [badF, h2]) HGD.out)
              go_wp2
              go_quiet (fail)
              go_wp2
              go_ret2
              obtain ⟨e1, e2⟩ := ck_some HE.out
              exact ⟨by rw [e1, e2]; rfl, below_drewN HRS.out.bel nq⟩
            · have HE : Hid (badF (x, lo, hi) = false) := hid (by simp [badF]; omega)
              go_wp2
              go_quiet (fail)
              go_wp2
              go_roundw
              case rel =>
                refine ⟨k + 1, by omega, by go_num, fun j u hj hu => ?_, HRS.out.below (below_drewN (Below.refl _ _) nq)⟩
                by_cases e : j = k
                · subst e
                  rw [HT.out] at hu
                  cases hu
                  exact HE.out
                · exact HGD.out j u (by omega) hu
              case measure => simp [intOf] <;> omega
      · have HE : Hid (bad c = none) := HB23.out.trans (fbad_none fun j u hu => HGD.out j u (by have := (List.getElem?_eq_some_iff.1 hu).1; rw [flds_len] at this; omega) hu)
        go_wp2
        go_ret2
        obtain ⟨e1, e2⟩ := ck_none HE.out
        exact ⟨by rw [e1, e2]; rfl, HRK.out.bel⟩

end Pcm
end Go.Proofs.Ytebfokjgeknciaa
