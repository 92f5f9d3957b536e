import Derived.Test.YtebfokjgeknciaaPr6
namespace Go.Proofs.Ytebfokjgeknciaa
namespace Pcm
open Go.RowKit Laws Irw
set_option linter.unusedVariables false
set_option linter.unusedSimpArgs false
set_option maxRecDepth 20000

set_option maxHeartbeats 8000000 in
theorem rb1_any (c : Cf) (hc : RC c) (x : Int) (hx : R64 x) (w : World) :
    Calls Try.prog 31 #[.agg (cfgA c), .int .i64 x] w fun e w' => e = .returned (.int .i64 (rk c (pb1 c (max x 0)))) ∧ Below w.heap.size w w' := by
  have HC := hid hc
  clear hc
  have hL0 := lc_new w c 23
  have hz0 : w.heap.size < (w.alloc (.cells (cfgA c) 23)).heap.size := by simp
  have HB0 : Hid (Below w.heap.size w (w.alloc (.cells (cfgA c) 23))) := (Below.refl _ _).alloc (Nat.le_refl _) _
  by_cases hb : bad c = none
  · rw [rkY hb]
    have HR := hid (right_of hb)
    have HK : ∀ V, Calls Try.prog 54 #[.agg (cfgA c)] V fun e w' => e = .returned (.bool true) ∧ Below V.heap.size V w' := fun V => by rw [← okB_yes hb]; exact right_any c HC.out V
    obtain ⟨y, hy⟩ : ∃ y, max x 0 = y := ⟨_, rfl⟩
    have y0 : 0 ≤ y := by omega
    have yr : R64 y := by rw [← hy]; exact max_rr hx
    rw [hy]
    have HAb : ∀ V, Calls Try.prog 62 #[.int .i64 x] V fun e w' => e = .returned (.int .i64 y) ∧ Below V.heap.size V w' := fun V => by rw [← hy]; exact aboveB x V
    have HX := hid yr
    have HX0 := hid y0
    obtain ⟨a1, a2⟩ := HR.out.o.h0
    obtain ⟨b1, b2⟩ := HR.out.o.h4
    obtain ⟨d1, d2⟩ := HR.out.o.h19
    obtain ⟨e1, e2⟩ := HR.out.o.h22
    obtain ⟨f1, f2⟩ := HR.out.o.h3
    have hq := q_ref HR.out
    have h19 := div_le (show (0 : Int) ≤ 17408 by omega) (show 1 ≤ c 19 by omega)
    have h450 := div_lt (smul_nn (show 0 ≤ c 8 by have := HR.out.o.h8; omega) (py_nn HR.out y0)) (smul_r _ _) (show 2 ≤ 450 by omega)
    have HE := hid (b1_ref HR.out y)
    have q0 := wsub (a := c 0) (k := 1) (by unfold R64; omega)
    have q3 : ¬ c 3 = 0 := by omega
    have q4 := wtd (show 0 ≤ c 22 by omega) (HC.out 22) (show 1 ≤ c 3 by omega)
    have q5 := wadd (a := c 22 / c 3) (k := c 4) (by unfold R64; omega)
    have q6 := wadd (a := c 22 / c 3 + c 4) (k := 2) (by unfold R64; omega)
    have q7 := wadd (a := c 22 / c 3 + c 4 + 2) (k := 2) (by unfold R64; omega)
    have q8 := wadd (a := c 4) (k := 1) (by unfold R64; omega)
    have q9 : ¬ c 19 = 0 := by omega
    have q10 := wtd (show (0 : Int) ≤ 17408 by omega) (by unfold R64; omega) (show 1 ≤ c 19 by omega)
    have q11 : IntKind.i64.wrap (18 * c 0) = 18 * c 0 := IntWalk.i64_in _ (by omega)
    have q12 := wtd (smul_nn (show 0 ≤ c 8 by have := HR.out.o.h8; omega) (py_nn HR.out y0)) (smul_r _ _) (show (1 : Int) ≤ 450 by omega)
    have HD := hid (And.intro (And.intro a1 a2) (And.intro (And.intro b1 b2) (And.intro h19 (And.intro h450 hq.2))))
    clear h19 h450 hq hy hx yr y0
    go_enter Try.func31, Try.ntmps31
    go_upto_region 3 with (first | (refine wpList_cfg (by rfl) _ (by rfl) (by rfl) hL0 ?_) | (go_at_call 54; go_loud (refine (HK _).mono ?_; rintro e w1 ⟨rfl, hb1⟩; have HB1 : Hid (Below w.heap.size w w1) := HB0.out.trans (hb1.mono HB0.out.size); have hL1 := hL0.keep hz0 hb1; have hz1 : w.heap.size < w1.heap.size := Nat.lt_of_lt_of_le hz0 hb1.size; clear hb1)))
    have hF := hL1
    have hz := hz1
    have HB := HB1
    clear hL0 hL1 hz0 hz1 HB0 HB1 HK
    generalize w1 = W at *
    go_cut [2, 5] (fun v2 v5 w' => v2 = .pointer (some ⟨w.heap.size, 0, none⟩) ∧ v5 = .int .i64 (pd c y) ∧ Hid (Below W.heap.size W w'))
    case first =>
      refine wp_region_held_drew (S := (Sf W w.heap.size c)) (by kernel_rfl) ?_ (fun hHeld => ?_)
      · exact Sf.mk hF hz (Below.refl _ _).drew
      refine wpAnyH_take (i := 0) (oi := { dst := some 13, op := Go.Op.move (Go.Operand.tmp 1), type := 3, pos := "screeref15.go:172", after := #[], guard := none }) (v := ?_) rfl (by kernel_rfl) (by kernel_rfl) (by kernel_rfl) (fun _ _ _ h => h) (Or.inl ⟨by rfl, ?_⟩) hHeld ?_
      rotate_left
      · (intro wq hSw; (try dsimp only at hSw); go_simp; try (with_reducible rfl))
      try simp only [Act.put, List.setIfInBounds_toArray, List.set_cons_zero, List.set_cons_succ]
      refine wpAnyH_take (i := 2) (oi := { dst := some 15, op := Go.Op.fieldAddr 23 (Go.Operand.tmp 2) 22, type := 0, pos := "screeref15.go:172", after := #[], guard := none }) (v := ?_) rfl (by kernel_rfl) (by kernel_rfl) (by kernel_rfl) (fun _ _ _ h => h) (Or.inl ⟨by rfl, ?_⟩) hHeld ?_
      rotate_left
      · (intro wq hSw; (try dsimp only at hSw); go_simp; try (with_reducible rfl))
      try simp only [Act.put, List.setIfInBounds_toArray, List.set_cons_zero, List.set_cons_succ]
      refine wpAnyH_take (i := 3) (oi := { dst := some 16, op := Go.Op.load 3 (Go.Operand.tmp 15), type := 3, pos := "screeref15.go:172", after := #[{ on := 2, ground := Go.Ground.data }], guard := none }) rfl (by kernel_rfl) (by kernel_rfl) (by kernel_rfl) (fun _ _ _ h => h) (yl_int (k := 22) (v := c 22) (by rfl) _ (by rfl) (by rfl) (fun V h => h.1.cell 22 rfl)) hHeld ?_
      try simp only [Act.put, List.setIfInBounds_toArray, List.set_cons_zero, List.set_cons_succ]
      refine wpAnyH_take (i := 4) (oi := { dst := some 17, op := Go.Op.fieldAddr 23 (Go.Operand.tmp 2) 0, type := 0, pos := "screeref15.go:172", after := #[], guard := none }) (v := ?_) rfl (by kernel_rfl) (by kernel_rfl) (by kernel_rfl) (fun _ _ _ h => h) (Or.inl ⟨by rfl, ?_⟩) hHeld ?_
      rotate_left
      · (intro wq hSw; (try dsimp only at hSw); go_simp; try (with_reducible rfl))
      try simp only [Act.put, List.setIfInBounds_toArray, List.set_cons_zero, List.set_cons_succ]
      refine wpAnyH_take (i := 5) (oi := { dst := some 18, op := Go.Op.load 3 (Go.Operand.tmp 17), type := 3, pos := "screeref15.go:172", after := #[{ on := 4, ground := Go.Ground.data }], guard := none }) rfl (by kernel_rfl) (by kernel_rfl) (by kernel_rfl) (fun _ _ _ h => h) (yl_int (k := 0) (v := c 0) (by rfl) _ (by rfl) (by rfl) (fun V h => h.1.cell 0 rfl)) hHeld ?_
      try simp only [Act.put, List.setIfInBounds_toArray, List.set_cons_zero, List.set_cons_succ]
      refine wpAnyH_take (i := 6) (oi := { dst := some 19, op := Go.Op.binOp Go.BinOp.sub 3 (Go.Operand.tmp 18) (Go.Operand.const (Go.Value.int Go.IntKind.i64 1)) 3, type := 3, pos := "screeref15.go:172", after := #[{ on := 5, ground := Go.Ground.data }], guard := none }) (v := ?_) rfl (by kernel_rfl) (by kernel_rfl) (by kernel_rfl) (fun _ _ _ h => h) (Or.inl ⟨by rfl, ?_⟩) hHeld ?_
      rotate_left
      · (intro wq hSw; (try dsimp only at hSw); go_simp; try (with_reducible rfl))
      try simp only [Act.put, List.setIfInBounds_toArray, List.set_cons_zero, List.set_cons_succ]
      refine wpAnyH_take (i := 10) (oi := { dst := some 23, op := Go.Op.load 23 (Go.Operand.tmp 2), type := 23, pos := "screeref15.go:172", after := #[], guard := none }) rfl (by kernel_rfl) (by kernel_rfl) (by kernel_rfl) (fun _ _ _ h => h) (yl_cfg (by rfl) _ (by rfl) (by rfl) (fun V h => h.1)) hHeld ?_
      try simp only [Act.put, List.setIfInBounds_toArray, List.set_cons_zero, List.set_cons_succ]
      refine wpAnyH_ready (rs := [1]) (by kernel_rfl) (by simp) ?_
      refine AllReadyH.cons (o := { dst := some 14, op := Go.Op.call { callee := Go.Callee.value (Go.Operand.func 62), args := #[Go.Operand.tmp 13], argTypes := #[3] }, type := 3, pos := "screeref15.go:172", after := #[{ on := 0, ground := Go.Ground.data }], guard := none }) rfl (fun K hK => ?_) AllReadyH.nil
      go_simp
      refine (HAb _).mono ?_
      rintro e w9 ⟨rfl, hb9⟩
      try dsimp only
      refine hK.out _ _ ?_ (fun hHeld => ?_)
      · first | exact Sf.mk hF hz ((Sf.below hHeld).trans (hb9.mono (Sf.below hHeld).size)) | exact Sf.mk hF hz (((Sf.below hHeld).alloc (Sf.below hHeld).size _).trans (hb9.mono (by have := (Sf.below hHeld).size; simp; omega)))
      clear hK K
      try simp only [Act.put, List.setIfInBounds_toArray, List.set_cons_zero, List.set_cons_succ]
      refine wpAnyH_ready (rs := [7]) (by kernel_rfl) (by simp) ?_
      refine AllReadyH.cons (o := { dst := some 20, op := Go.Op.call { callee := Go.Callee.value (Go.Operand.func 15), args := #[Go.Operand.tmp 19, Go.Operand.const (Go.Value.int Go.IntKind.i64 17408)], argTypes := #[3, 3] }, type := 3, pos := "screeref15.go:172", after := #[{ on := 6, ground := Go.Ground.data }, { on := 1, ground := Go.Ground.chain }], guard := none }) rfl (fun K hK => ?_) AllReadyH.nil
      go_simp
      refine (rmulB _ _ (by first | exact HC.out _ | exact sadd_r _ _ | exact smul_r _ _ | exact ssum_r _ | exact plsum_r | exact pd_r _ _ | exact HX.out | (have hq1 := HD.out; unfold R64; omega)) (by first | exact HC.out _ | exact sadd_r _ _ | exact smul_r _ _ | exact ssum_r _ | exact plsum_r | exact pd_r _ _ | exact HX.out | (have hq1 := HD.out; unfold R64; omega)) _).mono ?_
      rintro e w9 ⟨rfl, hb9⟩
      try dsimp only
      refine hK.out _ _ ?_ (fun hHeld => ?_)
      · first | exact Sf.mk hF hz ((Sf.below hHeld).trans (hb9.mono (Sf.below hHeld).size)) | exact Sf.mk hF hz (((Sf.below hHeld).alloc (Sf.below hHeld).size _).trans (hb9.mono (by have := (Sf.below hHeld).size; simp; omega)))
      clear hK K
      try simp only [Act.put, List.setIfInBounds_toArray, List.set_cons_zero, List.set_cons_succ]
      refine wpAnyH_ready (rs := [8]) (by kernel_rfl) (by simp) ?_
      refine AllReadyH.cons (o := { dst := some 21, op := Go.Op.buildSlice 47 3 #[(0, Go.Operand.tmp 14), (1, Go.Operand.tmp 16), (2, Go.Operand.tmp 20)], type := 47, pos := "screeref15.go:172", after := #[{ on := 1, ground := Go.Ground.data }, { on := 3, ground := Go.Ground.data }, { on := 7, ground := Go.Ground.data }], guard := none }) rfl (fun K hK => ?_) AllReadyH.nil
      go_simp
      refine hK.out _ _ ?_ (fun hHeld => ?_)
      · exact Sf.mk hF hz ((Sf.below hHeld).alloc (Sf.below hHeld).size _)
      clear hK K
      try simp only [Act.put, List.setIfInBounds_toArray, List.set_cons_zero, List.set_cons_succ]
      refine wpAnyH_ready (rs := [9]) (by kernel_rfl) (by simp) ?_
      refine AllReadyH.cons (o := { dst := some 22, op := Go.Op.call { callee := Go.Callee.value (Go.Operand.func 65), args := #[Go.Operand.tmp 21], argTypes := #[47] }, type := 3, pos := "screeref15.go:172", after := #[{ on := 8, ground := Go.Ground.data }, { on := 7, ground := Go.Ground.chain }], guard := none }) rfl (fun K hK => ?_) AllReadyH.nil
      go_simp
      first | (refine (rsumD_any _ _ _ _ (by rfl) (by rfl) (by repeat (first | exact inil | refine icons (by first | exact HC.out _ | exact sadd_r _ _ | exact smul_r _ _ | exact ssum_r _ | exact plsum_r | exact pd_r _ _ | exact HX.out | (have hq1 := HD.out; unfold R64; omega)) ?_))).mono ?_; rintro e w9 ⟨rfl, hb9⟩) | (refine (rsumN_any _ _ _ _ (by rfl) (by rfl) (by repeat (first | exact inil | refine icons (by first | exact HC.out _ | exact sadd_r _ _ | exact smul_r _ _ | exact ssum_r _ | exact plsum_r | exact pd_r _ _ | exact HX.out | (have hq1 := HD.out; unfold R64; omega)) ?_))).mono ?_; rintro e w9 ⟨rfl, hb9⟩)
      try dsimp only
      refine hK.out _ _ ?_ (fun hHeld => ?_)
      · first | exact Sf.mk hF hz ((Sf.below hHeld).trans (hb9.mono (Sf.below hHeld).size)) | exact Sf.mk hF hz (((Sf.below hHeld).alloc (Sf.below hHeld).size _).trans (hb9.mono (by have := (Sf.below hHeld).size; simp; omega)))
      clear hK K
      try simp only [Act.put, List.setIfInBounds_toArray, List.set_cons_zero, List.set_cons_succ]
      refine wpAnyH_ready (rs := [11]) (by kernel_rfl) (by simp) ?_
      refine AllReadyH.cons (o := { dst := some 24, op := Go.Op.call { callee := Go.Callee.value (Go.Operand.func 25), args := #[Go.Operand.tmp 23], argTypes := #[23] }, type := 3, pos := "screeref15.go:172", after := #[{ on := 10, ground := Go.Ground.data }, { on := 9, ground := Go.Ground.chain }], guard := none }) rfl (fun K hK => ?_) AllReadyH.nil
      go_simp
      refine (rdebtCapY c HC.out hb _).mono ?_
      rintro e w9 ⟨rfl, hb9⟩
      try dsimp only
      refine hK.out _ _ ?_ (fun hHeld => ?_)
      · first | exact Sf.mk hF hz ((Sf.below hHeld).trans (hb9.mono (Sf.below hHeld).size)) | exact Sf.mk hF hz (((Sf.below hHeld).alloc (Sf.below hHeld).size _).trans (hb9.mono (by have := (Sf.below hHeld).size; simp; omega)))
      clear hK K
      try simp only [Act.put, List.setIfInBounds_toArray, List.set_cons_zero, List.set_cons_succ]
      refine wpAnyH_take (i := 12) (oi := { dst := some 25, op := Go.Op.call { callee := Go.Callee.builtin Go.Builtin.min, args := #[Go.Operand.tmp 22, Go.Operand.tmp 24], argTypes := #[3, 3] }, type := 3, pos := "screeref15.go:172", after := #[{ on := 9, ground := Go.Ground.data }, { on := 11, ground := Go.Ground.data }], guard := none }) (v := ?_) rfl (by kernel_rfl) (by kernel_rfl) (by kernel_rfl) (fun _ _ _ h => h) (Or.inl ⟨by rfl, ?_⟩) hHeld ?_
      rotate_left
      · (intro wq hSw; (try dsimp only at hSw); go_simp; try (with_reducible rfl))
      try simp only [Act.put, List.setIfInBounds_toArray, List.set_cons_zero, List.set_cons_succ]
      refine wpAnyH_take (i := 13) (oi := { dst := some 5, op := Go.Op.assign (Go.Operand.tmp 25), type := 3, pos := "screeref15.go:172", after := #[{ on := 12, ground := Go.Ground.data }, { on := 11, ground := Go.Ground.chain }, { on := 0, ground := Go.Ground.phase }, { on := 1, ground := Go.Ground.phase }, { on := 2, ground := Go.Ground.phase }, { on := 3, ground := Go.Ground.phase }, { on := 4, ground := Go.Ground.phase }, { on := 5, ground := Go.Ground.phase }, { on := 6, ground := Go.Ground.phase }, { on := 7, ground := Go.Ground.phase }, { on := 8, ground := Go.Ground.phase }, { on := 9, ground := Go.Ground.phase }, { on := 10, ground := Go.Ground.phase }, { on := 11, ground := Go.Ground.phase }, { on := 12, ground := Go.Ground.phase }], guard := none }) (v := ?_) rfl (by kernel_rfl) (by kernel_rfl) (by kernel_rfl) (fun _ _ _ h => h) (Or.inl ⟨by rfl, ?_⟩) hHeld ?_
      rotate_left
      · (intro wq hSw; (try dsimp only at hSw); go_simp; try (with_reducible rfl))
      try simp only [Act.put, List.setIfInBounds_toArray, List.set_cons_zero, List.set_cons_succ]
      refine wpAnyH_done (by kernel_rfl) ?_ _
      have HBZ := hid (Sf.below hHeld)
      clear hHeld
      go_wp2
      go_meet
      case rel => exact ⟨rfl, rfl, HBZ⟩
    case rest =>
      obtain ⟨rfl, rfl, HBC⟩ := hcut
      rename World => W2
      have hF' := hF.keep hz HBC.out
      have hz' : w.heap.size < W2.heap.size := Nat.lt_of_lt_of_le hz HBC.out.size
      have HB' : Hid (Below w.heap.size w W2) := HB.out.trans (HBC.out.mono HB.out.size)
      clear hF hz HB HBC
      have hF := hF'
      have hz := hz'
      have HB := HB'
      clear hF' hz' HB'
      go_wp2_with (first | (refine wpList_cfg (by rfl) _ (by rfl) (by rfl) hF ?_) | (go_at_call 19; go_loud (refine (rlimitSumY c HC.out hb _).mono ?_; rintro e w3 ⟨rfl, hb3⟩; have HB3 := hid hb3; clear hb3)) | (go_at_call 13; go_loud (refine (radd_any _ _ plsum_r (pd_r _ _) _).mono ?_; rintro e w5 ⟨rfl, hw5⟩; have hw6 := hw5.symm; clear hw5; subst hw6)))
      rw [show sadd (plsum c) (pd c y) = py c y from rfl]
      have hF3 := hF.keep hz HB3.out
      have hz3 : w.heap.size < w3.heap.size := Nat.lt_of_lt_of_le hz HB3.out.size
      have HB4 : Hid (Below w.heap.size w w3) := HB.out.trans (HB3.out.mono HB.out.size)
      clear hF hz HB HB3
      have hF := hF3
      have hz := hz3
      have HB := HB4
      clear hF3 hz3 HB4
      generalize w3 = W3 at *
      go_cut [2, 6, 7] (fun v2 v6 v7 w' => v2 = .pointer (some ⟨w.heap.size, 0, none⟩) ∧ v6 = .int .i64 (py c y) ∧ v7 = .int .i64 (pt0 c y) ∧ Hid (Below W3.heap.size W3 w'))
      case first =>
        refine wp_region_held_drew (S := (Sf W3 w.heap.size c)) (by kernel_rfl) ?_ (fun hHeld => ?_)
        · exact Sf.mk hF hz (Below.refl _ _).drew
        refine wpAnyH_take (i := 0) (oi := { dst := some 30, op := Go.Op.load 23 (Go.Operand.tmp 2), type := 23, pos := "screeref15.go:174", after := #[], guard := none }) rfl (by kernel_rfl) (by kernel_rfl) (by kernel_rfl) (fun _ _ _ h => h) (yl_cfg (by rfl) _ (by rfl) (by rfl) (fun V h => h.1)) hHeld ?_
        try simp only [Act.put, List.setIfInBounds_toArray, List.set_cons_zero, List.set_cons_succ]
        refine wpAnyH_take (i := 1) (oi := { dst := some 31, op := Go.Op.load 23 (Go.Operand.tmp 2), type := 23, pos := "screeref15.go:174", after := #[], guard := none }) rfl (by kernel_rfl) (by kernel_rfl) (by kernel_rfl) (fun _ _ _ h => h) (yl_cfg (by rfl) _ (by rfl) (by rfl) (fun V h => h.1)) hHeld ?_
        try simp only [Act.put, List.setIfInBounds_toArray, List.set_cons_zero, List.set_cons_succ]
        refine wpAnyH_take (i := 5) (oi := { dst := some 35, op := Go.Op.load 23 (Go.Operand.tmp 2), type := 23, pos := "screeref15.go:174", after := #[], guard := none }) rfl (by kernel_rfl) (by kernel_rfl) (by kernel_rfl) (fun _ _ _ h => h) (yl_cfg (by rfl) _ (by rfl) (by rfl) (fun V h => h.1)) hHeld ?_
        try simp only [Act.put, List.setIfInBounds_toArray, List.set_cons_zero, List.set_cons_succ]
        refine wpAnyH_take (i := 6) (oi := { dst := some 36, op := Go.Op.move (Go.Operand.tmp 6), type := 3, pos := "screeref15.go:174", after := #[], guard := none }) (v := ?_) rfl (by kernel_rfl) (by kernel_rfl) (by kernel_rfl) (fun _ _ _ h => h) (Or.inl ⟨by rfl, ?_⟩) hHeld ?_
        rotate_left
        · (intro wq hSw; (try dsimp only at hSw); go_simp; try (with_reducible rfl))
        try simp only [Act.put, List.setIfInBounds_toArray, List.set_cons_zero, List.set_cons_succ]
        refine wpAnyH_ready (rs := [2]) (by kernel_rfl) (by simp) ?_
        refine AllReadyH.cons (o := { dst := some 32, op := Go.Op.call { callee := Go.Callee.value (Go.Operand.func 68), args := #[Go.Operand.tmp 31], argTypes := #[23] }, type := 3, pos := "screeref15.go:174", after := #[{ on := 1, ground := Go.Ground.data }], guard := none }) rfl (fun K hK => ?_) AllReadyH.nil
        go_simp
        refine (rjob_any c HC.out hb _).mono ?_
        rintro e w9 ⟨rfl, hb9⟩
        try dsimp only
        refine hK.out _ _ ?_ (fun hHeld => ?_)
        · first | exact Sf.mk hF hz ((Sf.below hHeld).trans (hb9.mono (Sf.below hHeld).size)) | exact Sf.mk hF hz (((Sf.below hHeld).alloc (Sf.below hHeld).size _).trans (hb9.mono (by have := (Sf.below hHeld).size; simp; omega)))
        clear hK K
        try simp only [Act.put, List.setIfInBounds_toArray, List.set_cons_zero, List.set_cons_succ]
        refine wpAnyH_ready (rs := [3]) (by kernel_rfl) (by simp) ?_
        refine AllReadyH.cons (o := { dst := some 33, op := Go.Op.call { callee := Go.Callee.value (Go.Operand.func 29), args := #[Go.Operand.tmp 30, Go.Operand.tmp 32], argTypes := #[23, 3] }, type := 3, pos := "screeref15.go:174", after := #[{ on := 0, ground := Go.Ground.data }, { on := 2, ground := Go.Ground.data }, { on := 2, ground := Go.Ground.chain }], guard := none }) rfl (fun K hK => ?_) AllReadyH.nil
        go_simp
        refine (rtcY c HC.out hb _ (pj_nn HR.out) (smul_r _ _) _).mono ?_
        rintro e w9 ⟨rfl, hb9⟩
        try dsimp only
        refine hK.out _ _ ?_ (fun hHeld => ?_)
        · first | exact Sf.mk hF hz ((Sf.below hHeld).trans (hb9.mono (Sf.below hHeld).size)) | exact Sf.mk hF hz (((Sf.below hHeld).alloc (Sf.below hHeld).size _).trans (hb9.mono (by have := (Sf.below hHeld).size; simp; omega)))
        clear hK K
        try simp only [Act.put, List.setIfInBounds_toArray, List.set_cons_zero, List.set_cons_succ]
        refine wpAnyH_ready (rs := [4]) (by kernel_rfl) (by simp) ?_
        refine AllReadyH.cons (o := { dst := some 34, op := Go.Op.call { callee := Go.Callee.value (Go.Operand.func 15), args := #[Go.Operand.const (Go.Value.int Go.IntKind.i64 2), Go.Operand.tmp 33], argTypes := #[3, 3] }, type := 3, pos := "screeref15.go:174", after := #[{ on := 3, ground := Go.Ground.data }, { on := 3, ground := Go.Ground.chain }], guard := none }) rfl (fun K hK => ?_) AllReadyH.nil
        go_simp
        refine (rmulB _ _ (by first | exact HC.out _ | exact sadd_r _ _ | exact smul_r _ _ | exact ssum_r _ | exact plsum_r | exact pd_r _ _ | exact HX.out | (have hq1 := HD.out; unfold R64; omega)) (by first | exact HC.out _ | exact sadd_r _ _ | exact smul_r _ _ | exact ssum_r _ | exact plsum_r | exact pd_r _ _ | exact HX.out | (have hq1 := HD.out; unfold R64; omega)) _).mono ?_
        rintro e w9 ⟨rfl, hb9⟩
        try dsimp only
        refine hK.out _ _ ?_ (fun hHeld => ?_)
        · first | exact Sf.mk hF hz ((Sf.below hHeld).trans (hb9.mono (Sf.below hHeld).size)) | exact Sf.mk hF hz (((Sf.below hHeld).alloc (Sf.below hHeld).size _).trans (hb9.mono (by have := (Sf.below hHeld).size; simp; omega)))
        clear hK K
        try simp only [Act.put, List.setIfInBounds_toArray, List.set_cons_zero, List.set_cons_succ]
        refine wpAnyH_ready (rs := [7]) (by kernel_rfl) (by simp) ?_
        refine AllReadyH.cons (o := { dst := some 37, op := Go.Op.call { callee := Go.Callee.value (Go.Operand.func 29), args := #[Go.Operand.tmp 35, Go.Operand.tmp 36], argTypes := #[23, 3] }, type := 3, pos := "screeref15.go:174", after := #[{ on := 5, ground := Go.Ground.data }, { on := 6, ground := Go.Ground.data }, { on := 4, ground := Go.Ground.chain }], guard := none }) rfl (fun K hK => ?_) AllReadyH.nil
        go_simp
        refine (rtcY c HC.out hb _ (py_nn HR.out HX0.out) (sadd_r _ _) _).mono ?_
        rintro e w9 ⟨rfl, hb9⟩
        try dsimp only
        refine hK.out _ _ ?_ (fun hHeld => ?_)
        · first | exact Sf.mk hF hz ((Sf.below hHeld).trans (hb9.mono (Sf.below hHeld).size)) | exact Sf.mk hF hz (((Sf.below hHeld).alloc (Sf.below hHeld).size _).trans (hb9.mono (by have := (Sf.below hHeld).size; simp; omega)))
        clear hK K
        try simp only [Act.put, List.setIfInBounds_toArray, List.set_cons_zero, List.set_cons_succ]
        refine wpAnyH_ready (rs := [8]) (by kernel_rfl) (by simp) ?_
        refine AllReadyH.cons (o := { dst := some 38, op := Go.Op.call { callee := Go.Callee.value (Go.Operand.func 15), args := #[Go.Operand.const (Go.Value.int Go.IntKind.i64 2), Go.Operand.tmp 37], argTypes := #[3, 3] }, type := 3, pos := "screeref15.go:174", after := #[{ on := 7, ground := Go.Ground.data }, { on := 7, ground := Go.Ground.chain }], guard := none }) rfl (fun K hK => ?_) AllReadyH.nil
        go_simp
        refine (rmulB _ _ (by first | exact HC.out _ | exact sadd_r _ _ | exact smul_r _ _ | exact ssum_r _ | exact plsum_r | exact pd_r _ _ | exact HX.out | (have hq1 := HD.out; unfold R64; omega)) (by first | exact HC.out _ | exact sadd_r _ _ | exact smul_r _ _ | exact ssum_r _ | exact plsum_r | exact pd_r _ _ | exact HX.out | (have hq1 := HD.out; unfold R64; omega)) _).mono ?_
        rintro e w9 ⟨rfl, hb9⟩
        try dsimp only
        refine hK.out _ _ ?_ (fun hHeld => ?_)
        · first | exact Sf.mk hF hz ((Sf.below hHeld).trans (hb9.mono (Sf.below hHeld).size)) | exact Sf.mk hF hz (((Sf.below hHeld).alloc (Sf.below hHeld).size _).trans (hb9.mono (by have := (Sf.below hHeld).size; simp; omega)))
        clear hK K
        try simp only [Act.put, List.setIfInBounds_toArray, List.set_cons_zero, List.set_cons_succ]
        refine wpAnyH_ready (rs := [9]) (by kernel_rfl) (by simp) ?_
        refine AllReadyH.cons (o := { dst := some 39, op := Go.Op.buildSlice 47 3 #[(0, Go.Operand.tmp 34), (1, Go.Operand.tmp 38), (2, Go.Operand.const (Go.Value.int Go.IntKind.i64 16))], type := 47, pos := "screeref15.go:174", after := #[{ on := 4, ground := Go.Ground.data }, { on := 8, ground := Go.Ground.data }], guard := none }) rfl (fun K hK => ?_) AllReadyH.nil
        go_simp
        refine hK.out _ _ ?_ (fun hHeld => ?_)
        · exact Sf.mk hF hz ((Sf.below hHeld).alloc (Sf.below hHeld).size _)
        clear hK K
        try simp only [Act.put, List.setIfInBounds_toArray, List.set_cons_zero, List.set_cons_succ]
        refine wpAnyH_ready (rs := [10]) (by kernel_rfl) (by simp) ?_
        refine AllReadyH.cons (o := { dst := some 40, op := Go.Op.call { callee := Go.Callee.value (Go.Operand.func 65), args := #[Go.Operand.tmp 39], argTypes := #[47] }, type := 3, pos := "screeref15.go:174", after := #[{ on := 9, ground := Go.Ground.data }, { on := 8, ground := Go.Ground.chain }], guard := none }) rfl (fun K hK => ?_) AllReadyH.nil
        go_simp
        first | (refine (rsumD_any _ _ _ _ (by rfl) (by rfl) (by repeat (first | exact inil | refine icons (by first | exact HC.out _ | exact sadd_r _ _ | exact smul_r _ _ | exact ssum_r _ | exact plsum_r | exact pd_r _ _ | exact HX.out | (have hq1 := HD.out; unfold R64; omega)) ?_))).mono ?_; rintro e w9 ⟨rfl, hb9⟩) | (refine (rsumN_any _ _ _ _ (by rfl) (by rfl) (by repeat (first | exact inil | refine icons (by first | exact HC.out _ | exact sadd_r _ _ | exact smul_r _ _ | exact ssum_r _ | exact plsum_r | exact pd_r _ _ | exact HX.out | (have hq1 := HD.out; unfold R64; omega)) ?_))).mono ?_; rintro e w9 ⟨rfl, hb9⟩)
        try dsimp only
        refine hK.out _ _ ?_ (fun hHeld => ?_)
        · first | exact Sf.mk hF hz ((Sf.below hHeld).trans (hb9.mono (Sf.below hHeld).size)) | exact Sf.mk hF hz (((Sf.below hHeld).alloc (Sf.below hHeld).size _).trans (hb9.mono (by have := (Sf.below hHeld).size; simp; omega)))
        clear hK K
        try simp only [Act.put, List.setIfInBounds_toArray, List.set_cons_zero, List.set_cons_succ]
        refine wpAnyH_take (i := 11) (oi := { dst := some 7, op := Go.Op.assign (Go.Operand.tmp 40), type := 3, pos := "screeref15.go:174", after := #[{ on := 10, ground := Go.Ground.data }, { on := 10, ground := Go.Ground.chain }, { on := 0, ground := Go.Ground.phase }, { on := 1, ground := Go.Ground.phase }, { on := 2, ground := Go.Ground.phase }, { on := 3, ground := Go.Ground.phase }, { on := 4, ground := Go.Ground.phase }, { on := 5, ground := Go.Ground.phase }, { on := 6, ground := Go.Ground.phase }, { on := 7, ground := Go.Ground.phase }, { on := 8, ground := Go.Ground.phase }, { on := 9, ground := Go.Ground.phase }, { on := 10, ground := Go.Ground.phase }], guard := none }) (v := ?_) rfl (by kernel_rfl) (by kernel_rfl) (by kernel_rfl) (fun _ _ _ h => h) (Or.inl ⟨by rfl, ?_⟩) hHeld ?_
        rotate_left
        · (intro wq hSw; (try dsimp only at hSw); go_simp; try (with_reducible rfl))
        try simp only [Act.put, List.setIfInBounds_toArray, List.set_cons_zero, List.set_cons_succ]
        refine wpAnyH_done (by kernel_rfl) ?_ _
        have HBZ := hid (Sf.below hHeld)
        clear hHeld
        go_wp2
        go_meet
        case rel => exact ⟨rfl, rfl, rfl, HBZ⟩
      case rest =>
        obtain ⟨rfl, rfl, rfl, HBC⟩ := hcut
        rename World => W4
        have hF' := hF.keep hz HBC.out
        have hz' : w.heap.size < W4.heap.size := Nat.lt_of_lt_of_le hz HBC.out.size
        have HB' : Hid (Below w.heap.size w W4) := HB.out.trans (HBC.out.mono HB.out.size)
        try go_wp2
        clear hF hz HB HBC
        have hF := hF'
        have hz := hz'
        have HB := HB'
        clear hF' hz' HB'
        go_cut [2, 6, 7, 8] (fun v2 v6 v7 v8 w' => v2 = .pointer (some ⟨w.heap.size, 0, none⟩) ∧ v6 = .int .i64 (py c y) ∧ v7 = .int .i64 (pt0 c y) ∧ v8 = .int .i64 (c 22 / c 3 + c 4 + 2) ∧ Hid (Below W4.heap.size W4 w'))
        case first =>
          refine wp_region_held_drew (S := (Sf W4 w.heap.size c)) (by kernel_rfl) ?_ (fun hHeld => ?_)
          · exact Sf.mk hF hz (Below.refl _ _).drew
          refine wpAnyH_take (i := 0) (oi := { dst := some 41, op := Go.Op.fieldAddr 23 (Go.Operand.tmp 2) 22, type := 0, pos := "screeref15.go:175", after := #[], guard := none }) (v := ?_) rfl (by kernel_rfl) (by kernel_rfl) (by kernel_rfl) (fun _ _ _ h => h) (Or.inl ⟨by rfl, ?_⟩) hHeld ?_
          rotate_left
          · (intro wq hSw; (try dsimp only at hSw); go_simp; try (with_reducible rfl))
          try simp only [Act.put, List.setIfInBounds_toArray, List.set_cons_zero, List.set_cons_succ]
          refine wpAnyH_take (i := 1) (oi := { dst := some 42, op := Go.Op.load 3 (Go.Operand.tmp 41), type := 3, pos := "screeref15.go:175", after := #[{ on := 0, ground := Go.Ground.data }], guard := none }) rfl (by kernel_rfl) (by kernel_rfl) (by kernel_rfl) (fun _ _ _ h => h) (yl_int (k := 22) (v := c 22) (by rfl) _ (by rfl) (by rfl) (fun V h => h.1.cell 22 rfl)) hHeld ?_
          try simp only [Act.put, List.setIfInBounds_toArray, List.set_cons_zero, List.set_cons_succ]
          refine wpAnyH_take (i := 2) (oi := { dst := some 43, op := Go.Op.fieldAddr 23 (Go.Operand.tmp 2) 3, type := 0, pos := "screeref15.go:175", after := #[], guard := none }) (v := ?_) rfl (by kernel_rfl) (by kernel_rfl) (by kernel_rfl) (fun _ _ _ h => h) (Or.inl ⟨by rfl, ?_⟩) hHeld ?_
          rotate_left
          · (intro wq hSw; (try dsimp only at hSw); go_simp; try (with_reducible rfl))
          try simp only [Act.put, List.setIfInBounds_toArray, List.set_cons_zero, List.set_cons_succ]
          refine wpAnyH_take (i := 3) (oi := { dst := some 44, op := Go.Op.load 3 (Go.Operand.tmp 43), type := 3, pos := "screeref15.go:175", after := #[{ on := 2, ground := Go.Ground.data }], guard := none }) rfl (by kernel_rfl) (by kernel_rfl) (by kernel_rfl) (fun _ _ _ h => h) (yl_int (k := 3) (v := c 3) (by rfl) _ (by rfl) (by rfl) (fun V h => h.1.cell 3 rfl)) hHeld ?_
          try simp only [Act.put, List.setIfInBounds_toArray, List.set_cons_zero, List.set_cons_succ]
          refine wpAnyH_take (i := 4) (oi := { dst := some 45, op := Go.Op.binOp Go.BinOp.quo 3 (Go.Operand.tmp 42) (Go.Operand.tmp 44) 3, type := 3, pos := "screeref15.go:175", after := #[{ on := 1, ground := Go.Ground.data }, { on := 3, ground := Go.Ground.data }], guard := none }) (v := ?_) rfl (by kernel_rfl) (by kernel_rfl) (by kernel_rfl) (fun _ _ _ h => h) (Or.inl ⟨by rfl, ?_⟩) hHeld ?_
          rotate_left
          · (intro wq hSw; (try dsimp only at hSw); go_simp; try (with_reducible rfl))
          try simp only [Act.put, List.setIfInBounds_toArray, List.set_cons_zero, List.set_cons_succ]
          refine wpAnyH_take (i := 5) (oi := { dst := some 46, op := Go.Op.fieldAddr 23 (Go.Operand.tmp 2) 4, type := 0, pos := "screeref15.go:175", after := #[], guard := none }) (v := ?_) rfl (by kernel_rfl) (by kernel_rfl) (by kernel_rfl) (fun _ _ _ h => h) (Or.inl ⟨by rfl, ?_⟩) hHeld ?_
          rotate_left
          · (intro wq hSw; (try dsimp only at hSw); go_simp; try (with_reducible rfl))
          try simp only [Act.put, List.setIfInBounds_toArray, List.set_cons_zero, List.set_cons_succ]
          refine wpAnyH_take (i := 6) (oi := { dst := some 47, op := Go.Op.load 3 (Go.Operand.tmp 46), type := 3, pos := "screeref15.go:175", after := #[{ on := 5, ground := Go.Ground.data }], guard := none }) rfl (by kernel_rfl) (by kernel_rfl) (by kernel_rfl) (fun _ _ _ h => h) (yl_int (k := 4) (v := c 4) (by rfl) _ (by rfl) (by rfl) (fun V h => h.1.cell 4 rfl)) hHeld ?_
          try simp only [Act.put, List.setIfInBounds_toArray, List.set_cons_zero, List.set_cons_succ]
          refine wpAnyH_take (i := 7) (oi := { dst := some 48, op := Go.Op.binOp Go.BinOp.add 3 (Go.Operand.tmp 45) (Go.Operand.tmp 47) 3, type := 3, pos := "screeref15.go:175", after := #[{ on := 4, ground := Go.Ground.data }, { on := 6, ground := Go.Ground.data }], guard := none }) (v := ?_) rfl (by kernel_rfl) (by kernel_rfl) (by kernel_rfl) (fun _ _ _ h => h) (Or.inl ⟨by rfl, ?_⟩) hHeld ?_
          rotate_left
          · (intro wq hSw; (try dsimp only at hSw); go_simp; try (with_reducible rfl))
          try simp only [Act.put, List.setIfInBounds_toArray, List.set_cons_zero, List.set_cons_succ]
          refine wpAnyH_take (i := 8) (oi := { dst := some 49, op := Go.Op.binOp Go.BinOp.add 3 (Go.Operand.tmp 48) (Go.Operand.const (Go.Value.int Go.IntKind.i64 2)) 3, type := 3, pos := "screeref15.go:175", after := #[{ on := 7, ground := Go.Ground.data }], guard := none }) (v := ?_) rfl (by kernel_rfl) (by kernel_rfl) (by kernel_rfl) (fun _ _ _ h => h) (Or.inl ⟨by rfl, ?_⟩) hHeld ?_
          rotate_left
          · (intro wq hSw; (try dsimp only at hSw); go_simp; try (with_reducible rfl))
          try simp only [Act.put, List.setIfInBounds_toArray, List.set_cons_zero, List.set_cons_succ]
          refine wpAnyH_take (i := 9) (oi := { dst := some 8, op := Go.Op.assign (Go.Operand.tmp 49), type := 3, pos := "screeref15.go:175", after := #[{ on := 8, ground := Go.Ground.data }, { on := 0, ground := Go.Ground.phase }, { on := 1, ground := Go.Ground.phase }, { on := 2, ground := Go.Ground.phase }, { on := 3, ground := Go.Ground.phase }, { on := 4, ground := Go.Ground.phase }, { on := 5, ground := Go.Ground.phase }, { on := 6, ground := Go.Ground.phase }, { on := 7, ground := Go.Ground.phase }, { on := 8, ground := Go.Ground.phase }], guard := none }) (v := ?_) rfl (by kernel_rfl) (by kernel_rfl) (by kernel_rfl) (fun _ _ _ h => h) (Or.inl ⟨by rfl, ?_⟩) hHeld ?_
          rotate_left
          · (intro wq hSw; (try dsimp only at hSw); go_simp; try (with_reducible rfl))
          try simp only [Act.put, List.setIfInBounds_toArray, List.set_cons_zero, List.set_cons_succ]
          refine wpAnyH_done (by kernel_rfl) ?_ _
          have HBZ := hid (Sf.below hHeld)
          clear hHeld
          go_wp2
          go_meet
          case rel => exact ⟨rfl, rfl, rfl, rfl, HBZ⟩
        case rest =>
          obtain ⟨rfl, rfl, rfl, rfl, HBC⟩ := hcut
          rename World => W5
          have hF' := hF.keep hz HBC.out
          have hz' : w.heap.size < W5.heap.size := Nat.lt_of_lt_of_le hz HBC.out.size
          have HB' : Hid (Below w.heap.size w W5) := HB.out.trans (HBC.out.mono HB.out.size)
          try go_wp2
          clear hF hz HB HBC
          have hF := hF'
          have hz := hz'
          have HB := HB'
          clear hF' hz' HB'
          go_cut [2, 7, 8, 9] (fun v2 v7 v8 v9 w' => v2 = .pointer (some ⟨w.heap.size, 0, none⟩) ∧ v7 = .int .i64 (pt0 c y) ∧ v8 = .int .i64 (c 22 / c 3 + c 4 + 2) ∧ v9 = .int .i64 (ptd c y) ∧ Hid (Below W5.heap.size W5 w'))
          case first =>
            refine wp_region_held_drew (S := (Sf W5 w.heap.size c)) (by kernel_rfl) ?_ (fun hHeld => ?_)
            · exact Sf.mk hF hz (Below.refl _ _).drew
            refine wpAnyH_take (i := 0) (oi := { dst := some 50, op := Go.Op.fieldAddr 23 (Go.Operand.tmp 2) 8, type := 0, pos := "screeref15.go:176", after := #[], guard := none }) (v := ?_) rfl (by kernel_rfl) (by kernel_rfl) (by kernel_rfl) (fun _ _ _ h => h) (Or.inl ⟨by rfl, ?_⟩) hHeld ?_
            rotate_left
            · (intro wq hSw; (try dsimp only at hSw); go_simp; try (with_reducible rfl))
            try simp only [Act.put, List.setIfInBounds_toArray, List.set_cons_zero, List.set_cons_succ]
            refine wpAnyH_take (i := 1) (oi := { dst := some 51, op := Go.Op.load 3 (Go.Operand.tmp 50), type := 3, pos := "screeref15.go:176", after := #[{ on := 0, ground := Go.Ground.data }], guard := none }) rfl (by kernel_rfl) (by kernel_rfl) (by kernel_rfl) (fun _ _ _ h => h) (yl_int (k := 8) (v := c 8) (by rfl) _ (by rfl) (by rfl) (fun V h => h.1.cell 8 rfl)) hHeld ?_
            try simp only [Act.put, List.setIfInBounds_toArray, List.set_cons_zero, List.set_cons_succ]
            refine wpAnyH_take (i := 2) (oi := { dst := some 52, op := Go.Op.move (Go.Operand.tmp 6), type := 3, pos := "screeref15.go:176", after := #[], guard := none }) (v := ?_) rfl (by kernel_rfl) (by kernel_rfl) (by kernel_rfl) (fun _ _ _ h => h) (Or.inl ⟨by rfl, ?_⟩) hHeld ?_
            rotate_left
            · (intro wq hSw; (try dsimp only at hSw); go_simp; try (with_reducible rfl))
            try simp only [Act.put, List.setIfInBounds_toArray, List.set_cons_zero, List.set_cons_succ]
            refine wpAnyH_take (i := 6) (oi := { dst := some 56, op := Go.Op.load 23 (Go.Operand.tmp 2), type := 23, pos := "screeref15.go:176", after := #[], guard := none }) rfl (by kernel_rfl) (by kernel_rfl) (by kernel_rfl) (fun _ _ _ h => h) (yl_cfg (by rfl) _ (by rfl) (by rfl) (fun V h => h.1)) hHeld ?_
            try simp only [Act.put, List.setIfInBounds_toArray, List.set_cons_zero, List.set_cons_succ]
            refine wpAnyH_take (i := 7) (oi := { dst := some 57, op := Go.Op.move (Go.Operand.tmp 6), type := 3, pos := "screeref15.go:176", after := #[], guard := none }) (v := ?_) rfl (by kernel_rfl) (by kernel_rfl) (by kernel_rfl) (fun _ _ _ h => h) (Or.inl ⟨by rfl, ?_⟩) hHeld ?_
            rotate_left
            · (intro wq hSw; (try dsimp only at hSw); go_simp; try (with_reducible rfl))
            try simp only [Act.put, List.setIfInBounds_toArray, List.set_cons_zero, List.set_cons_succ]
            refine wpAnyH_take (i := 9) (oi := { dst := some 59, op := Go.Op.load 23 (Go.Operand.tmp 2), type := 23, pos := "screeref15.go:176", after := #[], guard := none }) rfl (by kernel_rfl) (by kernel_rfl) (by kernel_rfl) (fun _ _ _ h => h) (yl_cfg (by rfl) _ (by rfl) (by rfl) (fun V h => h.1)) hHeld ?_
            try simp only [Act.put, List.setIfInBounds_toArray, List.set_cons_zero, List.set_cons_succ]
            refine wpAnyH_take (i := 10) (oi := { dst := some 60, op := Go.Op.load 23 (Go.Operand.tmp 2), type := 23, pos := "screeref15.go:176", after := #[], guard := none }) rfl (by kernel_rfl) (by kernel_rfl) (by kernel_rfl) (fun _ _ _ h => h) (yl_cfg (by rfl) _ (by rfl) (by rfl) (fun V h => h.1)) hHeld ?_
            try simp only [Act.put, List.setIfInBounds_toArray, List.set_cons_zero, List.set_cons_succ]
            refine wpAnyH_take (i := 13) (oi := { dst := some 63, op := Go.Op.load 23 (Go.Operand.tmp 2), type := 23, pos := "screeref15.go:176", after := #[], guard := none }) rfl (by kernel_rfl) (by kernel_rfl) (by kernel_rfl) (fun _ _ _ h => h) (yl_cfg (by rfl) _ (by rfl) (by rfl) (fun V h => h.1)) hHeld ?_
            try simp only [Act.put, List.setIfInBounds_toArray, List.set_cons_zero, List.set_cons_succ]
            refine wpAnyH_take (i := 14) (oi := { dst := some 64, op := Go.Op.load 23 (Go.Operand.tmp 2), type := 23, pos := "screeref15.go:176", after := #[], guard := none }) rfl (by kernel_rfl) (by kernel_rfl) (by kernel_rfl) (fun _ _ _ h => h) (yl_cfg (by rfl) _ (by rfl) (by rfl) (fun V h => h.1)) hHeld ?_
            try simp only [Act.put, List.setIfInBounds_toArray, List.set_cons_zero, List.set_cons_succ]
            refine wpAnyH_ready (rs := [3]) (by kernel_rfl) (by simp) ?_
            refine AllReadyH.cons (o := { dst := some 53, op := Go.Op.call { callee := Go.Callee.value (Go.Operand.func 15), args := #[Go.Operand.tmp 51, Go.Operand.tmp 52], argTypes := #[3, 3] }, type := 3, pos := "screeref15.go:176", after := #[{ on := 1, ground := Go.Ground.data }, { on := 2, ground := Go.Ground.data }], guard := none }) rfl (fun K hK => ?_) AllReadyH.nil
            go_simp
            refine (rmulB _ _ (by first | exact HC.out _ | exact sadd_r _ _ | exact smul_r _ _ | exact ssum_r _ | exact plsum_r | exact pd_r _ _ | exact HX.out | (have hq1 := HD.out; unfold R64; omega)) (by first | exact HC.out _ | exact sadd_r _ _ | exact smul_r _ _ | exact ssum_r _ | exact plsum_r | exact pd_r _ _ | exact HX.out | (have hq1 := HD.out; unfold R64; omega)) _).mono ?_
            rintro e w9 ⟨rfl, hb9⟩
            try dsimp only
            refine hK.out _ _ ?_ (fun hHeld => ?_)
            · first | exact Sf.mk hF hz ((Sf.below hHeld).trans (hb9.mono (Sf.below hHeld).size)) | exact Sf.mk hF hz (((Sf.below hHeld).alloc (Sf.below hHeld).size _).trans (hb9.mono (by have := (Sf.below hHeld).size; simp; omega)))
            clear hK K
            try simp only [Act.put, List.setIfInBounds_toArray, List.set_cons_zero, List.set_cons_succ]
            refine wpAnyH_take (i := 4) (oi := { dst := some 54, op := Go.Op.binOp Go.BinOp.quo 3 (Go.Operand.tmp 53) (Go.Operand.const (Go.Value.int Go.IntKind.i64 450)) 3, type := 3, pos := "screeref15.go:176", after := #[{ on := 3, ground := Go.Ground.data }], guard := none }) (v := ?_) rfl (by kernel_rfl) (by kernel_rfl) (by kernel_rfl) (fun _ _ _ h => h) (Or.inl ⟨by rfl, ?_⟩) hHeld ?_
            rotate_left
            · (intro wq hSw; (try dsimp only at hSw); go_simp; try (with_reducible rfl))
            try simp only [Act.put, List.setIfInBounds_toArray, List.set_cons_zero, List.set_cons_succ]
            refine wpAnyH_ready (rs := [5]) (by kernel_rfl) (by simp) ?_
            refine AllReadyH.cons (o := { dst := some 55, op := Go.Op.call { callee := Go.Callee.value (Go.Operand.func 13), args := #[Go.Operand.tmp 54, Go.Operand.const (Go.Value.int Go.IntKind.i64 2)], argTypes := #[3, 3] }, type := 3, pos := "screeref15.go:176", after := #[{ on := 4, ground := Go.Ground.data }, { on := 3, ground := Go.Ground.chain }], guard := none }) rfl (fun K hK => ?_) AllReadyH.nil
            go_simp
            refine (raddB _ _ (by first | exact HC.out _ | exact sadd_r _ _ | exact smul_r _ _ | exact ssum_r _ | exact plsum_r | exact pd_r _ _ | exact HX.out | (have hq1 := HD.out; unfold R64; omega)) (by first | exact HC.out _ | exact sadd_r _ _ | exact smul_r _ _ | exact ssum_r _ | exact plsum_r | exact pd_r _ _ | exact HX.out | (have hq1 := HD.out; unfold R64; omega)) _).mono ?_
            rintro e w9 ⟨rfl, hb9⟩
            try dsimp only
            refine hK.out _ _ ?_ (fun hHeld => ?_)
            · first | exact Sf.mk hF hz ((Sf.below hHeld).trans (hb9.mono (Sf.below hHeld).size)) | exact Sf.mk hF hz (((Sf.below hHeld).alloc (Sf.below hHeld).size _).trans (hb9.mono (by have := (Sf.below hHeld).size; simp; omega)))
            clear hK K
            try simp only [Act.put, List.setIfInBounds_toArray, List.set_cons_zero, List.set_cons_succ]
            refine wpAnyH_ready (rs := [8]) (by kernel_rfl) (by simp) ?_
            refine AllReadyH.cons (o := { dst := some 58, op := Go.Op.call { callee := Go.Callee.value (Go.Operand.func 29), args := #[Go.Operand.tmp 56, Go.Operand.tmp 57], argTypes := #[23, 3] }, type := 3, pos := "screeref15.go:176", after := #[{ on := 6, ground := Go.Ground.data }, { on := 7, ground := Go.Ground.data }, { on := 5, ground := Go.Ground.chain }], guard := none }) rfl (fun K hK => ?_) AllReadyH.nil
            go_simp
            refine (rtcY c HC.out hb _ (py_nn HR.out HX0.out) (sadd_r _ _) _).mono ?_
            rintro e w9 ⟨rfl, hb9⟩
            try dsimp only
            refine hK.out _ _ ?_ (fun hHeld => ?_)
            · first | exact Sf.mk hF hz ((Sf.below hHeld).trans (hb9.mono (Sf.below hHeld).size)) | exact Sf.mk hF hz (((Sf.below hHeld).alloc (Sf.below hHeld).size _).trans (hb9.mono (by have := (Sf.below hHeld).size; simp; omega)))
            clear hK K
            try simp only [Act.put, List.setIfInBounds_toArray, List.set_cons_zero, List.set_cons_succ]
            refine wpAnyH_ready (rs := [11]) (by kernel_rfl) (by simp) ?_
            refine AllReadyH.cons (o := { dst := some 61, op := Go.Op.call { callee := Go.Callee.value (Go.Operand.func 68), args := #[Go.Operand.tmp 60], argTypes := #[23] }, type := 3, pos := "screeref15.go:176", after := #[{ on := 10, ground := Go.Ground.data }, { on := 8, ground := Go.Ground.chain }], guard := none }) rfl (fun K hK => ?_) AllReadyH.nil
            go_simp
            refine (rjob_any c HC.out hb _).mono ?_
            rintro e w9 ⟨rfl, hb9⟩
            try dsimp only
            refine hK.out _ _ ?_ (fun hHeld => ?_)
            · first | exact Sf.mk hF hz ((Sf.below hHeld).trans (hb9.mono (Sf.below hHeld).size)) | exact Sf.mk hF hz (((Sf.below hHeld).alloc (Sf.below hHeld).size _).trans (hb9.mono (by have := (Sf.below hHeld).size; simp; omega)))
            clear hK K
            try simp only [Act.put, List.setIfInBounds_toArray, List.set_cons_zero, List.set_cons_succ]
            refine wpAnyH_ready (rs := [12]) (by kernel_rfl) (by simp) ?_
            refine AllReadyH.cons (o := { dst := some 62, op := Go.Op.call { callee := Go.Callee.value (Go.Operand.func 29), args := #[Go.Operand.tmp 59, Go.Operand.tmp 61], argTypes := #[23, 3] }, type := 3, pos := "screeref15.go:176", after := #[{ on := 9, ground := Go.Ground.data }, { on := 11, ground := Go.Ground.data }, { on := 11, ground := Go.Ground.chain }], guard := none }) rfl (fun K hK => ?_) AllReadyH.nil
            go_simp
            refine (rtcY c HC.out hb _ (pj_nn HR.out) (smul_r _ _) _).mono ?_
            rintro e w9 ⟨rfl, hb9⟩
            try dsimp only
            refine hK.out _ _ ?_ (fun hHeld => ?_)
            · first | exact Sf.mk hF hz ((Sf.below hHeld).trans (hb9.mono (Sf.below hHeld).size)) | exact Sf.mk hF hz (((Sf.below hHeld).alloc (Sf.below hHeld).size _).trans (hb9.mono (by have := (Sf.below hHeld).size; simp; omega)))
            clear hK K
            try simp only [Act.put, List.setIfInBounds_toArray, List.set_cons_zero, List.set_cons_succ]
            refine wpAnyH_ready (rs := [15]) (by kernel_rfl) (by simp) ?_
            refine AllReadyH.cons (o := { dst := some 65, op := Go.Op.call { callee := Go.Callee.value (Go.Operand.func 21), args := #[Go.Operand.tmp 64], argTypes := #[23] }, type := 3, pos := "screeref15.go:176", after := #[{ on := 14, ground := Go.Ground.data }, { on := 12, ground := Go.Ground.chain }], guard := none }) rfl (fun K hK => ?_) AllReadyH.nil
            go_simp
            refine (rmemCapY c HC.out hb _).mono ?_
            rintro e w9 ⟨rfl, hb9⟩
            try dsimp only
            refine hK.out _ _ ?_ (fun hHeld => ?_)
            · first | exact Sf.mk hF hz ((Sf.below hHeld).trans (hb9.mono (Sf.below hHeld).size)) | exact Sf.mk hF hz (((Sf.below hHeld).alloc (Sf.below hHeld).size _).trans (hb9.mono (by have := (Sf.below hHeld).size; simp; omega)))
            clear hK K
            try simp only [Act.put, List.setIfInBounds_toArray, List.set_cons_zero, List.set_cons_succ]
            refine wpAnyH_ready (rs := [16]) (by kernel_rfl) (by simp) ?_
            refine AllReadyH.cons (o := { dst := some 66, op := Go.Op.call { callee := Go.Callee.value (Go.Operand.func 27), args := #[Go.Operand.tmp 63, Go.Operand.tmp 65], argTypes := #[23, 3] }, type := 3, pos := "screeref15.go:176", after := #[{ on := 13, ground := Go.Ground.data }, { on := 15, ground := Go.Ground.data }, { on := 15, ground := Go.Ground.chain }], guard := none }) rfl (fun K hK => ?_) AllReadyH.nil
            go_simp
            refine (rtfY c HC.out hb _ (pmem_nn HR.out) (sadd_r _ _) _).mono ?_
            rintro e w9 ⟨rfl, hb9⟩
            try dsimp only
            refine hK.out _ _ ?_ (fun hHeld => ?_)
            · first | exact Sf.mk hF hz ((Sf.below hHeld).trans (hb9.mono (Sf.below hHeld).size)) | exact Sf.mk hF hz (((Sf.below hHeld).alloc (Sf.below hHeld).size _).trans (hb9.mono (by have := (Sf.below hHeld).size; simp; omega)))
            clear hK K
            try simp only [Act.put, List.setIfInBounds_toArray, List.set_cons_zero, List.set_cons_succ]
            refine wpAnyH_ready (rs := [17]) (by kernel_rfl) (by simp) ?_
            refine AllReadyH.cons (o := { dst := some 67, op := Go.Op.buildSlice 47 4 #[(0, Go.Operand.tmp 58), (1, Go.Operand.tmp 62), (2, Go.Operand.tmp 66), (3, Go.Operand.const (Go.Value.int Go.IntKind.i64 8))], type := 47, pos := "screeref15.go:176", after := #[{ on := 8, ground := Go.Ground.data }, { on := 12, ground := Go.Ground.data }, { on := 16, ground := Go.Ground.data }], guard := none }) rfl (fun K hK => ?_) AllReadyH.nil
            go_simp
            refine hK.out _ _ ?_ (fun hHeld => ?_)
            · exact Sf.mk hF hz ((Sf.below hHeld).alloc (Sf.below hHeld).size _)
            clear hK K
            try simp only [Act.put, List.setIfInBounds_toArray, List.set_cons_zero, List.set_cons_succ]
            refine wpAnyH_ready (rs := [18]) (by kernel_rfl) (by simp) ?_
            refine AllReadyH.cons (o := { dst := some 68, op := Go.Op.call { callee := Go.Callee.value (Go.Operand.func 65), args := #[Go.Operand.tmp 67], argTypes := #[47] }, type := 3, pos := "screeref15.go:176", after := #[{ on := 17, ground := Go.Ground.data }, { on := 16, ground := Go.Ground.chain }], guard := none }) rfl (fun K hK => ?_) AllReadyH.nil
            go_simp
            first | (refine (rsumD_any _ _ _ _ (by rfl) (by rfl) (by repeat (first | exact inil | refine icons (by first | exact HC.out _ | exact sadd_r _ _ | exact smul_r _ _ | exact ssum_r _ | exact plsum_r | exact pd_r _ _ | exact HX.out | (have hq1 := HD.out; unfold R64; omega)) ?_))).mono ?_; rintro e w9 ⟨rfl, hb9⟩) | (refine (rsumN_any _ _ _ _ (by rfl) (by rfl) (by repeat (first | exact inil | refine icons (by first | exact HC.out _ | exact sadd_r _ _ | exact smul_r _ _ | exact ssum_r _ | exact plsum_r | exact pd_r _ _ | exact HX.out | (have hq1 := HD.out; unfold R64; omega)) ?_))).mono ?_; rintro e w9 ⟨rfl, hb9⟩)
            try dsimp only
            refine hK.out _ _ ?_ (fun hHeld => ?_)
            · first | exact Sf.mk hF hz ((Sf.below hHeld).trans (hb9.mono (Sf.below hHeld).size)) | exact Sf.mk hF hz (((Sf.below hHeld).alloc (Sf.below hHeld).size _).trans (hb9.mono (by have := (Sf.below hHeld).size; simp; omega)))
            clear hK K
            try simp only [Act.put, List.setIfInBounds_toArray, List.set_cons_zero, List.set_cons_succ]
            refine wpAnyH_ready (rs := [19]) (by kernel_rfl) (by simp) ?_
            refine AllReadyH.cons (o := { dst := some 69, op := Go.Op.call { callee := Go.Callee.value (Go.Operand.func 15), args := #[Go.Operand.tmp 55, Go.Operand.tmp 68], argTypes := #[3, 3] }, type := 3, pos := "screeref15.go:176", after := #[{ on := 5, ground := Go.Ground.data }, { on := 18, ground := Go.Ground.data }, { on := 18, ground := Go.Ground.chain }], guard := none }) rfl (fun K hK => ?_) AllReadyH.nil
            go_simp
            refine (rmulB _ _ (by first | exact HC.out _ | exact sadd_r _ _ | exact smul_r _ _ | exact ssum_r _ | exact plsum_r | exact pd_r _ _ | exact HX.out | (have hq1 := HD.out; unfold R64; omega)) (by first | exact HC.out _ | exact sadd_r _ _ | exact smul_r _ _ | exact ssum_r _ | exact plsum_r | exact pd_r _ _ | exact HX.out | (have hq1 := HD.out; unfold R64; omega)) _).mono ?_
            rintro e w9 ⟨rfl, hb9⟩
            try dsimp only
            refine hK.out _ _ ?_ (fun hHeld => ?_)
            · first | exact Sf.mk hF hz ((Sf.below hHeld).trans (hb9.mono (Sf.below hHeld).size)) | exact Sf.mk hF hz (((Sf.below hHeld).alloc (Sf.below hHeld).size _).trans (hb9.mono (by have := (Sf.below hHeld).size; simp; omega)))
            clear hK K
            try simp only [Act.put, List.setIfInBounds_toArray, List.set_cons_zero, List.set_cons_succ]
            refine wpAnyH_take (i := 20) (oi := { dst := some 9, op := Go.Op.assign (Go.Operand.tmp 69), type := 3, pos := "screeref15.go:176", after := #[{ on := 19, ground := Go.Ground.data }, { on := 19, ground := Go.Ground.chain }, { on := 0, ground := Go.Ground.phase }, { on := 1, ground := Go.Ground.phase }, { on := 2, ground := Go.Ground.phase }, { on := 3, ground := Go.Ground.phase }, { on := 4, ground := Go.Ground.phase }, { on := 5, ground := Go.Ground.phase }, { on := 6, ground := Go.Ground.phase }, { on := 7, ground := Go.Ground.phase }, { on := 8, ground := Go.Ground.phase }, { on := 9, ground := Go.Ground.phase }, { on := 10, ground := Go.Ground.phase }, { on := 11, ground := Go.Ground.phase }, { on := 12, ground := Go.Ground.phase }, { on := 13, ground := Go.Ground.phase }, { on := 14, ground := Go.Ground.phase }, { on := 15, ground := Go.Ground.phase }, { on := 16, ground := Go.Ground.phase }, { on := 17, ground := Go.Ground.phase }, { on := 18, ground := Go.Ground.phase }, { on := 19, ground := Go.Ground.phase }], guard := none }) (v := ?_) rfl (by kernel_rfl) (by kernel_rfl) (by kernel_rfl) (fun _ _ _ h => h) (Or.inl ⟨by rfl, ?_⟩) hHeld ?_
            rotate_left
            · (intro wq hSw; (try dsimp only at hSw); go_simp; try (with_reducible rfl))
            try simp only [Act.put, List.setIfInBounds_toArray, List.set_cons_zero, List.set_cons_succ]
            refine wpAnyH_done (by kernel_rfl) ?_ _
            have HBZ := hid (Sf.below hHeld)
            clear hHeld
            go_wp2
            go_meet
            case rel => exact ⟨rfl, rfl, rfl, rfl, HBZ⟩
          case rest =>
            obtain ⟨rfl, rfl, rfl, rfl, HBC⟩ := hcut
            rename World => W6
            have hF' := hF.keep hz HBC.out
            have hz' : w.heap.size < W6.heap.size := Nat.lt_of_lt_of_le hz HBC.out.size
            have HB' : Hid (Below w.heap.size w W6) := HB.out.trans (HBC.out.mono HB.out.size)
            try go_wp2
            clear hF hz HB HBC
            have hF := hF'
            have hz := hz'
            have HB := HB'
            clear hF' hz' HB'
            refine wp_region_held_drew (S := (Sf W6 w.heap.size c)) (by kernel_rfl) ?_ (fun hHeld => ?_)
            · exact Sf.mk hF hz (Below.refl _ _).drew
            refine wpAnyH_take (i := 0) (oi := { dst := some 70, op := Go.Op.fieldAddr 23 (Go.Operand.tmp 2) 0, type := 0, pos := "screeref15.go:177", after := #[], guard := none }) (v := ?_) rfl (by kernel_rfl) (by kernel_rfl) (by kernel_rfl) (fun _ _ _ h => h) (Or.inl ⟨by rfl, ?_⟩) hHeld ?_
            rotate_left
            · (intro wq hSw; (try dsimp only at hSw); go_simp; try (with_reducible rfl))
            try simp only [Act.put, List.setIfInBounds_toArray, List.set_cons_zero, List.set_cons_succ]
            refine wpAnyH_take (i := 1) (oi := { dst := some 71, op := Go.Op.load 3 (Go.Operand.tmp 70), type := 3, pos := "screeref15.go:177", after := #[{ on := 0, ground := Go.Ground.data }], guard := none }) rfl (by kernel_rfl) (by kernel_rfl) (by kernel_rfl) (fun _ _ _ h => h) (yl_int (k := 0) (v := c 0) (by rfl) _ (by rfl) (by rfl) (fun V h => h.1.cell 0 rfl)) hHeld ?_
            try simp only [Act.put, List.setIfInBounds_toArray, List.set_cons_zero, List.set_cons_succ]
            refine wpAnyH_take (i := 2) (oi := { dst := some 72, op := Go.Op.move (Go.Operand.tmp 8), type := 3, pos := "screeref15.go:177", after := #[], guard := none }) (v := ?_) rfl (by kernel_rfl) (by kernel_rfl) (by kernel_rfl) (fun _ _ _ h => h) (Or.inl ⟨by rfl, ?_⟩) hHeld ?_
            rotate_left
            · (intro wq hSw; (try dsimp only at hSw); go_simp; try (with_reducible rfl))
            try simp only [Act.put, List.setIfInBounds_toArray, List.set_cons_zero, List.set_cons_succ]
            refine wpAnyH_take (i := 3) (oi := { dst := some 73, op := Go.Op.binOp Go.BinOp.add 3 (Go.Operand.tmp 72) (Go.Operand.const (Go.Value.int Go.IntKind.i64 2)) 3, type := 3, pos := "screeref15.go:177", after := #[{ on := 2, ground := Go.Ground.data }], guard := none }) (v := ?_) rfl (by kernel_rfl) (by kernel_rfl) (by kernel_rfl) (fun _ _ _ h => h) (Or.inl ⟨by rfl, ?_⟩) hHeld ?_
            rotate_left
            · (intro wq hSw; (try dsimp only at hSw); go_simp; try (with_reducible rfl))
            try simp only [Act.put, List.setIfInBounds_toArray, List.set_cons_zero, List.set_cons_succ]
            refine wpAnyH_take (i := 4) (oi := { dst := some 74, op := Go.Op.move (Go.Operand.tmp 7), type := 3, pos := "screeref15.go:177", after := #[], guard := none }) (v := ?_) rfl (by kernel_rfl) (by kernel_rfl) (by kernel_rfl) (fun _ _ _ h => h) (Or.inl ⟨by rfl, ?_⟩) hHeld ?_
            rotate_left
            · (intro wq hSw; (try dsimp only at hSw); go_simp; try (with_reducible rfl))
            try simp only [Act.put, List.setIfInBounds_toArray, List.set_cons_zero, List.set_cons_succ]
            refine wpAnyH_take (i := 7) (oi := { dst := some 77, op := Go.Op.move (Go.Operand.tmp 9), type := 3, pos := "screeref15.go:177", after := #[], guard := none }) (v := ?_) rfl (by kernel_rfl) (by kernel_rfl) (by kernel_rfl) (fun _ _ _ h => h) (Or.inl ⟨by rfl, ?_⟩) hHeld ?_
            rotate_left
            · (intro wq hSw; (try dsimp only at hSw); go_simp; try (with_reducible rfl))
            try simp only [Act.put, List.setIfInBounds_toArray, List.set_cons_zero, List.set_cons_succ]
            refine wpAnyH_take (i := 8) (oi := { dst := some 78, op := Go.Op.fieldAddr 23 (Go.Operand.tmp 2) 4, type := 0, pos := "screeref15.go:177", after := #[], guard := none }) (v := ?_) rfl (by kernel_rfl) (by kernel_rfl) (by kernel_rfl) (fun _ _ _ h => h) (Or.inl ⟨by rfl, ?_⟩) hHeld ?_
            rotate_left
            · (intro wq hSw; (try dsimp only at hSw); go_simp; try (with_reducible rfl))
            try simp only [Act.put, List.setIfInBounds_toArray, List.set_cons_zero, List.set_cons_succ]
            refine wpAnyH_take (i := 9) (oi := { dst := some 79, op := Go.Op.load 3 (Go.Operand.tmp 78), type := 3, pos := "screeref15.go:177", after := #[{ on := 8, ground := Go.Ground.data }], guard := none }) rfl (by kernel_rfl) (by kernel_rfl) (by kernel_rfl) (fun _ _ _ h => h) (yl_int (k := 4) (v := c 4) (by rfl) _ (by rfl) (by rfl) (fun V h => h.1.cell 4 rfl)) hHeld ?_
            try simp only [Act.put, List.setIfInBounds_toArray, List.set_cons_zero, List.set_cons_succ]
            refine wpAnyH_take (i := 10) (oi := { dst := some 80, op := Go.Op.binOp Go.BinOp.add 3 (Go.Operand.tmp 79) (Go.Operand.const (Go.Value.int Go.IntKind.i64 1)) 3, type := 3, pos := "screeref15.go:177", after := #[{ on := 9, ground := Go.Ground.data }], guard := none }) (v := ?_) rfl (by kernel_rfl) (by kernel_rfl) (by kernel_rfl) (fun _ _ _ h => h) (Or.inl ⟨by rfl, ?_⟩) hHeld ?_
            rotate_left
            · (intro wq hSw; (try dsimp only at hSw); go_simp; try (with_reducible rfl))
            try simp only [Act.put, List.setIfInBounds_toArray, List.set_cons_zero, List.set_cons_succ]
            refine wpAnyH_take (i := 11) (oi := { dst := some 81, op := Go.Op.move (Go.Operand.tmp 7), type := 3, pos := "screeref15.go:177", after := #[], guard := none }) (v := ?_) rfl (by kernel_rfl) (by kernel_rfl) (by kernel_rfl) (fun _ _ _ h => h) (Or.inl ⟨by rfl, ?_⟩) hHeld ?_
            rotate_left
            · (intro wq hSw; (try dsimp only at hSw); go_simp; try (with_reducible rfl))
            try simp only [Act.put, List.setIfInBounds_toArray, List.set_cons_zero, List.set_cons_succ]
            refine wpAnyH_take (i := 12) (oi := { dst := some 82, op := Go.Op.load 23 (Go.Operand.tmp 2), type := 23, pos := "screeref15.go:177", after := #[], guard := none }) rfl (by kernel_rfl) (by kernel_rfl) (by kernel_rfl) (fun _ _ _ h => h) (yl_cfg (by rfl) _ (by rfl) (by rfl) (fun V h => h.1)) hHeld ?_
            try simp only [Act.put, List.setIfInBounds_toArray, List.set_cons_zero, List.set_cons_succ]
            refine wpAnyH_take (i := 13) (oi := { dst := some 83, op := Go.Op.load 23 (Go.Operand.tmp 2), type := 23, pos := "screeref15.go:177", after := #[], guard := none }) rfl (by kernel_rfl) (by kernel_rfl) (by kernel_rfl) (fun _ _ _ h => h) (yl_cfg (by rfl) _ (by rfl) (by rfl) (fun V h => h.1)) hHeld ?_
            try simp only [Act.put, List.setIfInBounds_toArray, List.set_cons_zero, List.set_cons_succ]
            refine wpAnyH_take (i := 19) (oi := { dst := some 89, op := Go.Op.fieldAddr 23 (Go.Operand.tmp 2) 19, type := 0, pos := "screeref15.go:177", after := #[], guard := none }) (v := ?_) rfl (by kernel_rfl) (by kernel_rfl) (by kernel_rfl) (fun _ _ _ h => h) (Or.inl ⟨by rfl, ?_⟩) hHeld ?_
            rotate_left
            · (intro wq hSw; (try dsimp only at hSw); go_simp; try (with_reducible rfl))
            try simp only [Act.put, List.setIfInBounds_toArray, List.set_cons_zero, List.set_cons_succ]
            refine wpAnyH_take (i := 20) (oi := { dst := some 90, op := Go.Op.load 3 (Go.Operand.tmp 89), type := 3, pos := "screeref15.go:177", after := #[{ on := 19, ground := Go.Ground.data }], guard := none }) rfl (by kernel_rfl) (by kernel_rfl) (by kernel_rfl) (fun _ _ _ h => h) (yl_int (k := 19) (v := c 19) (by rfl) _ (by rfl) (by rfl) (fun V h => h.1.cell 19 rfl)) hHeld ?_
            try simp only [Act.put, List.setIfInBounds_toArray, List.set_cons_zero, List.set_cons_succ]
            refine wpAnyH_take (i := 21) (oi := { dst := some 91, op := Go.Op.binOp Go.BinOp.quo 3 (Go.Operand.const (Go.Value.int Go.IntKind.i64 17408)) (Go.Operand.tmp 90) 3, type := 3, pos := "screeref15.go:177", after := #[{ on := 20, ground := Go.Ground.data }], guard := none }) (v := ?_) rfl (by kernel_rfl) (by kernel_rfl) (by kernel_rfl) (fun _ _ _ h => h) (Or.inl ⟨by rfl, ?_⟩) hHeld ?_
            rotate_left
            · (intro wq hSw; (try dsimp only at hSw); go_simp; try (with_reducible rfl))
            try simp only [Act.put, List.setIfInBounds_toArray, List.set_cons_zero, List.set_cons_succ]
            refine wpAnyH_take (i := 22) (oi := { dst := some 92, op := Go.Op.fieldAddr 23 (Go.Operand.tmp 2) 0, type := 0, pos := "screeref15.go:177", after := #[], guard := none }) (v := ?_) rfl (by kernel_rfl) (by kernel_rfl) (by kernel_rfl) (fun _ _ _ h => h) (Or.inl ⟨by rfl, ?_⟩) hHeld ?_
            rotate_left
            · (intro wq hSw; (try dsimp only at hSw); go_simp; try (with_reducible rfl))
            try simp only [Act.put, List.setIfInBounds_toArray, List.set_cons_zero, List.set_cons_succ]
            refine wpAnyH_take (i := 23) (oi := { dst := some 93, op := Go.Op.load 3 (Go.Operand.tmp 92), type := 3, pos := "screeref15.go:177", after := #[{ on := 22, ground := Go.Ground.data }], guard := none }) rfl (by kernel_rfl) (by kernel_rfl) (by kernel_rfl) (fun _ _ _ h => h) (yl_int (k := 0) (v := c 0) (by rfl) _ (by rfl) (by rfl) (fun V h => h.1.cell 0 rfl)) hHeld ?_
            try simp only [Act.put, List.setIfInBounds_toArray, List.set_cons_zero, List.set_cons_succ]
            refine wpAnyH_take (i := 24) (oi := { dst := some 94, op := Go.Op.binOp Go.BinOp.mul 3 (Go.Operand.const (Go.Value.int Go.IntKind.i64 18)) (Go.Operand.tmp 93) 3, type := 3, pos := "screeref15.go:177", after := #[{ on := 23, ground := Go.Ground.data }], guard := none }) (v := ?_) rfl (by kernel_rfl) (by kernel_rfl) (by kernel_rfl) (fun _ _ _ h => h) (Or.inl ⟨by rfl, ?_⟩) hHeld ?_
            rotate_left
            · (intro wq hSw; (try dsimp only at hSw); go_simp; try (with_reducible rfl))
            try simp only [Act.put, List.setIfInBounds_toArray, List.set_cons_zero, List.set_cons_succ]
            refine wpAnyH_ready (rs := [5]) (by kernel_rfl) (by simp) ?_
            refine AllReadyH.cons (o := { dst := some 75, op := Go.Op.call { callee := Go.Callee.value (Go.Operand.func 13), args := #[Go.Operand.tmp 74, Go.Operand.const (Go.Value.int Go.IntKind.i64 2)], argTypes := #[3, 3] }, type := 3, pos := "screeref15.go:177", after := #[{ on := 4, ground := Go.Ground.data }], guard := none }) rfl (fun K hK => ?_) AllReadyH.nil
            go_simp
            refine (raddB _ _ (by first | exact HC.out _ | exact sadd_r _ _ | exact smul_r _ _ | exact ssum_r _ | exact plsum_r | exact pd_r _ _ | exact HX.out | (have hq1 := HD.out; unfold R64; omega)) (by first | exact HC.out _ | exact sadd_r _ _ | exact smul_r _ _ | exact ssum_r _ | exact plsum_r | exact pd_r _ _ | exact HX.out | (have hq1 := HD.out; unfold R64; omega)) _).mono ?_
            rintro e w9 ⟨rfl, hb9⟩
            try dsimp only
            refine hK.out _ _ ?_ (fun hHeld => ?_)
            · first | exact Sf.mk hF hz ((Sf.below hHeld).trans (hb9.mono (Sf.below hHeld).size)) | exact Sf.mk hF hz (((Sf.below hHeld).alloc (Sf.below hHeld).size _).trans (hb9.mono (by have := (Sf.below hHeld).size; simp; omega)))
            clear hK K
            try simp only [Act.put, List.setIfInBounds_toArray, List.set_cons_zero, List.set_cons_succ]
            refine wpAnyH_ready (rs := [6]) (by kernel_rfl) (by simp) ?_
            refine AllReadyH.cons (o := { dst := some 76, op := Go.Op.call { callee := Go.Callee.value (Go.Operand.func 15), args := #[Go.Operand.tmp 73, Go.Operand.tmp 75], argTypes := #[3, 3] }, type := 3, pos := "screeref15.go:177", after := #[{ on := 3, ground := Go.Ground.data }, { on := 5, ground := Go.Ground.data }, { on := 5, ground := Go.Ground.chain }], guard := none }) rfl (fun K hK => ?_) AllReadyH.nil
            go_simp
            refine (rmulB _ _ (by first | exact HC.out _ | exact sadd_r _ _ | exact smul_r _ _ | exact ssum_r _ | exact plsum_r | exact pd_r _ _ | exact HX.out | (have hq1 := HD.out; unfold R64; omega)) (by first | exact HC.out _ | exact sadd_r _ _ | exact smul_r _ _ | exact ssum_r _ | exact plsum_r | exact pd_r _ _ | exact HX.out | (have hq1 := HD.out; unfold R64; omega)) _).mono ?_
            rintro e w9 ⟨rfl, hb9⟩
            try dsimp only
            refine hK.out _ _ ?_ (fun hHeld => ?_)
            · first | exact Sf.mk hF hz ((Sf.below hHeld).trans (hb9.mono (Sf.below hHeld).size)) | exact Sf.mk hF hz (((Sf.below hHeld).alloc (Sf.below hHeld).size _).trans (hb9.mono (by have := (Sf.below hHeld).size; simp; omega)))
            clear hK K
            try simp only [Act.put, List.setIfInBounds_toArray, List.set_cons_zero, List.set_cons_succ]
            refine wpAnyH_ready (rs := [14]) (by kernel_rfl) (by simp) ?_
            refine AllReadyH.cons (o := { dst := some 84, op := Go.Op.call { callee := Go.Callee.value (Go.Operand.func 21), args := #[Go.Operand.tmp 83], argTypes := #[23] }, type := 3, pos := "screeref15.go:177", after := #[{ on := 13, ground := Go.Ground.data }, { on := 6, ground := Go.Ground.chain }], guard := none }) rfl (fun K hK => ?_) AllReadyH.nil
            go_simp
            refine (rmemCapY c HC.out hb _).mono ?_
            rintro e w9 ⟨rfl, hb9⟩
            try dsimp only
            refine hK.out _ _ ?_ (fun hHeld => ?_)
            · first | exact Sf.mk hF hz ((Sf.below hHeld).trans (hb9.mono (Sf.below hHeld).size)) | exact Sf.mk hF hz (((Sf.below hHeld).alloc (Sf.below hHeld).size _).trans (hb9.mono (by have := (Sf.below hHeld).size; simp; omega)))
            clear hK K
            try simp only [Act.put, List.setIfInBounds_toArray, List.set_cons_zero, List.set_cons_succ]
            refine wpAnyH_ready (rs := [15]) (by kernel_rfl) (by simp) ?_
            refine AllReadyH.cons (o := { dst := some 85, op := Go.Op.call { callee := Go.Callee.value (Go.Operand.func 27), args := #[Go.Operand.tmp 82, Go.Operand.tmp 84], argTypes := #[23, 3] }, type := 3, pos := "screeref15.go:177", after := #[{ on := 12, ground := Go.Ground.data }, { on := 14, ground := Go.Ground.data }, { on := 14, ground := Go.Ground.chain }], guard := none }) rfl (fun K hK => ?_) AllReadyH.nil
            go_simp
            refine (rtfY c HC.out hb _ (pmem_nn HR.out) (sadd_r _ _) _).mono ?_
            rintro e w9 ⟨rfl, hb9⟩
            try dsimp only
            refine hK.out _ _ ?_ (fun hHeld => ?_)
            · first | exact Sf.mk hF hz ((Sf.below hHeld).trans (hb9.mono (Sf.below hHeld).size)) | exact Sf.mk hF hz (((Sf.below hHeld).alloc (Sf.below hHeld).size _).trans (hb9.mono (by have := (Sf.below hHeld).size; simp; omega)))
            clear hK K
            try simp only [Act.put, List.setIfInBounds_toArray, List.set_cons_zero, List.set_cons_succ]
            refine wpAnyH_ready (rs := [16]) (by kernel_rfl) (by simp) ?_
            refine AllReadyH.cons (o := { dst := some 86, op := Go.Op.buildSlice 47 3 #[(0, Go.Operand.tmp 81), (1, Go.Operand.tmp 85), (2, Go.Operand.const (Go.Value.int Go.IntKind.i64 2))], type := 47, pos := "screeref15.go:177", after := #[{ on := 11, ground := Go.Ground.data }, { on := 15, ground := Go.Ground.data }], guard := none }) rfl (fun K hK => ?_) AllReadyH.nil
            go_simp
            refine hK.out _ _ ?_ (fun hHeld => ?_)
            · exact Sf.mk hF hz ((Sf.below hHeld).alloc (Sf.below hHeld).size _)
            clear hK K
            try simp only [Act.put, List.setIfInBounds_toArray, List.set_cons_zero, List.set_cons_succ]
            refine wpAnyH_ready (rs := [17]) (by kernel_rfl) (by simp) ?_
            refine AllReadyH.cons (o := { dst := some 87, op := Go.Op.call { callee := Go.Callee.value (Go.Operand.func 65), args := #[Go.Operand.tmp 86], argTypes := #[47] }, type := 3, pos := "screeref15.go:177", after := #[{ on := 16, ground := Go.Ground.data }, { on := 15, ground := Go.Ground.chain }], guard := none }) rfl (fun K hK => ?_) AllReadyH.nil
            go_simp
            first | (refine (rsumD_any _ _ _ _ (by rfl) (by rfl) (by repeat (first | exact inil | refine icons (by first | exact HC.out _ | exact sadd_r _ _ | exact smul_r _ _ | exact ssum_r _ | exact plsum_r | exact pd_r _ _ | exact HX.out | (have hq1 := HD.out; unfold R64; omega)) ?_))).mono ?_; rintro e w9 ⟨rfl, hb9⟩) | (refine (rsumN_any _ _ _ _ (by rfl) (by rfl) (by repeat (first | exact inil | refine icons (by first | exact HC.out _ | exact sadd_r _ _ | exact smul_r _ _ | exact ssum_r _ | exact plsum_r | exact pd_r _ _ | exact HX.out | (have hq1 := HD.out; unfold R64; omega)) ?_))).mono ?_; rintro e w9 ⟨rfl, hb9⟩)
            try dsimp only
            refine hK.out _ _ ?_ (fun hHeld => ?_)
            · first | exact Sf.mk hF hz ((Sf.below hHeld).trans (hb9.mono (Sf.below hHeld).size)) | exact Sf.mk hF hz (((Sf.below hHeld).alloc (Sf.below hHeld).size _).trans (hb9.mono (by have := (Sf.below hHeld).size; simp; omega)))
            clear hK K
            try simp only [Act.put, List.setIfInBounds_toArray, List.set_cons_zero, List.set_cons_succ]
            refine wpAnyH_ready (rs := [18]) (by kernel_rfl) (by simp) ?_
            refine AllReadyH.cons (o := { dst := some 88, op := Go.Op.call { callee := Go.Callee.value (Go.Operand.func 15), args := #[Go.Operand.tmp 80, Go.Operand.tmp 87], argTypes := #[3, 3] }, type := 3, pos := "screeref15.go:177", after := #[{ on := 10, ground := Go.Ground.data }, { on := 17, ground := Go.Ground.data }, { on := 17, ground := Go.Ground.chain }], guard := none }) rfl (fun K hK => ?_) AllReadyH.nil
            go_simp
            refine (rmulB _ _ (by first | exact HC.out _ | exact sadd_r _ _ | exact smul_r _ _ | exact ssum_r _ | exact plsum_r | exact pd_r _ _ | exact HX.out | (have hq1 := HD.out; unfold R64; omega)) (by first | exact HC.out _ | exact sadd_r _ _ | exact smul_r _ _ | exact ssum_r _ | exact plsum_r | exact pd_r _ _ | exact HX.out | (have hq1 := HD.out; unfold R64; omega)) _).mono ?_
            rintro e w9 ⟨rfl, hb9⟩
            try dsimp only
            refine hK.out _ _ ?_ (fun hHeld => ?_)
            · first | exact Sf.mk hF hz ((Sf.below hHeld).trans (hb9.mono (Sf.below hHeld).size)) | exact Sf.mk hF hz (((Sf.below hHeld).alloc (Sf.below hHeld).size _).trans (hb9.mono (by have := (Sf.below hHeld).size; simp; omega)))
            clear hK K
            try simp only [Act.put, List.setIfInBounds_toArray, List.set_cons_zero, List.set_cons_succ]
            refine wpAnyH_ready (rs := [25]) (by kernel_rfl) (by simp) ?_
            refine AllReadyH.cons (o := { dst := some 95, op := Go.Op.buildSlice 47 6 #[(0, Go.Operand.tmp 76), (1, Go.Operand.tmp 77), (2, Go.Operand.tmp 88), (3, Go.Operand.tmp 91), (4, Go.Operand.tmp 94), (5, Go.Operand.const (Go.Value.int Go.IntKind.i64 24))], type := 47, pos := "screeref15.go:177", after := #[{ on := 6, ground := Go.Ground.data }, { on := 7, ground := Go.Ground.data }, { on := 18, ground := Go.Ground.data }, { on := 21, ground := Go.Ground.data }, { on := 24, ground := Go.Ground.data }], guard := none }) rfl (fun K hK => ?_) AllReadyH.nil
            go_simp
            refine hK.out _ _ ?_ (fun hHeld => ?_)
            · exact Sf.mk hF hz ((Sf.below hHeld).alloc (Sf.below hHeld).size _)
            clear hK K
            try simp only [Act.put, List.setIfInBounds_toArray, List.set_cons_zero, List.set_cons_succ]
            refine wpAnyH_ready (rs := [26]) (by kernel_rfl) (by simp) ?_
            refine AllReadyH.cons (o := { dst := some 96, op := Go.Op.call { callee := Go.Callee.value (Go.Operand.func 65), args := #[Go.Operand.tmp 95], argTypes := #[47] }, type := 3, pos := "screeref15.go:177", after := #[{ on := 25, ground := Go.Ground.data }, { on := 18, ground := Go.Ground.chain }], guard := none }) rfl (fun K hK => ?_) AllReadyH.nil
            go_simp
            first | (refine (rsumD_any _ _ _ _ (by rfl) (by rfl) (by repeat (first | exact inil | refine icons (by first | exact HC.out _ | exact sadd_r _ _ | exact smul_r _ _ | exact ssum_r _ | exact plsum_r | exact pd_r _ _ | exact HX.out | (have hq1 := HD.out; unfold R64; omega)) ?_))).mono ?_; rintro e w9 ⟨rfl, hb9⟩) | (refine (rsumN_any _ _ _ _ (by rfl) (by rfl) (by repeat (first | exact inil | refine icons (by first | exact HC.out _ | exact sadd_r _ _ | exact smul_r _ _ | exact ssum_r _ | exact plsum_r | exact pd_r _ _ | exact HX.out | (have hq1 := HD.out; unfold R64; omega)) ?_))).mono ?_; rintro e w9 ⟨rfl, hb9⟩)
            try dsimp only
            refine hK.out _ _ ?_ (fun hHeld => ?_)
            · first | exact Sf.mk hF hz ((Sf.below hHeld).trans (hb9.mono (Sf.below hHeld).size)) | exact Sf.mk hF hz (((Sf.below hHeld).alloc (Sf.below hHeld).size _).trans (hb9.mono (by have := (Sf.below hHeld).size; simp; omega)))
            clear hK K
            try simp only [Act.put, List.setIfInBounds_toArray, List.set_cons_zero, List.set_cons_succ]
            refine wpAnyH_ready (rs := [27]) (by kernel_rfl) (by simp) ?_
            refine AllReadyH.cons (o := { dst := some 97, op := Go.Op.call { callee := Go.Callee.value (Go.Operand.func 15), args := #[Go.Operand.tmp 71, Go.Operand.tmp 96], argTypes := #[3, 3] }, type := 3, pos := "screeref15.go:177", after := #[{ on := 1, ground := Go.Ground.data }, { on := 26, ground := Go.Ground.data }, { on := 26, ground := Go.Ground.chain }], guard := none }) rfl (fun K hK => ?_) AllReadyH.nil
            go_simp
            refine (rmulB _ _ (by first | exact HC.out _ | exact sadd_r _ _ | exact smul_r _ _ | exact ssum_r _ | exact plsum_r | exact pd_r _ _ | exact HX.out | (have hq1 := HD.out; unfold R64; omega)) (by first | exact HC.out _ | exact sadd_r _ _ | exact smul_r _ _ | exact ssum_r _ | exact plsum_r | exact pd_r _ _ | exact HX.out | (have hq1 := HD.out; unfold R64; omega)) _).mono ?_
            rintro e w9 ⟨rfl, hb9⟩
            try dsimp only
            refine hK.out _ _ ?_ (fun hHeld => ?_)
            · first | exact Sf.mk hF hz ((Sf.below hHeld).trans (hb9.mono (Sf.below hHeld).size)) | exact Sf.mk hF hz (((Sf.below hHeld).alloc (Sf.below hHeld).size _).trans (hb9.mono (by have := (Sf.below hHeld).size; simp; omega)))
            clear hK K
            try simp only [Act.put, List.setIfInBounds_toArray, List.set_cons_zero, List.set_cons_succ]
            refine wpAnyH_take (i := 28) (oi := { dst := some 4, op := Go.Op.assign (Go.Operand.tmp 97), type := 3, pos := "screeref15.go:177", after := #[{ on := 27, ground := Go.Ground.data }, { on := 27, ground := Go.Ground.chain }, { on := 0, ground := Go.Ground.phase }, { on := 1, ground := Go.Ground.phase }, { on := 2, ground := Go.Ground.phase }, { on := 3, ground := Go.Ground.phase }, { on := 4, ground := Go.Ground.phase }, { on := 5, ground := Go.Ground.phase }, { on := 6, ground := Go.Ground.phase }, { on := 7, ground := Go.Ground.phase }, { on := 8, ground := Go.Ground.phase }, { on := 9, ground := Go.Ground.phase }, { on := 10, ground := Go.Ground.phase }, { on := 11, ground := Go.Ground.phase }, { on := 12, ground := Go.Ground.phase }, { on := 13, ground := Go.Ground.phase }, { on := 14, ground := Go.Ground.phase }, { on := 15, ground := Go.Ground.phase }, { on := 16, ground := Go.Ground.phase }, { on := 17, ground := Go.Ground.phase }, { on := 18, ground := Go.Ground.phase }, { on := 19, ground := Go.Ground.phase }, { on := 20, ground := Go.Ground.phase }, { on := 21, ground := Go.Ground.phase }, { on := 22, ground := Go.Ground.phase }, { on := 23, ground := Go.Ground.phase }, { on := 24, ground := Go.Ground.phase }, { on := 25, ground := Go.Ground.phase }, { on := 26, ground := Go.Ground.phase }, { on := 27, ground := Go.Ground.phase }], guard := none }) (v := ?_) rfl (by kernel_rfl) (by kernel_rfl) (by kernel_rfl) (fun _ _ _ h => h) (Or.inl ⟨by rfl, ?_⟩) hHeld ?_
            rotate_left
            · (intro wq hSw; (try dsimp only at hSw); go_simp; try (with_reducible rfl))
            try simp only [Act.put, List.setIfInBounds_toArray, List.set_cons_zero, List.set_cons_succ]
            refine wpAnyH_done (by kernel_rfl) ?_ _
            have HBZ := hid (Sf.below hHeld)
            clear hHeld
            go_wp2
            go_ret
            exact ⟨ret_int HE.out.symm, HB.out.trans (HBZ.out.mono HB.out.size)⟩
  · rw [rkN hb]
    have HK : ∀ V, Calls Try.prog 54 #[.agg (cfgA c)] V fun e w' => e = .returned (.bool false) ∧ Below V.heap.size V w' := fun V => by rw [← okB_no hb]; exact right_any c HC.out V
    go_enter Try.func31, Try.ntmps31
    go_wp2_with (first | (refine wpList_cfg (by rfl) _ (by rfl) (by rfl) hL0 ?_) | (go_at_call 54; go_loud (refine (HK _).mono ?_; rintro e w1 ⟨rfl, hb1⟩; have HB1 : Hid (Below w.heap.size w w1) := HB0.out.trans (hb1.mono HB0.out.size); clear hb1)))
    go_ret
    exact ⟨rfl, HB1.out⟩
theorem rb1Y (c : Cf) (hc : RC c) (hb : bad c = none) (x : Int) (hx : R64 x) (w : World) : Calls Try.prog 31 #[.agg (cfgA c), .int .i64 x] w fun e w' => e = .returned (.int .i64 (pb1 c (max x 0))) ∧ Below w.heap.size w w' := by
  have := rb1_any c hc x hx w
  rwa [rkY hb] at this
end Pcm
end Go.Proofs.Ytebfokjgeknciaa
