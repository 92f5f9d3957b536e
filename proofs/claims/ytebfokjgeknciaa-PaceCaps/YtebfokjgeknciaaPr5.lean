import Derived.Test.YtebfokjgeknciaaPr4
namespace Go.Proofs.Ytebfokjgeknciaa
namespace Pcm
open Go.RowKit Laws Irw
set_option linter.unusedVariables false
set_option linter.unusedSimpArgs false
set_option maxRecDepth 20000

theorem max_rr {x : Int} (h : R64 x) : R64 (max x 0) := by unfold R64 at *; omega
theorem max_n0 (x : Int) : 0 ≤ max x 0 := by omega
theorem max_id {x : Int} (h : 0 ≤ x) : max x 0 = x := by omega
theorem wadd {a k : Int} (h : R64 (a + k)) : IntKind.i64.wrap (a + k) = a + k := by unfold R64 at h; exact IntWalk.i64_in _ h
theorem wsub {a k : Int} (h : R64 (a - k)) : IntKind.i64.wrap (a - k) = a - k := by unfold R64 at h; exact IntWalk.i64_in _ h
theorem rmemCapY (c : Cf) (hc : RC c) (hb : bad c = none) (w : World) : Calls Try.prog 21 #[.agg (cfgA c)] w fun e w' => e = .returned (.int .i64 (pmem c)) ∧ Below w.heap.size w w' := by
  have := rmemCap_any c hc w
  rwa [rkY hb] at this
theorem rfileCapY (c : Cf) (hc : RC c) (hb : bad c = none) (w : World) : Calls Try.prog 23 #[.agg (cfgA c)] w fun e w' => e = .returned (.int .i64 (pfile c)) ∧ Below w.heap.size w w' := by
  have := rfileCap_any c hc w
  rwa [rkY hb] at this
theorem rdebtCapY (c : Cf) (hc : RC c) (hb : bad c = none) (w : World) : Calls Try.prog 25 #[.agg (cfgA c)] w fun e w' => e = .returned (.int .i64 (pdebt c)) ∧ Below w.heap.size w w' := by
  have := rdebtCap_any c hc w
  rwa [rkY hb] at this
theorem rlimitY (c : Cf) (hc : RC c) (l : Int) (hl : R64 l) (w : World) : Calls Try.prog 17 #[.agg (cfgA c), .int .i64 l] w fun e w' => e = .returned (.int .i64 (rk c (plim c l))) ∧ Below w.heap.size w w' := rlimit_any c hc l hl w
/-- the sum of the first limits, from level 1 on -/
def rls (c : Cf) : Nat → Int
  | 0 => 0
  | n + 1 => sadd (rls c n) (rk c (plim c ((n : Int) + 1)))
theorem rls_r (c : Cf) : ∀ n, R64 (rls c n)
  | 0 => by unfold rls R64; omega
  | n + 1 => sadd_r _ _
theorem rk_r {c : Cf} {x : Int} (h : R64 x) : R64 (rk c x) := by
  unfold rk
  split
  · exact h
  · unfold R64; omega
theorem rls_all {c : Cf} (hc : RC c) : rls c 4 = rk c (plsum c) := by
  by_cases hb : bad c = none
  · rw [rkY hb, lsum_ref hc (right_of hb)]
    show sadd (sadd (sadd (sadd 0 (rk c (plim c 1))) (rk c (plim c 2))) (rk c (plim c 3))) (rk c (plim c 4)) = _
    rw [rkY hb, rkY hb, rkY hb, rkY hb]
  · rw [rkN hb]
    show sadd (sadd (sadd (sadd 0 (rk c (plim c 1))) (rk c (plim c 2))) (rk c (plim c 3))) (rk c (plim c 4)) = _
    rw [rkN hb, rkN hb, rkN hb, rkN hb]
    rfl
set_option maxHeartbeats 4000000 in
theorem rlimitSum_any (c : Cf) (hc : RC c) (w : World) :
    Calls Try.prog 19 #[.agg (cfgA c)] w fun e w' => e = .returned (.int .i64 (rk c (plsum c))) ∧ Below w.heap.size w w' := by
  have HC := hid hc
  have HS := hid (rls_all hc)
  clear hc
  have hL0 := lc_new w c 23
  have hz0 : w.heap.size < (w.alloc (.cells (cfgA c) 23)).heap.size := by simp
  have HB0 : Hid (Below w.heap.size w (w.alloc (.cells (cfgA c) 23))) := (Below.refl _ _).alloc (Nat.le_refl _) _
  go_enter Try.func19, Try.ntmps19
  go_wp2_with fail
  generalize (w.alloc (.cells (cfgA c) 23)) = W at *
  go_loopw [3, 4] (fun s i V => ∃ k : Nat, k ≤ 4 ∧ i = .int .i64 ((k : Int) + 1) ∧ s = .int .i64 (rls c k) ∧ Below W.heap.size W V) (fun _ i _ => (5 - intOf i).toNat)
  case atStart => exact ⟨0, by omega, rfl, rfl, Below.refl _ _⟩
  case round =>
    obtain ⟨k, hk, rfl, rfl, hbe⟩ := hrel
    by_cases hlt : k < 4
    · have HN : Hid (rls c (k + 1) = sadd (rls c k) (rk c (plim c ((k : Int) + 1)))) := hid rfl
      have HK := hid (rls_r c k)
      have HB := hid hbe
      have hL := hL0.keep hz0 hbe
      have HR1 : Hid (R64 (rk c (plim c ((k : Int) + 1)))) := rk_r (plim_r HC.out _)
      generalize rls c k = S at *
      clear hbe
      go_wp2_with (first | (refine wpList_cfg (by rfl) _ (by rfl) (by rfl) hL ?_) | (go_at_call 17; go_loud (refine (rlimit_any c HC.out _ (by unfold R64; omega) _).mono ?_; rintro e w9 ⟨rfl, hb9⟩; have HB9 : Hid (Below W.heap.size W w9) := HB.out.trans (hb9.mono HB.out.size); clear hb9)) | (go_at_call 13; go_loud (refine (radd_any _ _ HK.out HR1.out _).mono ?_; rintro e w8 ⟨rfl, hw7⟩; have hw8 := hw7.symm; clear hw7; subst hw8)))
      go_roundw
      case rel => exact ⟨k + 1, by omega, by go_num, by rw [HN.out], HB9.out⟩
      case measure => simp [intOf]; omega
    · have hk4 : k = 4 := by omega
      subst hk4
      go_wp2
      go_ret
      exact ⟨ret_int HS.out, HB0.out.trans (hbe.mono HB0.out.size)⟩
theorem rlimitSumY (c : Cf) (hc : RC c) (hb : bad c = none) (w : World) : Calls Try.prog 19 #[.agg (cfgA c)] w fun e w' => e = .returned (.int .i64 (plsum c)) ∧ Below w.heap.size w w' := by
  have := rlimitSum_any c hc w
  rwa [rkY hb] at this
set_option maxHeartbeats 8000000 in
theorem rtf_any (c : Cf) (hc : RC c) (x : Int) (hx : R64 x) (w : World) :
    Calls Try.prog 27 #[.agg (cfgA c), .int .i64 x] w fun e w' => e = .returned (.int .i64 (rk c (ptf c (max x 0)))) ∧ Below w.heap.size w w' := by
  have HC := hid hc
  clear hc
  have hL0 := lc_new w c 23
  have hz0 : w.heap.size < (w.alloc (.cells (cfgA c) 23)).heap.size := by simp
  have HB0 : Hid (Below w.heap.size w (w.alloc (.cells (cfgA c) 23))) := (Below.refl _ _).alloc (Nat.le_refl _) _
  by_cases hb : bad c = none
  · rw [rkY hb]
    have HR := hid (right_of hb)
    have HK : ∀ V, Calls Try.prog 54 #[.agg (cfgA c)] V fun e w' => e = .returned (.bool true) ∧ Below V.heap.size V w' := fun V => by rw [← okB_yes hb]; exact right_any c HC.out V
    have HX := hid hx
    obtain ⟨a1, a2⟩ := HR.out.o.h16
    have HE := hid (tf_ref HR.out (max_n0 x) (max_rr hx))
    have hd := div_lt (max_n0 x) (max_rr hx) (show 2 ≤ c 16 by omega)
    have q0 : ¬ c 16 = 0 := by omega
    have q1 := wtd (max_n0 x) (max_rr hx) (show 1 ≤ c 16 by omega)
    have q2 := wadd (a := max x 0 / c 16) (k := 2) (by unfold R64; omega)
    have HD := hid hd
    clear hd hx
    go_enter Try.func27, Try.ntmps27
    go_wp2_with (first | (refine wpList_cfg (by rfl) _ (by rfl) (by rfl) hL0 ?_) | (go_at_call 54; go_loud (refine (HK _).mono ?_; rintro e w1 ⟨rfl, hb1⟩; have HB1 : Hid (Below w.heap.size w w1) := HB0.out.trans (hb1.mono HB0.out.size); have hL1 := hL0.keep hz0 hb1; have hz1 : w.heap.size < w1.heap.size := Nat.lt_of_lt_of_le hz0 hb1.size; clear hb1)))
    have hF := hL1
    have hz := hz1
    generalize w1 = W at *
    refine wp_region_held_drew (S := (Sf W w.heap.size c)) (by kernel_rfl) ?_ (fun hHeld => ?_)
    · exact Sf.mk hF hz (Below.refl _ _).drew
    refine wpAnyH_take (i := 0) (oi := { dst := some 8, op := Go.Op.move (Go.Operand.tmp 1), type := 3, pos := "screeref15.go:151", after := #[], guard := none }) (v := ?_) rfl (by kernel_rfl) (by kernel_rfl) (by kernel_rfl) (fun _ _ _ h => h) (Or.inl ⟨by rfl, ?_⟩) hHeld ?_
    rotate_left
    · (intro wq hSw; (try dsimp only at hSw); go_simp; try (with_reducible rfl))
    try simp only [Act.put, List.setIfInBounds_toArray, List.set_cons_zero, List.set_cons_succ]
    refine wpAnyH_take (i := 2) (oi := { dst := some 10, op := Go.Op.fieldAddr 23 (Go.Operand.tmp 2) 16, type := 0, pos := "screeref15.go:151", after := #[], guard := none }) (v := ?_) rfl (by kernel_rfl) (by kernel_rfl) (by kernel_rfl) (fun _ _ _ h => h) (Or.inl ⟨by rfl, ?_⟩) hHeld ?_
    rotate_left
    · (intro wq hSw; (try dsimp only at hSw); go_simp; try (with_reducible rfl))
    try simp only [Act.put, List.setIfInBounds_toArray, List.set_cons_zero, List.set_cons_succ]
    refine wpAnyH_take (i := 3) (oi := { dst := some 11, op := Go.Op.load 3 (Go.Operand.tmp 10), type := 3, pos := "screeref15.go:151", after := #[{ on := 2, ground := Go.Ground.data }], guard := none }) rfl (by kernel_rfl) (by kernel_rfl) (by kernel_rfl) (fun _ _ _ h => h) (yl_int (k := 16) (v := c 16) (by rfl) _ (by rfl) (by rfl) (fun V h => h.1.cell 16 rfl)) hHeld ?_
    try simp only [Act.put, List.setIfInBounds_toArray, List.set_cons_zero, List.set_cons_succ]
    refine wpAnyH_ready (rs := [1]) (by kernel_rfl) (by simp) ?_
    refine AllReadyH.cons (o := { dst := some 9, op := Go.Op.call { callee := Go.Callee.value (Go.Operand.func 62), args := #[Go.Operand.tmp 8], argTypes := #[3] }, type := 3, pos := "screeref15.go:151", after := #[{ on := 0, ground := Go.Ground.data }], guard := none }) rfl (fun K hK => ?_) AllReadyH.nil
    go_simp
    refine (aboveB _ _).mono ?_
    rintro e w9 ⟨rfl, hb9⟩
    try dsimp only
    refine hK.out _ _ ?_ (fun hHeld => ?_)
    · first | exact Sf.mk hF hz ((Sf.below hHeld).trans (hb9.mono (Sf.below hHeld).size)) | exact Sf.mk hF hz (((Sf.below hHeld).alloc (Sf.below hHeld).size _).trans (hb9.mono (by have := (Sf.below hHeld).size; simp; omega)))
    clear hK K
    try simp only [Act.put, List.setIfInBounds_toArray, List.set_cons_zero, List.set_cons_succ]
    refine wpAnyH_take (i := 4) (oi := { dst := some 12, op := Go.Op.binOp Go.BinOp.quo 3 (Go.Operand.tmp 9) (Go.Operand.tmp 11) 3, type := 3, pos := "screeref15.go:151", after := #[{ on := 1, ground := Go.Ground.data }, { on := 3, ground := Go.Ground.data }], guard := none }) (v := ?_) rfl (by kernel_rfl) (by kernel_rfl) (by kernel_rfl) (fun _ _ _ h => h) (Or.inl ⟨by rfl, ?_⟩) hHeld ?_
    rotate_left
    · (intro wq hSw; (try dsimp only at hSw); go_simp; try (with_reducible rfl))
    try simp only [Act.put, List.setIfInBounds_toArray, List.set_cons_zero, List.set_cons_succ]
    refine wpAnyH_take (i := 5) (oi := { dst := some 13, op := Go.Op.binOp Go.BinOp.add 3 (Go.Operand.tmp 12) (Go.Operand.const (Go.Value.int Go.IntKind.i64 2)) 3, type := 3, pos := "screeref15.go:151", after := #[{ on := 4, ground := Go.Ground.data }], guard := none }) (v := ?_) rfl (by kernel_rfl) (by kernel_rfl) (by kernel_rfl) (fun _ _ _ h => h) (Or.inl ⟨by rfl, ?_⟩) hHeld ?_
    rotate_left
    · (intro wq hSw; (try dsimp only at hSw); go_simp; try (with_reducible rfl))
    try simp only [Act.put, List.setIfInBounds_toArray, List.set_cons_zero, List.set_cons_succ]
    refine wpAnyH_ready (rs := [6]) (by kernel_rfl) (by simp) ?_
    refine AllReadyH.cons (o := { dst := some 14, op := Go.Op.call { callee := Go.Callee.value (Go.Operand.func 15), args := #[Go.Operand.const (Go.Value.int Go.IntKind.i64 2), Go.Operand.tmp 13], argTypes := #[3, 3] }, type := 3, pos := "screeref15.go:151", after := #[{ on := 5, ground := Go.Ground.data }, { on := 1, ground := Go.Ground.chain }], guard := none }) rfl (fun K hK => ?_) AllReadyH.nil
    go_simp
    refine (rmulB _ _ (by first | exact HC.out _ | exact sadd_r _ _ | exact smul_r _ _ | exact ssum_r _ | exact plsum_r | exact pd_r _ _ | exact max_rr HX.out | (have hq1 := HD.out; unfold R64; omega)) (by first | exact HC.out _ | exact sadd_r _ _ | exact smul_r _ _ | exact ssum_r _ | exact plsum_r | exact pd_r _ _ | exact max_rr HX.out | (have hq1 := HD.out; unfold R64; omega)) _).mono ?_
    rintro e w9 ⟨rfl, hb9⟩
    try dsimp only
    refine hK.out _ _ ?_ (fun hHeld => ?_)
    · first | exact Sf.mk hF hz ((Sf.below hHeld).trans (hb9.mono (Sf.below hHeld).size)) | exact Sf.mk hF hz (((Sf.below hHeld).alloc (Sf.below hHeld).size _).trans (hb9.mono (by have := (Sf.below hHeld).size; simp; omega)))
    clear hK K
    try simp only [Act.put, List.setIfInBounds_toArray, List.set_cons_zero, List.set_cons_succ]
    refine wpAnyH_ready (rs := [7]) (by kernel_rfl) (by simp) ?_
    refine AllReadyH.cons (o := { dst := some 15, op := Go.Op.call { callee := Go.Callee.value (Go.Operand.func 13), args := #[Go.Operand.tmp 14, Go.Operand.const (Go.Value.int Go.IntKind.i64 16)], argTypes := #[3, 3] }, type := 3, pos := "screeref15.go:151", after := #[{ on := 6, ground := Go.Ground.data }, { on := 6, ground := Go.Ground.chain }], guard := none }) rfl (fun K hK => ?_) AllReadyH.nil
    go_simp
    refine (raddB _ _ (by first | exact HC.out _ | exact sadd_r _ _ | exact smul_r _ _ | exact ssum_r _ | exact plsum_r | exact pd_r _ _ | exact max_rr HX.out | (have hq1 := HD.out; unfold R64; omega)) (by first | exact HC.out _ | exact sadd_r _ _ | exact smul_r _ _ | exact ssum_r _ | exact plsum_r | exact pd_r _ _ | exact max_rr HX.out | (have hq1 := HD.out; unfold R64; omega)) _).mono ?_
    rintro e w9 ⟨rfl, hb9⟩
    try dsimp only
    refine hK.out _ _ ?_ (fun hHeld => ?_)
    · first | exact Sf.mk hF hz ((Sf.below hHeld).trans (hb9.mono (Sf.below hHeld).size)) | exact Sf.mk hF hz (((Sf.below hHeld).alloc (Sf.below hHeld).size _).trans (hb9.mono (by have := (Sf.below hHeld).size; simp; omega)))
    clear hK K
    try simp only [Act.put, List.setIfInBounds_toArray, List.set_cons_zero, List.set_cons_succ]
    refine wpAnyH_take (i := 8) (oi := { dst := some 4, op := Go.Op.assign (Go.Operand.tmp 15), type := 3, pos := "screeref15.go:151", after := #[{ on := 7, ground := Go.Ground.data }, { on := 7, ground := Go.Ground.chain }, { on := 0, ground := Go.Ground.phase }, { on := 1, ground := Go.Ground.phase }, { on := 2, ground := Go.Ground.phase }, { on := 3, ground := Go.Ground.phase }, { on := 4, ground := Go.Ground.phase }, { on := 5, ground := Go.Ground.phase }, { on := 6, ground := Go.Ground.phase }, { on := 7, ground := Go.Ground.phase }], guard := none }) (v := ?_) rfl (by kernel_rfl) (by kernel_rfl) (by kernel_rfl) (fun _ _ _ h => h) (Or.inl ⟨by rfl, ?_⟩) hHeld ?_
    rotate_left
    · (intro wq hSw; (try dsimp only at hSw); go_simp; try (with_reducible rfl))
    try simp only [Act.put, List.setIfInBounds_toArray, List.set_cons_zero, List.set_cons_succ]
    refine wpAnyH_done (by kernel_rfl) ?_ _
    have HBZ := hid (Sf.below hHeld)
    clear hHeld
    go_wp2
    go_ret
    exact ⟨ret_int HE.out.symm, HB1.out.trans (HBZ.out.mono HB1.out.size)⟩
  · rw [rkN hb]
    have HK : ∀ V, Calls Try.prog 54 #[.agg (cfgA c)] V fun e w' => e = .returned (.bool false) ∧ Below V.heap.size V w' := fun V => by rw [← okB_no hb]; exact right_any c HC.out V
    go_enter Try.func27, Try.ntmps27
    go_wp2_with (first | (refine wpList_cfg (by rfl) _ (by rfl) (by rfl) hL0 ?_) | (go_at_call 54; go_loud (refine (HK _).mono ?_; rintro e w1 ⟨rfl, hb1⟩; have HB1 : Hid (Below w.heap.size w w1) := HB0.out.trans (hb1.mono HB0.out.size); clear hb1)))
    go_ret
    exact ⟨rfl, HB1.out⟩
theorem rtfY (c : Cf) (hc : RC c) (hb : bad c = none) (x : Int) (h0 : 0 ≤ x) (hx : R64 x) (w : World) : Calls Try.prog 27 #[.agg (cfgA c), .int .i64 x] w fun e w' => e = .returned (.int .i64 (ptf c x)) ∧ Below w.heap.size w w' := by
  have := rtf_any c hc x hx w
  rwa [rkY hb, max_id h0] at this
set_option maxHeartbeats 4000000 in
theorem rjob_any (c : Cf) (hc : RC c) (hb : bad c = none) (w : World) :
    Calls Try.prog 68 #[.agg (cfgA c)] w fun e w' => e = .returned (.int .i64 (pj c)) ∧ Below w.heap.size w w' := by
  have HC := hid hc
  have HR := hid (right_of hb)
  clear hc
  have hF := lc_new w c 23
  have hz : w.heap.size < (w.alloc (.cells (cfgA c) 23)).heap.size := by simp
  have HB0 : Hid (Below w.heap.size w (w.alloc (.cells (cfgA c) 23))) := (Below.refl _ _).alloc (Nat.le_refl _) _
  obtain ⟨a1, a2⟩ := HR.out.o.h12
  have q1 := wadd (a := c 12) (k := 1) (by unfold R64; omega)
  have HE : Hid (pj c = smul (c 12 + 1) (pfile c)) := by show _ = _; rw [j_ref HR.out, file_ref HR.out]
  have HD := hid (show 0 ≤ c 12 ∧ c 12 ≤ 16 by omega)
  go_enter Try.func68, Try.ntmps68
  go_wp2
  generalize (w.alloc (.cells (cfgA c) 23)) = W at *
  refine wp_region_held_drew (S := (Sf W w.heap.size c)) (by kernel_rfl) ?_ (fun hHeld => ?_)
  · exact Sf.mk hF hz (Below.refl _ _).drew
  refine wpAnyH_take (i := 0) (oi := { dst := some 3, op := Go.Op.fieldAddr 23 (Go.Operand.tmp 1) 12, type := 0, pos := "screeref15.go:165", after := #[], guard := none }) (v := ?_) rfl (by kernel_rfl) (by kernel_rfl) (by kernel_rfl) (fun _ _ _ h => h) (Or.inl ⟨by rfl, ?_⟩) hHeld ?_
  rotate_left
  · (intro wq hSw; (try dsimp only at hSw); go_simp; try (with_reducible rfl))
  try simp only [Act.put, List.setIfInBounds_toArray, List.set_cons_zero, List.set_cons_succ]
  refine wpAnyH_take (i := 1) (oi := { dst := some 4, op := Go.Op.load 3 (Go.Operand.tmp 3), type := 3, pos := "screeref15.go:165", after := #[{ on := 0, ground := Go.Ground.data }], guard := none }) rfl (by kernel_rfl) (by kernel_rfl) (by kernel_rfl) (fun _ _ _ h => h) (yl_int (k := 12) (v := c 12) (by rfl) _ (by rfl) (by rfl) (fun V h => h.1.cell 12 rfl)) hHeld ?_
  try simp only [Act.put, List.setIfInBounds_toArray, List.set_cons_zero, List.set_cons_succ]
  refine wpAnyH_take (i := 2) (oi := { dst := some 5, op := Go.Op.binOp Go.BinOp.add 3 (Go.Operand.tmp 4) (Go.Operand.const (Go.Value.int Go.IntKind.i64 1)) 3, type := 3, pos := "screeref15.go:165", after := #[{ on := 1, ground := Go.Ground.data }], guard := none }) (v := ?_) rfl (by kernel_rfl) (by kernel_rfl) (by kernel_rfl) (fun _ _ _ h => h) (Or.inl ⟨by rfl, ?_⟩) hHeld ?_
  rotate_left
  · (intro wq hSw; (try dsimp only at hSw); go_simp; try (with_reducible rfl))
  try simp only [Act.put, List.setIfInBounds_toArray, List.set_cons_zero, List.set_cons_succ]
  refine wpAnyH_take (i := 3) (oi := { dst := some 6, op := Go.Op.load 23 (Go.Operand.tmp 1), type := 23, pos := "screeref15.go:165", after := #[], guard := none }) rfl (by kernel_rfl) (by kernel_rfl) (by kernel_rfl) (fun _ _ _ h => h) (yl_cfg (by rfl) _ (by rfl) (by rfl) (fun V h => h.1)) hHeld ?_
  try simp only [Act.put, List.setIfInBounds_toArray, List.set_cons_zero, List.set_cons_succ]
  refine wpAnyH_ready (rs := [4]) (by kernel_rfl) (by simp) ?_
  refine AllReadyH.cons (o := { dst := some 7, op := Go.Op.call { callee := Go.Callee.value (Go.Operand.func 23), args := #[Go.Operand.tmp 6], argTypes := #[23] }, type := 3, pos := "screeref15.go:165", after := #[{ on := 3, ground := Go.Ground.data }], guard := none }) rfl (fun K hK => ?_) AllReadyH.nil
  go_simp
  refine (rfileCapY c HC.out hb _).mono ?_
  rintro e w9 ⟨rfl, hb9⟩
  try dsimp only
  refine hK.out _ _ ?_ (fun hHeld => ?_)
  · first | exact Sf.mk hF hz ((Sf.below hHeld).trans (hb9.mono (Sf.below hHeld).size)) | exact Sf.mk hF hz (((Sf.below hHeld).alloc (Sf.below hHeld).size _).trans (hb9.mono (by have := (Sf.below hHeld).size; simp; omega)))
  clear hK K
  try simp only [Act.put, List.setIfInBounds_toArray, List.set_cons_zero, List.set_cons_succ]
  refine wpAnyH_ready (rs := [5]) (by kernel_rfl) (by simp) ?_
  refine AllReadyH.cons (o := { dst := some 8, op := Go.Op.call { callee := Go.Callee.value (Go.Operand.func 15), args := #[Go.Operand.tmp 5, Go.Operand.tmp 7], argTypes := #[3, 3] }, type := 3, pos := "screeref15.go:165", after := #[{ on := 2, ground := Go.Ground.data }, { on := 4, ground := Go.Ground.data }, { on := 4, ground := Go.Ground.chain }], guard := none }) rfl (fun K hK => ?_) AllReadyH.nil
  go_simp
  refine (rmulB _ _ (by first | exact HC.out _ | exact sadd_r _ _ | exact smul_r _ _ | exact ssum_r _ | exact plsum_r | exact pd_r _ _ | exact max_rr HX.out | (have hq1 := HD.out; unfold R64; omega)) (by first | exact HC.out _ | exact sadd_r _ _ | exact smul_r _ _ | exact ssum_r _ | exact plsum_r | exact pd_r _ _ | exact max_rr HX.out | (have hq1 := HD.out; unfold R64; omega)) _).mono ?_
  rintro e w9 ⟨rfl, hb9⟩
  try dsimp only
  refine hK.out _ _ ?_ (fun hHeld => ?_)
  · first | exact Sf.mk hF hz ((Sf.below hHeld).trans (hb9.mono (Sf.below hHeld).size)) | exact Sf.mk hF hz (((Sf.below hHeld).alloc (Sf.below hHeld).size _).trans (hb9.mono (by have := (Sf.below hHeld).size; simp; omega)))
  clear hK K
  try simp only [Act.put, List.setIfInBounds_toArray, List.set_cons_zero, List.set_cons_succ]
  refine wpAnyH_take (i := 6) (oi := { dst := some 2, op := Go.Op.assign (Go.Operand.tmp 8), type := 3, pos := "screeref15.go:165", after := #[{ on := 5, ground := Go.Ground.data }, { on := 5, ground := Go.Ground.chain }, { on := 0, ground := Go.Ground.phase }, { on := 1, ground := Go.Ground.phase }, { on := 2, ground := Go.Ground.phase }, { on := 3, ground := Go.Ground.phase }, { on := 4, ground := Go.Ground.phase }, { on := 5, ground := Go.Ground.phase }], guard := none }) (v := ?_) rfl (by kernel_rfl) (by kernel_rfl) (by kernel_rfl) (fun _ _ _ h => h) (Or.inl ⟨by rfl, ?_⟩) hHeld ?_
  rotate_left
  · (intro wq hSw; (try dsimp only at hSw); go_simp; try (with_reducible rfl))
  try simp only [Act.put, List.setIfInBounds_toArray, List.set_cons_zero, List.set_cons_succ]
  refine wpAnyH_done (by kernel_rfl) ?_ _
  have HBZ := hid (Sf.below hHeld)
  clear hHeld
  go_wp2
  go_ret
  exact ⟨ret_int HE.out.symm, HB0.out.trans (HBZ.out.mono HB0.out.size)⟩
end Pcm
end Go.Proofs.Ytebfokjgeknciaa
