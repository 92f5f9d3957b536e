import Derived.Test.YtebfokjgeknciaaPr5
namespace Go.Proofs.Ytebfokjgeknciaa
namespace Pcm
open Go.RowKit Laws Irw
set_option linter.unusedVariables false
set_option linter.unusedSimpArgs false
set_option maxRecDepth 20000

set_option maxHeartbeats 8000000 in
theorem rtc_any (c : Cf) (hc : RC c) (x : Int) (hx : R64 x) (w : World) :
    Calls Try.prog 29 #[.agg (cfgA c), .int .i64 x] w fun e w' => e = .returned (.int .i64 (rk c (ptc c (max x 0)))) ∧ Below w.heap.size w w' := by
  have HC := hid hc
  clear hc
  have hL0 := lc_new w c 23
  have hz0 : w.heap.size < (w.alloc (.cells (cfgA c) 23)).heap.size := by simp
  have HB0 : Hid (Below w.heap.size w (w.alloc (.cells (cfgA c) 23))) := (Below.refl _ _).alloc (Nat.le_refl _) _
  by_cases hb : bad c = none
  · rw [rkY hb]
    have HR := hid (right_of hb)
    have HK : ∀ V, Calls Try.prog 54 #[.agg (cfgA c)] V fun e w' => e = .returned (.bool true) ∧ Below V.heap.size V w' := fun V => by rw [← okB_yes hb]; exact right_any c HC.out V
    obtain ⟨y, hy⟩ : ∃ y, max x 0 = y := ⟨_, rfl⟩
    have y0 : 0 ≤ y := by omega
    have yr : R64 y := by rw [← hy]; exact max_rr hx
    rw [hy]
    have HAb : ∀ V, Calls Try.prog 62 #[.int .i64 x] V fun e w' => e = .returned (.int .i64 y) ∧ Below V.heap.size V w' := fun V => by rw [← hy]; exact aboveB x V
    have HX := hid yr
    obtain ⟨a1, a2⟩ := HR.out.o.h16
    obtain ⟨b1, b2⟩ := HR.out.o.h17
    obtain ⟨d1, d2⟩ := HR.out.o.h11
    have hA := div_lt y0 yr (show 2 ≤ c 16 by omega)
    have hB := div_lt y0 yr (show 2 ≤ c 11 by omega)
    have hG := div_le (show 0 ≤ c 16 by omega) (show 1 ≤ c 17 by omega)
    have HE := hid (g_ref HR.out)
    have q0 : ¬ c 17 = 0 := by omega
    have q1 := wtd (show 0 ≤ c 16 by omega) (HC.out 16) (show 1 ≤ c 17 by omega)
    have q2 := wadd (a := c 16 / c 17) (k := 3) (by unfold R64; omega)
    have HD := hid (And.intro hA (And.intro hB hG))
    have HPT : Hid (ptc c y = ssum [y / c 16, 2, smul (ssum [y / c 16, y / c 11, 3]) (smul (c 2) (c 16 / c 17 + 3)), smul 2 (sadd (y / c 11) 3), 16]) := by show ptc c y = _; unfold ptc; rw [HE.out]
    clear hA hB hG hy hx
    go_enter Try.func29, Try.ntmps29
    go_upto_region 4 with (first | (refine wpList_cfg (by rfl) _ (by rfl) (by rfl) hL0 ?_) | (go_at_call 54; go_loud (refine (HK _).mono ?_; rintro e w1 ⟨rfl, hb1⟩; have HB1 : Hid (Below w.heap.size w w1) := HB0.out.trans (hb1.mono HB0.out.size); have hL1 := hL0.keep hz0 hb1; have hz1 : w.heap.size < w1.heap.size := Nat.lt_of_lt_of_le hz0 hb1.size; clear hb1)) | (go_at_call 62; go_loud (refine (HAb _).mono ?_; rintro e w2 ⟨rfl, hb2⟩; have HB2 : Hid (Below w.heap.size w w2) := HB1.out.trans (hb2.mono HB1.out.size); have hF := hL1.keep hz1 hb2; have hz : w.heap.size < w2.heap.size := Nat.lt_of_lt_of_le hz1 hb2.size; clear hb2)))
    clear hL0 hL1 hz0 hz1
    generalize w2 = W at *
    refine wp_region_held_drew (S := (Sf W w.heap.size c)) (by kernel_rfl) ?_ (fun hHeld => ?_)
    · exact Sf.mk hF hz (Below.refl _ _).drew
    refine wpAnyH_take (i := 0) (oi := { dst := some 13, op := Go.Op.fieldAddr 23 (Go.Operand.tmp 2) 2, type := 0, pos := "screeref15.go:160", after := #[], guard := none }) (v := ?_) rfl (by kernel_rfl) (by kernel_rfl) (by kernel_rfl) (fun _ _ _ h => h) (Or.inl ⟨by rfl, ?_⟩) hHeld ?_
    rotate_left
    · (intro wq hSw; (try dsimp only at hSw); go_simp; try (with_reducible rfl))
    try simp only [Act.put, List.setIfInBounds_toArray, List.set_cons_zero, List.set_cons_succ]
    refine wpAnyH_take (i := 1) (oi := { dst := some 14, op := Go.Op.load 3 (Go.Operand.tmp 13), type := 3, pos := "screeref15.go:160", after := #[{ on := 0, ground := Go.Ground.data }], guard := none }) rfl (by kernel_rfl) (by kernel_rfl) (by kernel_rfl) (fun _ _ _ h => h) (yl_int (k := 2) (v := c 2) (by rfl) _ (by rfl) (by rfl) (fun V h => h.1.cell 2 rfl)) hHeld ?_
    try simp only [Act.put, List.setIfInBounds_toArray, List.set_cons_zero, List.set_cons_succ]
    refine wpAnyH_take (i := 2) (oi := { dst := some 15, op := Go.Op.fieldAddr 23 (Go.Operand.tmp 2) 16, type := 0, pos := "screeref15.go:160", after := #[], guard := none }) (v := ?_) rfl (by kernel_rfl) (by kernel_rfl) (by kernel_rfl) (fun _ _ _ h => h) (Or.inl ⟨by rfl, ?_⟩) hHeld ?_
    rotate_left
    · (intro wq hSw; (try dsimp only at hSw); go_simp; try (with_reducible rfl))
    try simp only [Act.put, List.setIfInBounds_toArray, List.set_cons_zero, List.set_cons_succ]
    refine wpAnyH_take (i := 3) (oi := { dst := some 16, op := Go.Op.load 3 (Go.Operand.tmp 15), type := 3, pos := "screeref15.go:160", after := #[{ on := 2, ground := Go.Ground.data }], guard := none }) rfl (by kernel_rfl) (by kernel_rfl) (by kernel_rfl) (fun _ _ _ h => h) (yl_int (k := 16) (v := c 16) (by rfl) _ (by rfl) (by rfl) (fun V h => h.1.cell 16 rfl)) hHeld ?_
    try simp only [Act.put, List.setIfInBounds_toArray, List.set_cons_zero, List.set_cons_succ]
    refine wpAnyH_take (i := 4) (oi := { dst := some 17, op := Go.Op.fieldAddr 23 (Go.Operand.tmp 2) 17, type := 0, pos := "screeref15.go:160", after := #[], guard := none }) (v := ?_) rfl (by kernel_rfl) (by kernel_rfl) (by kernel_rfl) (fun _ _ _ h => h) (Or.inl ⟨by rfl, ?_⟩) hHeld ?_
    rotate_left
    · (intro wq hSw; (try dsimp only at hSw); go_simp; try (with_reducible rfl))
    try simp only [Act.put, List.setIfInBounds_toArray, List.set_cons_zero, List.set_cons_succ]
    refine wpAnyH_take (i := 5) (oi := { dst := some 18, op := Go.Op.load 3 (Go.Operand.tmp 17), type := 3, pos := "screeref15.go:160", after := #[{ on := 4, ground := Go.Ground.data }], guard := none }) rfl (by kernel_rfl) (by kernel_rfl) (by kernel_rfl) (fun _ _ _ h => h) (yl_int (k := 17) (v := c 17) (by rfl) _ (by rfl) (by rfl) (fun V h => h.1.cell 17 rfl)) hHeld ?_
    try simp only [Act.put, List.setIfInBounds_toArray, List.set_cons_zero, List.set_cons_succ]
    refine wpAnyH_take (i := 6) (oi := { dst := some 19, op := Go.Op.binOp Go.BinOp.quo 3 (Go.Operand.tmp 16) (Go.Operand.tmp 18) 3, type := 3, pos := "screeref15.go:160", after := #[{ on := 3, ground := Go.Ground.data }, { on := 5, ground := Go.Ground.data }], guard := none }) (v := ?_) rfl (by kernel_rfl) (by kernel_rfl) (by kernel_rfl) (fun _ _ _ h => h) (Or.inl ⟨by rfl, ?_⟩) hHeld ?_
    rotate_left
    · (intro wq hSw; (try dsimp only at hSw); go_simp; try (with_reducible rfl))
    try simp only [Act.put, List.setIfInBounds_toArray, List.set_cons_zero, List.set_cons_succ]
    refine wpAnyH_take (i := 7) (oi := { dst := some 20, op := Go.Op.binOp Go.BinOp.add 3 (Go.Operand.tmp 19) (Go.Operand.const (Go.Value.int Go.IntKind.i64 3)) 3, type := 3, pos := "screeref15.go:160", after := #[{ on := 6, ground := Go.Ground.data }], guard := none }) (v := ?_) rfl (by kernel_rfl) (by kernel_rfl) (by kernel_rfl) (fun _ _ _ h => h) (Or.inl ⟨by rfl, ?_⟩) hHeld ?_
    rotate_left
    · (intro wq hSw; (try dsimp only at hSw); go_simp; try (with_reducible rfl))
    try simp only [Act.put, List.setIfInBounds_toArray, List.set_cons_zero, List.set_cons_succ]
    refine wpAnyH_ready (rs := [8]) (by kernel_rfl) (by simp) ?_
    refine AllReadyH.cons (o := { dst := some 21, op := Go.Op.call { callee := Go.Callee.value (Go.Operand.func 15), args := #[Go.Operand.tmp 14, Go.Operand.tmp 20], argTypes := #[3, 3] }, type := 3, pos := "screeref15.go:160", after := #[{ on := 1, ground := Go.Ground.data }, { on := 7, ground := Go.Ground.data }], guard := none }) rfl (fun K hK => ?_) AllReadyH.nil
    go_simp
    refine (rmulB _ _ (by first | exact HC.out _ | exact sadd_r _ _ | exact smul_r _ _ | exact ssum_r _ | exact plsum_r | exact pd_r _ _ | exact HX.out | exact max_rr HX.out | (have hq1 := HD.out; unfold R64; omega)) (by first | exact HC.out _ | exact sadd_r _ _ | exact smul_r _ _ | exact ssum_r _ | exact plsum_r | exact pd_r _ _ | exact HX.out | exact max_rr HX.out | (have hq1 := HD.out; unfold R64; omega)) _).mono ?_
    rintro e w9 ⟨rfl, hb9⟩
    try dsimp only
    refine hK.out _ _ ?_ (fun hHeld => ?_)
    · first | exact Sf.mk hF hz ((Sf.below hHeld).trans (hb9.mono (Sf.below hHeld).size)) | exact Sf.mk hF hz (((Sf.below hHeld).alloc (Sf.below hHeld).size _).trans (hb9.mono (by have := (Sf.below hHeld).size; simp; omega)))
    clear hK K
    try simp only [Act.put, List.setIfInBounds_toArray, List.set_cons_zero, List.set_cons_succ]
    refine wpAnyH_take (i := 9) (oi := { dst := some 5, op := Go.Op.assign (Go.Operand.tmp 21), type := 3, pos := "screeref15.go:160", after := #[{ on := 8, ground := Go.Ground.data }, { on := 8, ground := Go.Ground.chain }, { on := 0, ground := Go.Ground.phase }, { on := 1, ground := Go.Ground.phase }, { on := 2, ground := Go.Ground.phase }, { on := 3, ground := Go.Ground.phase }, { on := 4, ground := Go.Ground.phase }, { on := 5, ground := Go.Ground.phase }, { on := 6, ground := Go.Ground.phase }, { on := 7, ground := Go.Ground.phase }, { on := 8, ground := Go.Ground.phase }], guard := none }) (v := ?_) rfl (by kernel_rfl) (by kernel_rfl) (by kernel_rfl) (fun _ _ _ h => h) (Or.inl ⟨by rfl, ?_⟩) hHeld ?_
    rotate_left
    · (intro wq hSw; (try dsimp only at hSw); go_simp; try (with_reducible rfl))
    try simp only [Act.put, List.setIfInBounds_toArray, List.set_cons_zero, List.set_cons_succ]
    refine wpAnyH_done (by kernel_rfl) ?_ _
    have HB3 : Hid (Below w.heap.size w w9) := HB2.out.trans ((Sf.below hHeld).mono HB2.out.size)
    have k16 := hHeld.1.cell 16 (v := .int .i64 (c 16)) rfl
    have k11 := hHeld.1.cell 11 (v := .int .i64 (c 11)) rfl
    clear hHeld hF hz q1 q2 q0 hb9
    obtain ⟨g, hg⟩ : ∃ g, smul (c 2) (c 16 / c 17 + 3) = g := ⟨_, rfl⟩
    have HG : Hid (R64 g) := by rw [← hg]; exact smul_r _ _
    rw [hg] at HPT ⊢
    clear hg HE
    have yr2 : -9223372036854775808 ≤ y ∧ y ≤ 9223372036854775807 := HX.out
    go_wp2
    go_quiet (fail)
    clear k16 k11
    have HB4 : Hid (Below w.heap.size w (w9.drewN nq)) := below_drewN HB3.out nq
    generalize w9.drewN nq = W4 at *
    obtain ⟨A, hA⟩ : ∃ A, y / c 16 = A := ⟨_, rfl⟩
    obtain ⟨E, hE⟩ : ∃ E, y / c 11 = E := ⟨_, rfl⟩
    rw [hA, hE] at HD
    rw [hA, hE] at HPT
    rw [hA, hE]
    clear hA hE
    have RA : R64 A := by have := HD.out; unfold R64; omega
    have RE : R64 E := by have := HD.out; unfold R64; omega
    have HRA := hid RA
    have HRE := hid RE
    clear RA RE yr2
    go_wp2_with fail
    refine (rsum_any _ 0 3 3 [A, E, 3] _ (row_new _ _ _ _ rfl) rfl (by simp) (rcons HRA.out (rcons HRE.out (rcons (by unfold R64; omega) rnil)))).mono ?_; rintro e w5 ⟨rfl, hw5⟩; have hw6 := hw5.symm; clear hw5; subst hw6
    go_wp2_with fail
    refine (rmul_any _ _ (ssum_r _) HG.out _).mono ?_; rintro e w5 ⟨rfl, hw5⟩; have hw6 := hw5.symm; clear hw5; subst hw6
    go_wp2_with fail
    refine (radd_any _ _ HRE.out (by unfold R64; omega) _).mono ?_; rintro e w5 ⟨rfl, hw5⟩; have hw6 := hw5.symm; clear hw5; subst hw6
    go_wp2_with fail
    refine (rmul_any _ _ (by unfold R64; omega) (sadd_r _ _) _).mono ?_; rintro e w5 ⟨rfl, hw5⟩; have hw6 := hw5.symm; clear hw5; subst hw6
    have hsz : (W4.alloc (.cells #[.int .i64 A, .int .i64 E, .int .i64 3] 3)).heap.size = W4.heap.size + 1 := by simp
    have HB5 : Hid (Below w.heap.size w (W4.alloc (.cells #[.int .i64 A, .int .i64 E, .int .i64 3] 3))) := HB4.out.alloc HB4.out.size _
    go_wp2_with fail
    have hrs := rsum_any (W4.heap.size + 1) 0 5 5 [A, 2, smul (ssum [A, E, 3]) g, smul 2 (sadd E 3), 16] _ (by have := row_new (W4.alloc (.cells #[.int .i64 A, .int .i64 E, .int .i64 3] 3)) [A, 2, smul (ssum [A, E, 3]) g, smul 2 (sadd E 3), 16] 3 #[.int .i64 A, .int .i64 2, .int .i64 (smul (ssum [A, E, 3]) g), .int .i64 (smul 2 (sadd E 3)), .int .i64 16] rfl; rw [hsz] at this; exact this) rfl (by simp) (rcons HRA.out (rcons (by unfold R64; omega) (rcons (smul_r _ _) (rcons (smul_r _ _) (rcons (by unfold R64; omega) rnil)))))
    refine hrs.mono ?_; rintro e w5 ⟨rfl, hw5⟩; have hw6 := hw5.symm; clear hw5; subst hw6
    go_wp2
    go_ret
    exact ⟨ret_int HPT.out.symm, HB5.out.alloc HB5.out.size _⟩
  · rw [rkN hb]
    have HK : ∀ V, Calls Try.prog 54 #[.agg (cfgA c)] V fun e w' => e = .returned (.bool false) ∧ Below V.heap.size V w' := fun V => by rw [← okB_no hb]; exact right_any c HC.out V
    go_enter Try.func29, Try.ntmps29
    go_wp2_with (first | (refine wpList_cfg (by rfl) _ (by rfl) (by rfl) hL0 ?_) | (go_at_call 54; go_loud (refine (HK _).mono ?_; rintro e w1 ⟨rfl, hb1⟩; have HB1 : Hid (Below w.heap.size w w1) := HB0.out.trans (hb1.mono HB0.out.size); clear hb1)))
    go_ret
    exact ⟨rfl, HB1.out⟩
theorem rtcY (c : Cf) (hc : RC c) (hb : bad c = none) (x : Int) (h0 : 0 ≤ x) (hx : R64 x) (w : World) : Calls Try.prog 29 #[.agg (cfgA c), .int .i64 x] w fun e w' => e = .returned (.int .i64 (ptc c x)) ∧ Below w.heap.size w w' := by
  have := rtc_any c hc x hx w
  rwa [rkY hb, max_id h0] at this
end Pcm
end Go.Proofs.Ytebfokjgeknciaa
