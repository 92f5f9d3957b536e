import Derived.Test.YtebfokjgeknciaaPr7
import Derived.Test.YtebfokjgeknciaaPr5
namespace Go.Proofs.Ytebfokjgeknciaa
namespace Pcm
open Go.RowKit Laws Irw
set_option linter.unusedVariables false
set_option linter.unusedSimpArgs false
set_option maxRecDepth 20000

set_option maxHeartbeats 8000000 in
theorem rb2_any (c : Cf) (hc : RC c) (x : Int) (hx : R64 x) (w : World) :
    Calls Try.prog 33 #[.agg (cfgA c), .int .i64 x] w fun e w' => e = .returned (.int .i64 (rk c (pb2 c (max x 0)))) ∧ Below w.heap.size w w' := by
  have HC := hid hc
  clear hc
  have hL0 := lc_new w c 23
  have hz0 : w.heap.size < (w.alloc (.cells (cfgA c) 23)).heap.size := by simp
  have HB0 : Hid (Below w.heap.size w (w.alloc (.cells (cfgA c) 23))) := (Below.refl _ _).alloc (Nat.le_refl _) _
  by_cases hb : bad c = none
  · rw [rkY hb]
    have HR := hid (right_of hb)
    have HK : ∀ V, Calls Try.prog 54 #[.agg (cfgA c)] V fun e w' => e = .returned (.bool true) ∧ Below V.heap.size V w' := fun V => by rw [← okB_yes hb]; exact right_any c HC.out V
    obtain ⟨y, hy⟩ : ∃ y, max x 0 = y := ⟨_, rfl⟩
    have y0 : 0 ≤ y := by omega
    have yr : R64 y := by rw [← hy]; exact max_rr hx
    rw [hy]
    have HAb : ∀ V, Calls Try.prog 62 #[.int .i64 x] V fun e w' => e = .returned (.int .i64 y) ∧ Below V.heap.size V w' := fun V => by rw [← hy]; exact aboveB x V
    have HX := hid yr
    have HX0 := hid y0
    have hB1 : ∀ V, Calls Try.prog 31 #[.agg (cfgA c), .int .i64 x] V fun e w' => e = .returned (.int .i64 (pb1 c y)) ∧ Below V.heap.size V w' := fun V => by have := rb1Y c HC.out hb x hx V; rwa [hy] at this
    obtain ⟨b1, b2⟩ := HR.out.o.h4
    obtain ⟨d1, d2⟩ := HR.out.o.h16
    have hn0 := pn_nn HR.out y0
    have hnr : R64 (pn c y) := ssum_r _
    have hn16 := div_lt hn0 hnr (show 2 ≤ c 16 by omega)
    have h450 := div_lt (smul_nn (show 0 ≤ c 8 by have := HR.out.o.h8; omega) hn0) (smul_r _ _) (show 2 ≤ 450 by omega)
    have HE := hid (b2_ref HR.out y0)
    have q0 := wadd (a := c 4) (k := 2) (by unfold R64; omega)
    have q3 : ¬ c 16 = 0 := by omega
    have q4 := wtd hn0 hnr (show 1 ≤ c 16 by omega)
    have q12 := wtd (smul_nn (show 0 ≤ c 8 by have := HR.out.o.h8; omega) hn0) (smul_r _ _) (show (1 : Int) ≤ 450 by omega)
    have HD := hid (And.intro (And.intro b1 b2) (And.intro hn16 h450))
    clear hn16 h450 hy hx yr y0 hnr hn0
    go_enter Try.func33, Try.ntmps33
    go_upto_region 3 with (first | (refine wpList_cfg (by rfl) _ (by rfl) (by rfl) hL0 ?_) | (go_at_call 54; go_loud (refine (HK _).mono ?_; rintro e w1 ⟨rfl, hb1⟩; have HB1 : Hid (Below w.heap.size w w1) := HB0.out.trans (hb1.mono HB0.out.size); have hL1 := hL0.keep hz0 hb1; have hz1 : w.heap.size < w1.heap.size := Nat.lt_of_lt_of_le hz0 hb1.size; clear hb1)))
    have hF := hL1
    have hz := hz1
    have HB := HB1
    clear hL0 hL1 hz0 hz1 HB0 HB1 HK
    generalize w1 = W at *
    go_cut [1, 2, 5] (fun v1 v2 v5 w' => v1 = .int .i64 x ∧ v2 = .pointer (some ⟨w.heap.size, 0, none⟩) ∧ v5 = .int .i64 (pn c y) ∧ Hid (Below W.heap.size W w'))
    case first =>
      refine wp_region_held_drew (S := (Sf W w.heap.size c)) (by kernel_rfl) ?_ (fun hHeld => ?_)
      · exact Sf.mk hF hz (Below.refl _ _).drew
      refine wpAnyH_take (i := 0) (oi := { dst := some 10, op := Go.Op.move (Go.Operand.tmp 1), type := 3, pos := "screeref15.go:185", after := #[], guard := none }) (v := ?_) rfl (by kernel_rfl) (by kernel_rfl) (by kernel_rfl) (fun _ _ _ h => h) (Or.inl ⟨by rfl, ?_⟩) hHeld ?_
      rotate_left
      · (intro wq hSw; (try dsimp only at hSw); go_simp; try (with_reducible rfl))
      try simp only [Act.put, List.setIfInBounds_toArray, List.set_cons_zero, List.set_cons_succ]
      refine wpAnyH_take (i := 2) (oi := { dst := some 12, op := Go.Op.fieldAddr 23 (Go.Operand.tmp 2) 22, type := 0, pos := "screeref15.go:185", after := #[], guard := none }) (v := ?_) rfl (by kernel_rfl) (by kernel_rfl) (by kernel_rfl) (fun _ _ _ h => h) (Or.inl ⟨by rfl, ?_⟩) hHeld ?_
      rotate_left
      · (intro wq hSw; (try dsimp only at hSw); go_simp; try (with_reducible rfl))
      try simp only [Act.put, List.setIfInBounds_toArray, List.set_cons_zero, List.set_cons_succ]
      refine wpAnyH_take (i := 3) (oi := { dst := some 13, op := Go.Op.load 3 (Go.Operand.tmp 12), type := 3, pos := "screeref15.go:185", after := #[{ on := 2, ground := Go.Ground.data }], guard := none }) rfl (by kernel_rfl) (by kernel_rfl) (by kernel_rfl) (fun _ _ _ h => h) (yl_int (k := 22) (v := c 22) (by rfl) _ (by rfl) (by rfl) (fun V h => h.1.cell 22 rfl)) hHeld ?_
      try simp only [Act.put, List.setIfInBounds_toArray, List.set_cons_zero, List.set_cons_succ]
      refine wpAnyH_take (i := 4) (oi := { dst := some 14, op := Go.Op.fieldAddr 23 (Go.Operand.tmp 2) 0, type := 0, pos := "screeref15.go:185", after := #[], guard := none }) (v := ?_) rfl (by kernel_rfl) (by kernel_rfl) (by kernel_rfl) (fun _ _ _ h => h) (Or.inl ⟨by rfl, ?_⟩) hHeld ?_
      rotate_left
      · (intro wq hSw; (try dsimp only at hSw); go_simp; try (with_reducible rfl))
      try simp only [Act.put, List.setIfInBounds_toArray, List.set_cons_zero, List.set_cons_succ]
      refine wpAnyH_take (i := 5) (oi := { dst := some 15, op := Go.Op.load 3 (Go.Operand.tmp 14), type := 3, pos := "screeref15.go:185", after := #[{ on := 4, ground := Go.Ground.data }], guard := none }) rfl (by kernel_rfl) (by kernel_rfl) (by kernel_rfl) (fun _ _ _ h => h) (yl_int (k := 0) (v := c 0) (by rfl) _ (by rfl) (by rfl) (fun V h => h.1.cell 0 rfl)) hHeld ?_
      try simp only [Act.put, List.setIfInBounds_toArray, List.set_cons_zero, List.set_cons_succ]
      refine wpAnyH_ready (rs := [1]) (by kernel_rfl) (by simp) ?_
      refine AllReadyH.cons (o := { dst := some 11, op := Go.Op.call { callee := Go.Callee.value (Go.Operand.func 62), args := #[Go.Operand.tmp 10], argTypes := #[3] }, type := 3, pos := "screeref15.go:185", after := #[{ on := 0, ground := Go.Ground.data }], guard := none }) rfl (fun K hK => ?_) AllReadyH.nil
      go_simp
      refine (HAb _).mono ?_
      rintro e w9 ⟨rfl, hb9⟩
      try dsimp only
      refine hK.out _ _ ?_ (fun hHeld => ?_)
      · first | exact Sf.mk hF hz ((Sf.below hHeld).trans (hb9.mono (Sf.below hHeld).size)) | exact Sf.mk hF hz (((Sf.below hHeld).alloc (Sf.below hHeld).size _).trans (hb9.mono (by have := (Sf.below hHeld).size; simp; omega)))
      clear hK K
      try simp only [Act.put, List.setIfInBounds_toArray, List.set_cons_zero, List.set_cons_succ]
      refine wpAnyH_ready (rs := [6]) (by kernel_rfl) (by simp) ?_
      refine AllReadyH.cons (o := { dst := some 16, op := Go.Op.call { callee := Go.Callee.value (Go.Operand.func 15), args := #[Go.Operand.tmp 15, Go.Operand.const (Go.Value.int Go.IntKind.i64 17408)], argTypes := #[3, 3] }, type := 3, pos := "screeref15.go:185", after := #[{ on := 5, ground := Go.Ground.data }, { on := 1, ground := Go.Ground.chain }], guard := none }) rfl (fun K hK => ?_) AllReadyH.nil
      go_simp
      refine (rmulB _ _ (by first | exact HC.out _ | exact sadd_r _ _ | exact smul_r _ _ | exact ssum_r _ | exact plsum_r | exact pd_r _ _ | exact HX.out | (have hq1 := HD.out; unfold R64; omega)) (by first | exact HC.out _ | exact sadd_r _ _ | exact smul_r _ _ | exact ssum_r _ | exact plsum_r | exact pd_r _ _ | exact HX.out | (have hq1 := HD.out; unfold R64; omega)) _).mono ?_
      rintro e w9 ⟨rfl, hb9⟩
      try dsimp only
      refine hK.out _ _ ?_ (fun hHeld => ?_)
      · first | exact Sf.mk hF hz ((Sf.below hHeld).trans (hb9.mono (Sf.below hHeld).size)) | exact Sf.mk hF hz (((Sf.below hHeld).alloc (Sf.below hHeld).size _).trans (hb9.mono (by have := (Sf.below hHeld).size; simp; omega)))
      clear hK K
      try simp only [Act.put, List.setIfInBounds_toArray, List.set_cons_zero, List.set_cons_succ]
      refine wpAnyH_ready (rs := [7]) (by kernel_rfl) (by simp) ?_
      refine AllReadyH.cons (o := { dst := some 17, op := Go.Op.buildSlice 47 3 #[(0, Go.Operand.tmp 11), (1, Go.Operand.tmp 13), (2, Go.Operand.tmp 16)], type := 47, pos := "screeref15.go:185", after := #[{ on := 1, ground := Go.Ground.data }, { on := 3, ground := Go.Ground.data }, { on := 6, ground := Go.Ground.data }], guard := none }) rfl (fun K hK => ?_) AllReadyH.nil
      go_simp
      refine hK.out _ _ ?_ (fun hHeld => ?_)
      · exact Sf.mk hF hz ((Sf.below hHeld).alloc (Sf.below hHeld).size _)
      clear hK K
      try simp only [Act.put, List.setIfInBounds_toArray, List.set_cons_zero, List.set_cons_succ]
      refine wpAnyH_ready (rs := [8]) (by kernel_rfl) (by simp) ?_
      refine AllReadyH.cons (o := { dst := some 18, op := Go.Op.call { callee := Go.Callee.value (Go.Operand.func 65), args := #[Go.Operand.tmp 17], argTypes := #[47] }, type := 3, pos := "screeref15.go:185", after := #[{ on := 7, ground := Go.Ground.data }, { on := 6, ground := Go.Ground.chain }], guard := none }) rfl (fun K hK => ?_) AllReadyH.nil
      go_simp
      first | (refine (rsumD_any _ _ _ _ (by rfl) (by rfl) (by repeat (first | exact inil | refine icons (by first | exact HC.out _ | exact sadd_r _ _ | exact smul_r _ _ | exact ssum_r _ | exact plsum_r | exact pd_r _ _ | exact HX.out | (have hq1 := HD.out; unfold R64; omega)) ?_))).mono ?_; rintro e w9 ⟨rfl, hb9⟩) | (refine (rsumN_any _ _ _ _ (by rfl) (by rfl) (by repeat (first | exact inil | refine icons (by first | exact HC.out _ | exact sadd_r _ _ | exact smul_r _ _ | exact ssum_r _ | exact plsum_r | exact pd_r _ _ | exact HX.out | (have hq1 := HD.out; unfold R64; omega)) ?_))).mono ?_; rintro e w9 ⟨rfl, hb9⟩)
      try dsimp only
      refine hK.out _ _ ?_ (fun hHeld => ?_)
      · first | exact Sf.mk hF hz ((Sf.below hHeld).trans (hb9.mono (Sf.below hHeld).size)) | exact Sf.mk hF hz (((Sf.below hHeld).alloc (Sf.below hHeld).size _).trans (hb9.mono (by have := (Sf.below hHeld).size; simp; omega)))
      clear hK K
      try simp only [Act.put, List.setIfInBounds_toArray, List.set_cons_zero, List.set_cons_succ]
      refine wpAnyH_take (i := 9) (oi := { dst := some 5, op := Go.Op.assign (Go.Operand.tmp 18), type := 3, pos := "screeref15.go:185", after := #[{ on := 8, ground := Go.Ground.data }, { on := 8, ground := Go.Ground.chain }, { on := 0, ground := Go.Ground.phase }, { on := 1, ground := Go.Ground.phase }, { on := 2, ground := Go.Ground.phase }, { on := 3, ground := Go.Ground.phase }, { on := 4, ground := Go.Ground.phase }, { on := 5, ground := Go.Ground.phase }, { on := 6, ground := Go.Ground.phase }, { on := 7, ground := Go.Ground.phase }, { on := 8, ground := Go.Ground.phase }], guard := none }) (v := ?_) rfl (by kernel_rfl) (by kernel_rfl) (by kernel_rfl) (fun _ _ _ h => h) (Or.inl ⟨by rfl, ?_⟩) hHeld ?_
      rotate_left
      · (intro wq hSw; (try dsimp only at hSw); go_simp; try (with_reducible rfl))
      try simp only [Act.put, List.setIfInBounds_toArray, List.set_cons_zero, List.set_cons_succ]
      refine wpAnyH_done (by kernel_rfl) ?_ _
      have HBZ := hid (Sf.below hHeld)
      clear hHeld
      go_wp2
      go_meet
      case rel => exact ⟨rfl, rfl, rfl, HBZ⟩
    case rest =>
      obtain ⟨rfl, rfl, rfl, HBC⟩ := hcut
      rename World => W2
      have hF' := hF.keep hz HBC.out
      have hz' : w.heap.size < W2.heap.size := Nat.lt_of_lt_of_le hz HBC.out.size
      have HB' : Hid (Below w.heap.size w W2) := HB.out.trans (HBC.out.mono HB.out.size)
      try go_wp2
      clear hF hz HB HBC
      have hF := hF'
      have hz := hz'
      have HB := HB'
      clear hF' hz' HB'
      go_cut [1, 2, 5, 6] (fun v1 v2 v5 v6 w' => v1 = .int .i64 x ∧ v2 = .pointer (some ⟨w.heap.size, 0, none⟩) ∧ v5 = .int .i64 (pn c y) ∧ v6 = .int .i64 (sadd (ptc c (pn c y)) (ptc c (pj c))) ∧ Hid (Below W2.heap.size W2 w'))
      case first =>
        refine wp_region_held_drew (S := (Sf W2 w.heap.size c)) (by kernel_rfl) ?_ (fun hHeld => ?_)
        · exact Sf.mk hF hz (Below.refl _ _).drew
        refine wpAnyH_take (i := 0) (oi := { dst := some 19, op := Go.Op.load 23 (Go.Operand.tmp 2), type := 23, pos := "screeref15.go:186", after := #[], guard := none }) rfl (by kernel_rfl) (by kernel_rfl) (by kernel_rfl) (fun _ _ _ h => h) (yl_cfg (by rfl) _ (by rfl) (by rfl) (fun V h => h.1)) hHeld ?_
        try simp only [Act.put, List.setIfInBounds_toArray, List.set_cons_zero, List.set_cons_succ]
        refine wpAnyH_take (i := 1) (oi := { dst := some 20, op := Go.Op.move (Go.Operand.tmp 5), type := 3, pos := "screeref15.go:186", after := #[], guard := none }) (v := ?_) rfl (by kernel_rfl) (by kernel_rfl) (by kernel_rfl) (fun _ _ _ h => h) (Or.inl ⟨by rfl, ?_⟩) hHeld ?_
        rotate_left
        · (intro wq hSw; (try dsimp only at hSw); go_simp; try (with_reducible rfl))
        try simp only [Act.put, List.setIfInBounds_toArray, List.set_cons_zero, List.set_cons_succ]
        refine wpAnyH_take (i := 3) (oi := { dst := some 22, op := Go.Op.load 23 (Go.Operand.tmp 2), type := 23, pos := "screeref15.go:186", after := #[], guard := none }) rfl (by kernel_rfl) (by kernel_rfl) (by kernel_rfl) (fun _ _ _ h => h) (yl_cfg (by rfl) _ (by rfl) (by rfl) (fun V h => h.1)) hHeld ?_
        try simp only [Act.put, List.setIfInBounds_toArray, List.set_cons_zero, List.set_cons_succ]
        refine wpAnyH_take (i := 4) (oi := { dst := some 23, op := Go.Op.load 23 (Go.Operand.tmp 2), type := 23, pos := "screeref15.go:186", after := #[], guard := none }) rfl (by kernel_rfl) (by kernel_rfl) (by kernel_rfl) (fun _ _ _ h => h) (yl_cfg (by rfl) _ (by rfl) (by rfl) (fun V h => h.1)) hHeld ?_
        try simp only [Act.put, List.setIfInBounds_toArray, List.set_cons_zero, List.set_cons_succ]
        refine wpAnyH_ready (rs := [2]) (by kernel_rfl) (by simp) ?_
        refine AllReadyH.cons (o := { dst := some 21, op := Go.Op.call { callee := Go.Callee.value (Go.Operand.func 29), args := #[Go.Operand.tmp 19, Go.Operand.tmp 20], argTypes := #[23, 3] }, type := 3, pos := "screeref15.go:186", after := #[{ on := 0, ground := Go.Ground.data }, { on := 1, ground := Go.Ground.data }], guard := none }) rfl (fun K hK => ?_) AllReadyH.nil
        go_simp
        refine (rtcY c HC.out hb _ (pn_nn HR.out HX0.out) (ssum_r _) _).mono ?_
        rintro e w9 ⟨rfl, hb9⟩
        try dsimp only
        refine hK.out _ _ ?_ (fun hHeld => ?_)
        · first | exact Sf.mk hF hz ((Sf.below hHeld).trans (hb9.mono (Sf.below hHeld).size)) | exact Sf.mk hF hz (((Sf.below hHeld).alloc (Sf.below hHeld).size _).trans (hb9.mono (by have := (Sf.below hHeld).size; simp; omega)))
        clear hK K
        try simp only [Act.put, List.setIfInBounds_toArray, List.set_cons_zero, List.set_cons_succ]
        refine wpAnyH_ready (rs := [5]) (by kernel_rfl) (by simp) ?_
        refine AllReadyH.cons (o := { dst := some 24, op := Go.Op.call { callee := Go.Callee.value (Go.Operand.func 68), args := #[Go.Operand.tmp 23], argTypes := #[23] }, type := 3, pos := "screeref15.go:186", after := #[{ on := 4, ground := Go.Ground.data }, { on := 2, ground := Go.Ground.chain }], guard := none }) rfl (fun K hK => ?_) AllReadyH.nil
        go_simp
        refine (rjob_any c HC.out hb _).mono ?_
        rintro e w9 ⟨rfl, hb9⟩
        try dsimp only
        refine hK.out _ _ ?_ (fun hHeld => ?_)
        · first | exact Sf.mk hF hz ((Sf.below hHeld).trans (hb9.mono (Sf.below hHeld).size)) | exact Sf.mk hF hz (((Sf.below hHeld).alloc (Sf.below hHeld).size _).trans (hb9.mono (by have := (Sf.below hHeld).size; simp; omega)))
        clear hK K
        try simp only [Act.put, List.setIfInBounds_toArray, List.set_cons_zero, List.set_cons_succ]
        refine wpAnyH_ready (rs := [6]) (by kernel_rfl) (by simp) ?_
        refine AllReadyH.cons (o := { dst := some 25, op := Go.Op.call { callee := Go.Callee.value (Go.Operand.func 29), args := #[Go.Operand.tmp 22, Go.Operand.tmp 24], argTypes := #[23, 3] }, type := 3, pos := "screeref15.go:186", after := #[{ on := 3, ground := Go.Ground.data }, { on := 5, ground := Go.Ground.data }, { on := 5, ground := Go.Ground.chain }], guard := none }) rfl (fun K hK => ?_) AllReadyH.nil
        go_simp
        refine (rtcY c HC.out hb _ (pj_nn HR.out) (smul_r _ _) _).mono ?_
        rintro e w9 ⟨rfl, hb9⟩
        try dsimp only
        refine hK.out _ _ ?_ (fun hHeld => ?_)
        · first | exact Sf.mk hF hz ((Sf.below hHeld).trans (hb9.mono (Sf.below hHeld).size)) | exact Sf.mk hF hz (((Sf.below hHeld).alloc (Sf.below hHeld).size _).trans (hb9.mono (by have := (Sf.below hHeld).size; simp; omega)))
        clear hK K
        try simp only [Act.put, List.setIfInBounds_toArray, List.set_cons_zero, List.set_cons_succ]
        refine wpAnyH_ready (rs := [7]) (by kernel_rfl) (by simp) ?_
        refine AllReadyH.cons (o := { dst := some 26, op := Go.Op.call { callee := Go.Callee.value (Go.Operand.func 13), args := #[Go.Operand.tmp 21, Go.Operand.tmp 25], argTypes := #[3, 3] }, type := 3, pos := "screeref15.go:186", after := #[{ on := 2, ground := Go.Ground.data }, { on := 6, ground := Go.Ground.data }, { on := 6, ground := Go.Ground.chain }], guard := none }) rfl (fun K hK => ?_) AllReadyH.nil
        go_simp
        refine (raddB _ _ (by first | exact HC.out _ | exact sadd_r _ _ | exact smul_r _ _ | exact ssum_r _ | exact plsum_r | exact pd_r _ _ | exact HX.out | (have hq1 := HD.out; unfold R64; omega)) (by first | exact HC.out _ | exact sadd_r _ _ | exact smul_r _ _ | exact ssum_r _ | exact plsum_r | exact pd_r _ _ | exact HX.out | (have hq1 := HD.out; unfold R64; omega)) _).mono ?_
        rintro e w9 ⟨rfl, hb9⟩
        try dsimp only
        refine hK.out _ _ ?_ (fun hHeld => ?_)
        · first | exact Sf.mk hF hz ((Sf.below hHeld).trans (hb9.mono (Sf.below hHeld).size)) | exact Sf.mk hF hz (((Sf.below hHeld).alloc (Sf.below hHeld).size _).trans (hb9.mono (by have := (Sf.below hHeld).size; simp; omega)))
        clear hK K
        try simp only [Act.put, List.setIfInBounds_toArray, List.set_cons_zero, List.set_cons_succ]
        refine wpAnyH_take (i := 8) (oi := { dst := some 6, op := Go.Op.assign (Go.Operand.tmp 26), type := 3, pos := "screeref15.go:186", after := #[{ on := 7, ground := Go.Ground.data }, { on := 7, ground := Go.Ground.chain }, { on := 0, ground := Go.Ground.phase }, { on := 1, ground := Go.Ground.phase }, { on := 2, ground := Go.Ground.phase }, { on := 3, ground := Go.Ground.phase }, { on := 4, ground := Go.Ground.phase }, { on := 5, ground := Go.Ground.phase }, { on := 6, ground := Go.Ground.phase }, { on := 7, ground := Go.Ground.phase }], guard := none }) (v := ?_) rfl (by kernel_rfl) (by kernel_rfl) (by kernel_rfl) (fun _ _ _ h => h) (Or.inl ⟨by rfl, ?_⟩) hHeld ?_
        rotate_left
        · (intro wq hSw; (try dsimp only at hSw); go_simp; try (with_reducible rfl))
        try simp only [Act.put, List.setIfInBounds_toArray, List.set_cons_zero, List.set_cons_succ]
        refine wpAnyH_done (by kernel_rfl) ?_ _
        have HBZ := hid (Sf.below hHeld)
        clear hHeld
        go_wp2
        go_meet
        case rel => exact ⟨rfl, rfl, rfl, rfl, HBZ⟩
      case rest =>
        obtain ⟨rfl, rfl, rfl, rfl, HBC⟩ := hcut
        rename World => W3
        have hF' := hF.keep hz HBC.out
        have hz' : w.heap.size < W3.heap.size := Nat.lt_of_lt_of_le hz HBC.out.size
        have HB' : Hid (Below w.heap.size w W3) := HB.out.trans (HBC.out.mono HB.out.size)
        try go_wp2
        clear hF hz HB HBC
        have hF := hF'
        have hz := hz'
        have HB := HB'
        clear hF' hz' HB'
        refine wp_region_held_drew (S := (Sf W3 w.heap.size c)) (by kernel_rfl) ?_ (fun hHeld => ?_)
        · exact Sf.mk hF hz (Below.refl _ _).drew
        refine wpAnyH_take (i := 0) (oi := { dst := some 27, op := Go.Op.load 23 (Go.Operand.tmp 2), type := 23, pos := "screeref15.go:187", after := #[], guard := none }) rfl (by kernel_rfl) (by kernel_rfl) (by kernel_rfl) (fun _ _ _ h => h) (yl_cfg (by rfl) _ (by rfl) (by rfl) (fun V h => h.1)) hHeld ?_
        try simp only [Act.put, List.setIfInBounds_toArray, List.set_cons_zero, List.set_cons_succ]
        refine wpAnyH_take (i := 1) (oi := { dst := some 28, op := Go.Op.move (Go.Operand.tmp 1), type := 3, pos := "screeref15.go:187", after := #[], guard := none }) (v := ?_) rfl (by kernel_rfl) (by kernel_rfl) (by kernel_rfl) (fun _ _ _ h => h) (Or.inl ⟨by rfl, ?_⟩) hHeld ?_
        rotate_left
        · (intro wq hSw; (try dsimp only at hSw); go_simp; try (with_reducible rfl))
        try simp only [Act.put, List.setIfInBounds_toArray, List.set_cons_zero, List.set_cons_succ]
        refine wpAnyH_take (i := 3) (oi := { dst := some 30, op := Go.Op.fieldAddr 23 (Go.Operand.tmp 2) 4, type := 0, pos := "screeref15.go:187", after := #[], guard := none }) (v := ?_) rfl (by kernel_rfl) (by kernel_rfl) (by kernel_rfl) (fun _ _ _ h => h) (Or.inl ⟨by rfl, ?_⟩) hHeld ?_
        rotate_left
        · (intro wq hSw; (try dsimp only at hSw); go_simp; try (with_reducible rfl))
        try simp only [Act.put, List.setIfInBounds_toArray, List.set_cons_zero, List.set_cons_succ]
        refine wpAnyH_take (i := 4) (oi := { dst := some 31, op := Go.Op.load 3 (Go.Operand.tmp 30), type := 3, pos := "screeref15.go:187", after := #[{ on := 3, ground := Go.Ground.data }], guard := none }) rfl (by kernel_rfl) (by kernel_rfl) (by kernel_rfl) (fun _ _ _ h => h) (yl_int (k := 4) (v := c 4) (by rfl) _ (by rfl) (by rfl) (fun V h => h.1.cell 4 rfl)) hHeld ?_
        try simp only [Act.put, List.setIfInBounds_toArray, List.set_cons_zero, List.set_cons_succ]
        refine wpAnyH_take (i := 5) (oi := { dst := some 32, op := Go.Op.binOp Go.BinOp.add 3 (Go.Operand.tmp 31) (Go.Operand.const (Go.Value.int Go.IntKind.i64 2)) 3, type := 3, pos := "screeref15.go:187", after := #[{ on := 4, ground := Go.Ground.data }], guard := none }) (v := ?_) rfl (by kernel_rfl) (by kernel_rfl) (by kernel_rfl) (fun _ _ _ h => h) (Or.inl ⟨by rfl, ?_⟩) hHeld ?_
        rotate_left
        · (intro wq hSw; (try dsimp only at hSw); go_simp; try (with_reducible rfl))
        try simp only [Act.put, List.setIfInBounds_toArray, List.set_cons_zero, List.set_cons_succ]
        refine wpAnyH_take (i := 6) (oi := { dst := some 33, op := Go.Op.load 23 (Go.Operand.tmp 2), type := 23, pos := "screeref15.go:187", after := #[], guard := none }) rfl (by kernel_rfl) (by kernel_rfl) (by kernel_rfl) (fun _ _ _ h => h) (yl_cfg (by rfl) _ (by rfl) (by rfl) (fun V h => h.1)) hHeld ?_
        try simp only [Act.put, List.setIfInBounds_toArray, List.set_cons_zero, List.set_cons_succ]
        refine wpAnyH_take (i := 7) (oi := { dst := some 34, op := Go.Op.load 23 (Go.Operand.tmp 2), type := 23, pos := "screeref15.go:187", after := #[], guard := none }) rfl (by kernel_rfl) (by kernel_rfl) (by kernel_rfl) (fun _ _ _ h => h) (yl_cfg (by rfl) _ (by rfl) (by rfl) (fun V h => h.1)) hHeld ?_
        try simp only [Act.put, List.setIfInBounds_toArray, List.set_cons_zero, List.set_cons_succ]
        refine wpAnyH_take (i := 10) (oi := { dst := some 37, op := Go.Op.move (Go.Operand.tmp 6), type := 3, pos := "screeref15.go:187", after := #[], guard := none }) (v := ?_) rfl (by kernel_rfl) (by kernel_rfl) (by kernel_rfl) (fun _ _ _ h => h) (Or.inl ⟨by rfl, ?_⟩) hHeld ?_
        rotate_left
        · (intro wq hSw; (try dsimp only at hSw); go_simp; try (with_reducible rfl))
        try simp only [Act.put, List.setIfInBounds_toArray, List.set_cons_zero, List.set_cons_succ]
        refine wpAnyH_take (i := 14) (oi := { dst := some 41, op := Go.Op.fieldAddr 23 (Go.Operand.tmp 2) 8, type := 0, pos := "screeref15.go:187", after := #[], guard := none }) (v := ?_) rfl (by kernel_rfl) (by kernel_rfl) (by kernel_rfl) (fun _ _ _ h => h) (Or.inl ⟨by rfl, ?_⟩) hHeld ?_
        rotate_left
        · (intro wq hSw; (try dsimp only at hSw); go_simp; try (with_reducible rfl))
        try simp only [Act.put, List.setIfInBounds_toArray, List.set_cons_zero, List.set_cons_succ]
        refine wpAnyH_take (i := 15) (oi := { dst := some 42, op := Go.Op.load 3 (Go.Operand.tmp 41), type := 3, pos := "screeref15.go:187", after := #[{ on := 14, ground := Go.Ground.data }], guard := none }) rfl (by kernel_rfl) (by kernel_rfl) (by kernel_rfl) (fun _ _ _ h => h) (yl_int (k := 8) (v := c 8) (by rfl) _ (by rfl) (by rfl) (fun V h => h.1.cell 8 rfl)) hHeld ?_
        try simp only [Act.put, List.setIfInBounds_toArray, List.set_cons_zero, List.set_cons_succ]
        refine wpAnyH_take (i := 16) (oi := { dst := some 43, op := Go.Op.move (Go.Operand.tmp 5), type := 3, pos := "screeref15.go:187", after := #[], guard := none }) (v := ?_) rfl (by kernel_rfl) (by kernel_rfl) (by kernel_rfl) (fun _ _ _ h => h) (Or.inl ⟨by rfl, ?_⟩) hHeld ?_
        rotate_left
        · (intro wq hSw; (try dsimp only at hSw); go_simp; try (with_reducible rfl))
        try simp only [Act.put, List.setIfInBounds_toArray, List.set_cons_zero, List.set_cons_succ]
        refine wpAnyH_take (i := 20) (oi := { dst := some 47, op := Go.Op.move (Go.Operand.tmp 6), type := 3, pos := "screeref15.go:187", after := #[], guard := none }) (v := ?_) rfl (by kernel_rfl) (by kernel_rfl) (by kernel_rfl) (fun _ _ _ h => h) (Or.inl ⟨by rfl, ?_⟩) hHeld ?_
        rotate_left
        · (intro wq hSw; (try dsimp only at hSw); go_simp; try (with_reducible rfl))
        try simp only [Act.put, List.setIfInBounds_toArray, List.set_cons_zero, List.set_cons_succ]
        refine wpAnyH_take (i := 23) (oi := { dst := some 50, op := Go.Op.move (Go.Operand.tmp 5), type := 3, pos := "screeref15.go:187", after := #[], guard := none }) (v := ?_) rfl (by kernel_rfl) (by kernel_rfl) (by kernel_rfl) (fun _ _ _ h => h) (Or.inl ⟨by rfl, ?_⟩) hHeld ?_
        rotate_left
        · (intro wq hSw; (try dsimp only at hSw); go_simp; try (with_reducible rfl))
        try simp only [Act.put, List.setIfInBounds_toArray, List.set_cons_zero, List.set_cons_succ]
        refine wpAnyH_take (i := 24) (oi := { dst := some 51, op := Go.Op.fieldAddr 23 (Go.Operand.tmp 2) 16, type := 0, pos := "screeref15.go:187", after := #[], guard := none }) (v := ?_) rfl (by kernel_rfl) (by kernel_rfl) (by kernel_rfl) (fun _ _ _ h => h) (Or.inl ⟨by rfl, ?_⟩) hHeld ?_
        rotate_left
        · (intro wq hSw; (try dsimp only at hSw); go_simp; try (with_reducible rfl))
        try simp only [Act.put, List.setIfInBounds_toArray, List.set_cons_zero, List.set_cons_succ]
        refine wpAnyH_take (i := 25) (oi := { dst := some 52, op := Go.Op.load 3 (Go.Operand.tmp 51), type := 3, pos := "screeref15.go:187", after := #[{ on := 24, ground := Go.Ground.data }], guard := none }) rfl (by kernel_rfl) (by kernel_rfl) (by kernel_rfl) (fun _ _ _ h => h) (yl_int (k := 16) (v := c 16) (by rfl) _ (by rfl) (by rfl) (fun V h => h.1.cell 16 rfl)) hHeld ?_
        try simp only [Act.put, List.setIfInBounds_toArray, List.set_cons_zero, List.set_cons_succ]
        refine wpAnyH_take (i := 26) (oi := { dst := some 53, op := Go.Op.binOp Go.BinOp.quo 3 (Go.Operand.tmp 50) (Go.Operand.tmp 52) 3, type := 3, pos := "screeref15.go:187", after := #[{ on := 23, ground := Go.Ground.data }, { on := 25, ground := Go.Ground.data }], guard := none }) (v := ?_) rfl (by kernel_rfl) (by kernel_rfl) (by kernel_rfl) (fun _ _ _ h => h) (Or.inl ⟨by rfl, ?_⟩) hHeld ?_
        rotate_left
        · (intro wq hSw; (try dsimp only at hSw); go_simp; try (with_reducible rfl))
        try simp only [Act.put, List.setIfInBounds_toArray, List.set_cons_zero, List.set_cons_succ]
        refine wpAnyH_take (i := 27) (oi := { dst := some 54, op := Go.Op.fieldAddr 23 (Go.Operand.tmp 2) 8, type := 0, pos := "screeref15.go:187", after := #[], guard := none }) (v := ?_) rfl (by kernel_rfl) (by kernel_rfl) (by kernel_rfl) (fun _ _ _ h => h) (Or.inl ⟨by rfl, ?_⟩) hHeld ?_
        rotate_left
        · (intro wq hSw; (try dsimp only at hSw); go_simp; try (with_reducible rfl))
        try simp only [Act.put, List.setIfInBounds_toArray, List.set_cons_zero, List.set_cons_succ]
        refine wpAnyH_take (i := 28) (oi := { dst := some 55, op := Go.Op.load 3 (Go.Operand.tmp 54), type := 3, pos := "screeref15.go:187", after := #[{ on := 27, ground := Go.Ground.data }], guard := none }) rfl (by kernel_rfl) (by kernel_rfl) (by kernel_rfl) (fun _ _ _ h => h) (yl_int (k := 8) (v := c 8) (by rfl) _ (by rfl) (by rfl) (fun V h => h.1.cell 8 rfl)) hHeld ?_
        try simp only [Act.put, List.setIfInBounds_toArray, List.set_cons_zero, List.set_cons_succ]
        refine wpAnyH_ready (rs := [2]) (by kernel_rfl) (by simp) ?_
        refine AllReadyH.cons (o := { dst := some 29, op := Go.Op.call { callee := Go.Callee.value (Go.Operand.func 31), args := #[Go.Operand.tmp 27, Go.Operand.tmp 28], argTypes := #[23, 3] }, type := 3, pos := "screeref15.go:187", after := #[{ on := 0, ground := Go.Ground.data }, { on := 1, ground := Go.Ground.data }], guard := none }) rfl (fun K hK => ?_) AllReadyH.nil
        go_simp
        refine (hB1 _).mono ?_
        rintro e w9 ⟨rfl, hb9⟩
        try dsimp only
        refine hK.out _ _ ?_ (fun hHeld => ?_)
        · first | exact Sf.mk hF hz ((Sf.below hHeld).trans (hb9.mono (Sf.below hHeld).size)) | exact Sf.mk hF hz (((Sf.below hHeld).alloc (Sf.below hHeld).size _).trans (hb9.mono (by have := (Sf.below hHeld).size; simp; omega)))
        clear hK K
        try simp only [Act.put, List.setIfInBounds_toArray, List.set_cons_zero, List.set_cons_succ]
        refine wpAnyH_ready (rs := [8]) (by kernel_rfl) (by simp) ?_
        refine AllReadyH.cons (o := { dst := some 35, op := Go.Op.call { callee := Go.Callee.value (Go.Operand.func 21), args := #[Go.Operand.tmp 34], argTypes := #[23] }, type := 3, pos := "screeref15.go:187", after := #[{ on := 7, ground := Go.Ground.data }, { on := 2, ground := Go.Ground.chain }], guard := none }) rfl (fun K hK => ?_) AllReadyH.nil
        go_simp
        refine (rmemCapY c HC.out hb _).mono ?_
        rintro e w9 ⟨rfl, hb9⟩
        try dsimp only
        refine hK.out _ _ ?_ (fun hHeld => ?_)
        · first | exact Sf.mk hF hz ((Sf.below hHeld).trans (hb9.mono (Sf.below hHeld).size)) | exact Sf.mk hF hz (((Sf.below hHeld).alloc (Sf.below hHeld).size _).trans (hb9.mono (by have := (Sf.below hHeld).size; simp; omega)))
        clear hK K
        try simp only [Act.put, List.setIfInBounds_toArray, List.set_cons_zero, List.set_cons_succ]
        refine wpAnyH_ready (rs := [9]) (by kernel_rfl) (by simp) ?_
        refine AllReadyH.cons (o := { dst := some 36, op := Go.Op.call { callee := Go.Callee.value (Go.Operand.func 27), args := #[Go.Operand.tmp 33, Go.Operand.tmp 35], argTypes := #[23, 3] }, type := 3, pos := "screeref15.go:187", after := #[{ on := 6, ground := Go.Ground.data }, { on := 8, ground := Go.Ground.data }, { on := 8, ground := Go.Ground.chain }], guard := none }) rfl (fun K hK => ?_) AllReadyH.nil
        go_simp
        refine (rtfY c HC.out hb _ (pmem_nn HR.out) (sadd_r _ _) _).mono ?_
        rintro e w9 ⟨rfl, hb9⟩
        try dsimp only
        refine hK.out _ _ ?_ (fun hHeld => ?_)
        · first | exact Sf.mk hF hz ((Sf.below hHeld).trans (hb9.mono (Sf.below hHeld).size)) | exact Sf.mk hF hz (((Sf.below hHeld).alloc (Sf.below hHeld).size _).trans (hb9.mono (by have := (Sf.below hHeld).size; simp; omega)))
        clear hK K
        try simp only [Act.put, List.setIfInBounds_toArray, List.set_cons_zero, List.set_cons_succ]
        refine wpAnyH_ready (rs := [11]) (by kernel_rfl) (by simp) ?_
        refine AllReadyH.cons (o := { dst := some 38, op := Go.Op.buildSlice 47 3 #[(0, Go.Operand.tmp 36), (1, Go.Operand.tmp 37), (2, Go.Operand.const (Go.Value.int Go.IntKind.i64 8))], type := 47, pos := "screeref15.go:187", after := #[{ on := 9, ground := Go.Ground.data }, { on := 10, ground := Go.Ground.data }], guard := none }) rfl (fun K hK => ?_) AllReadyH.nil
        go_simp
        refine hK.out _ _ ?_ (fun hHeld => ?_)
        · exact Sf.mk hF hz ((Sf.below hHeld).alloc (Sf.below hHeld).size _)
        clear hK K
        try simp only [Act.put, List.setIfInBounds_toArray, List.set_cons_zero, List.set_cons_succ]
        refine wpAnyH_ready (rs := [12]) (by kernel_rfl) (by simp) ?_
        refine AllReadyH.cons (o := { dst := some 39, op := Go.Op.call { callee := Go.Callee.value (Go.Operand.func 65), args := #[Go.Operand.tmp 38], argTypes := #[47] }, type := 3, pos := "screeref15.go:187", after := #[{ on := 11, ground := Go.Ground.data }, { on := 9, ground := Go.Ground.chain }], guard := none }) rfl (fun K hK => ?_) AllReadyH.nil
        go_simp
        first | (refine (rsumD_any _ _ _ _ (by rfl) (by rfl) (by repeat (first | exact inil | refine icons (by first | exact HC.out _ | exact sadd_r _ _ | exact smul_r _ _ | exact ssum_r _ | exact plsum_r | exact pd_r _ _ | exact HX.out | (have hq1 := HD.out; unfold R64; omega)) ?_))).mono ?_; rintro e w9 ⟨rfl, hb9⟩) | (refine (rsumN_any _ _ _ _ (by rfl) (by rfl) (by repeat (first | exact inil | refine icons (by first | exact HC.out _ | exact sadd_r _ _ | exact smul_r _ _ | exact ssum_r _ | exact plsum_r | exact pd_r _ _ | exact HX.out | (have hq1 := HD.out; unfold R64; omega)) ?_))).mono ?_; rintro e w9 ⟨rfl, hb9⟩)
        try dsimp only
        refine hK.out _ _ ?_ (fun hHeld => ?_)
        · first | exact Sf.mk hF hz ((Sf.below hHeld).trans (hb9.mono (Sf.below hHeld).size)) | exact Sf.mk hF hz (((Sf.below hHeld).alloc (Sf.below hHeld).size _).trans (hb9.mono (by have := (Sf.below hHeld).size; simp; omega)))
        clear hK K
        try simp only [Act.put, List.setIfInBounds_toArray, List.set_cons_zero, List.set_cons_succ]
        refine wpAnyH_ready (rs := [13]) (by kernel_rfl) (by simp) ?_
        refine AllReadyH.cons (o := { dst := some 40, op := Go.Op.call { callee := Go.Callee.value (Go.Operand.func 15), args := #[Go.Operand.tmp 32, Go.Operand.tmp 39], argTypes := #[3, 3] }, type := 3, pos := "screeref15.go:187", after := #[{ on := 5, ground := Go.Ground.data }, { on := 12, ground := Go.Ground.data }, { on := 12, ground := Go.Ground.chain }], guard := none }) rfl (fun K hK => ?_) AllReadyH.nil
        go_simp
        refine (rmulB _ _ (by first | exact HC.out _ | exact sadd_r _ _ | exact smul_r _ _ | exact ssum_r _ | exact plsum_r | exact pd_r _ _ | exact HX.out | (have hq1 := HD.out; unfold R64; omega)) (by first | exact HC.out _ | exact sadd_r _ _ | exact smul_r _ _ | exact ssum_r _ | exact plsum_r | exact pd_r _ _ | exact HX.out | (have hq1 := HD.out; unfold R64; omega)) _).mono ?_
        rintro e w9 ⟨rfl, hb9⟩
        try dsimp only
        refine hK.out _ _ ?_ (fun hHeld => ?_)
        · first | exact Sf.mk hF hz ((Sf.below hHeld).trans (hb9.mono (Sf.below hHeld).size)) | exact Sf.mk hF hz (((Sf.below hHeld).alloc (Sf.below hHeld).size _).trans (hb9.mono (by have := (Sf.below hHeld).size; simp; omega)))
        clear hK K
        try simp only [Act.put, List.setIfInBounds_toArray, List.set_cons_zero, List.set_cons_succ]
        refine wpAnyH_ready (rs := [17]) (by kernel_rfl) (by simp) ?_
        refine AllReadyH.cons (o := { dst := some 44, op := Go.Op.call { callee := Go.Callee.value (Go.Operand.func 15), args := #[Go.Operand.tmp 42, Go.Operand.tmp 43], argTypes := #[3, 3] }, type := 3, pos := "screeref15.go:187", after := #[{ on := 15, ground := Go.Ground.data }, { on := 16, ground := Go.Ground.data }, { on := 13, ground := Go.Ground.chain }], guard := none }) rfl (fun K hK => ?_) AllReadyH.nil
        go_simp
        refine (rmulB _ _ (by first | exact HC.out _ | exact sadd_r _ _ | exact smul_r _ _ | exact ssum_r _ | exact plsum_r | exact pd_r _ _ | exact HX.out | (have hq1 := HD.out; unfold R64; omega)) (by first | exact HC.out _ | exact sadd_r _ _ | exact smul_r _ _ | exact ssum_r _ | exact plsum_r | exact pd_r _ _ | exact HX.out | (have hq1 := HD.out; unfold R64; omega)) _).mono ?_
        rintro e w9 ⟨rfl, hb9⟩
        try dsimp only
        refine hK.out _ _ ?_ (fun hHeld => ?_)
        · first | exact Sf.mk hF hz ((Sf.below hHeld).trans (hb9.mono (Sf.below hHeld).size)) | exact Sf.mk hF hz (((Sf.below hHeld).alloc (Sf.below hHeld).size _).trans (hb9.mono (by have := (Sf.below hHeld).size; simp; omega)))
        clear hK K
        try simp only [Act.put, List.setIfInBounds_toArray, List.set_cons_zero, List.set_cons_succ]
        refine wpAnyH_take (i := 18) (oi := { dst := some 45, op := Go.Op.binOp Go.BinOp.quo 3 (Go.Operand.tmp 44) (Go.Operand.const (Go.Value.int Go.IntKind.i64 450)) 3, type := 3, pos := "screeref15.go:187", after := #[{ on := 17, ground := Go.Ground.data }], guard := none }) (v := ?_) rfl (by kernel_rfl) (by kernel_rfl) (by kernel_rfl) (fun _ _ _ h => h) (Or.inl ⟨by rfl, ?_⟩) hHeld ?_
        rotate_left
        · (intro wq hSw; (try dsimp only at hSw); go_simp; try (with_reducible rfl))
        try simp only [Act.put, List.setIfInBounds_toArray, List.set_cons_zero, List.set_cons_succ]
        refine wpAnyH_ready (rs := [19]) (by kernel_rfl) (by simp) ?_
        refine AllReadyH.cons (o := { dst := some 46, op := Go.Op.call { callee := Go.Callee.value (Go.Operand.func 13), args := #[Go.Operand.tmp 45, Go.Operand.const (Go.Value.int Go.IntKind.i64 2)], argTypes := #[3, 3] }, type := 3, pos := "screeref15.go:187", after := #[{ on := 18, ground := Go.Ground.data }, { on := 17, ground := Go.Ground.chain }], guard := none }) rfl (fun K hK => ?_) AllReadyH.nil
        go_simp
        refine (raddB _ _ (by first | exact HC.out _ | exact sadd_r _ _ | exact smul_r _ _ | exact ssum_r _ | exact plsum_r | exact pd_r _ _ | exact HX.out | (have hq1 := HD.out; unfold R64; omega)) (by first | exact HC.out _ | exact sadd_r _ _ | exact smul_r _ _ | exact ssum_r _ | exact plsum_r | exact pd_r _ _ | exact HX.out | (have hq1 := HD.out; unfold R64; omega)) _).mono ?_
        rintro e w9 ⟨rfl, hb9⟩
        try dsimp only
        refine hK.out _ _ ?_ (fun hHeld => ?_)
        · first | exact Sf.mk hF hz ((Sf.below hHeld).trans (hb9.mono (Sf.below hHeld).size)) | exact Sf.mk hF hz (((Sf.below hHeld).alloc (Sf.below hHeld).size _).trans (hb9.mono (by have := (Sf.below hHeld).size; simp; omega)))
        clear hK K
        try simp only [Act.put, List.setIfInBounds_toArray, List.set_cons_zero, List.set_cons_succ]
        refine wpAnyH_ready (rs := [21]) (by kernel_rfl) (by simp) ?_
        refine AllReadyH.cons (o := { dst := some 48, op := Go.Op.call { callee := Go.Callee.value (Go.Operand.func 13), args := #[Go.Operand.tmp 47, Go.Operand.const (Go.Value.int Go.IntKind.i64 2)], argTypes := #[3, 3] }, type := 3, pos := "screeref15.go:187", after := #[{ on := 20, ground := Go.Ground.data }, { on := 19, ground := Go.Ground.chain }], guard := none }) rfl (fun K hK => ?_) AllReadyH.nil
        go_simp
        refine (raddB _ _ (by first | exact HC.out _ | exact sadd_r _ _ | exact smul_r _ _ | exact ssum_r _ | exact plsum_r | exact pd_r _ _ | exact HX.out | (have hq1 := HD.out; unfold R64; omega)) (by first | exact HC.out _ | exact sadd_r _ _ | exact smul_r _ _ | exact ssum_r _ | exact plsum_r | exact pd_r _ _ | exact HX.out | (have hq1 := HD.out; unfold R64; omega)) _).mono ?_
        rintro e w9 ⟨rfl, hb9⟩
        try dsimp only
        refine hK.out _ _ ?_ (fun hHeld => ?_)
        · first | exact Sf.mk hF hz ((Sf.below hHeld).trans (hb9.mono (Sf.below hHeld).size)) | exact Sf.mk hF hz (((Sf.below hHeld).alloc (Sf.below hHeld).size _).trans (hb9.mono (by have := (Sf.below hHeld).size; simp; omega)))
        clear hK K
        try simp only [Act.put, List.setIfInBounds_toArray, List.set_cons_zero, List.set_cons_succ]
        refine wpAnyH_ready (rs := [22]) (by kernel_rfl) (by simp) ?_
        refine AllReadyH.cons (o := { dst := some 49, op := Go.Op.call { callee := Go.Callee.value (Go.Operand.func 15), args := #[Go.Operand.tmp 46, Go.Operand.tmp 48], argTypes := #[3, 3] }, type := 3, pos := "screeref15.go:187", after := #[{ on := 19, ground := Go.Ground.data }, { on := 21, ground := Go.Ground.data }, { on := 21, ground := Go.Ground.chain }], guard := none }) rfl (fun K hK => ?_) AllReadyH.nil
        go_simp
        refine (rmulB _ _ (by first | exact HC.out _ | exact sadd_r _ _ | exact smul_r _ _ | exact ssum_r _ | exact plsum_r | exact pd_r _ _ | exact HX.out | (have hq1 := HD.out; unfold R64; omega)) (by first | exact HC.out _ | exact sadd_r _ _ | exact smul_r _ _ | exact ssum_r _ | exact plsum_r | exact pd_r _ _ | exact HX.out | (have hq1 := HD.out; unfold R64; omega)) _).mono ?_
        rintro e w9 ⟨rfl, hb9⟩
        try dsimp only
        refine hK.out _ _ ?_ (fun hHeld => ?_)
        · first | exact Sf.mk hF hz ((Sf.below hHeld).trans (hb9.mono (Sf.below hHeld).size)) | exact Sf.mk hF hz (((Sf.below hHeld).alloc (Sf.below hHeld).size _).trans (hb9.mono (by have := (Sf.below hHeld).size; simp; omega)))
        clear hK K
        try simp only [Act.put, List.setIfInBounds_toArray, List.set_cons_zero, List.set_cons_succ]
        refine wpAnyH_ready (rs := [29]) (by kernel_rfl) (by simp) ?_
        refine AllReadyH.cons (o := { dst := some 56, op := Go.Op.buildSlice 47 6 #[(0, Go.Operand.tmp 29), (1, Go.Operand.tmp 40), (2, Go.Operand.tmp 49), (3, Go.Operand.tmp 53), (4, Go.Operand.tmp 55), (5, Go.Operand.const (Go.Value.int Go.IntKind.i64 40))], type := 47, pos := "screeref15.go:187", after := #[{ on := 2, ground := Go.Ground.data }, { on := 13, ground := Go.Ground.data }, { on := 22, ground := Go.Ground.data }, { on := 26, ground := Go.Ground.data }, { on := 28, ground := Go.Ground.data }], guard := none }) rfl (fun K hK => ?_) AllReadyH.nil
        go_simp
        refine hK.out _ _ ?_ (fun hHeld => ?_)
        · exact Sf.mk hF hz ((Sf.below hHeld).alloc (Sf.below hHeld).size _)
        clear hK K
        try simp only [Act.put, List.setIfInBounds_toArray, List.set_cons_zero, List.set_cons_succ]
        refine wpAnyH_ready (rs := [30]) (by kernel_rfl) (by simp) ?_
        refine AllReadyH.cons (o := { dst := some 57, op := Go.Op.call { callee := Go.Callee.value (Go.Operand.func 65), args := #[Go.Operand.tmp 56], argTypes := #[47] }, type := 3, pos := "screeref15.go:187", after := #[{ on := 29, ground := Go.Ground.data }, { on := 22, ground := Go.Ground.chain }], guard := none }) rfl (fun K hK => ?_) AllReadyH.nil
        go_simp
        first | (refine (rsumD_any _ _ _ _ (by rfl) (by rfl) (by repeat (first | exact inil | refine icons (by first | exact HC.out _ | exact sadd_r _ _ | exact smul_r _ _ | exact ssum_r _ | exact plsum_r | exact pd_r _ _ | exact HX.out | (have hq1 := HD.out; unfold R64; omega)) ?_))).mono ?_; rintro e w9 ⟨rfl, hb9⟩) | (refine (rsumN_any _ _ _ _ (by rfl) (by rfl) (by repeat (first | exact inil | refine icons (by first | exact HC.out _ | exact sadd_r _ _ | exact smul_r _ _ | exact ssum_r _ | exact plsum_r | exact pd_r _ _ | exact HX.out | (have hq1 := HD.out; unfold R64; omega)) ?_))).mono ?_; rintro e w9 ⟨rfl, hb9⟩)
        try dsimp only
        refine hK.out _ _ ?_ (fun hHeld => ?_)
        · first | exact Sf.mk hF hz ((Sf.below hHeld).trans (hb9.mono (Sf.below hHeld).size)) | exact Sf.mk hF hz (((Sf.below hHeld).alloc (Sf.below hHeld).size _).trans (hb9.mono (by have := (Sf.below hHeld).size; simp; omega)))
        clear hK K
        try simp only [Act.put, List.setIfInBounds_toArray, List.set_cons_zero, List.set_cons_succ]
        refine wpAnyH_take (i := 31) (oi := { dst := some 4, op := Go.Op.assign (Go.Operand.tmp 57), type := 3, pos := "screeref15.go:187", after := #[{ on := 30, ground := Go.Ground.data }, { on := 30, ground := Go.Ground.chain }, { on := 0, ground := Go.Ground.phase }, { on := 1, ground := Go.Ground.phase }, { on := 2, ground := Go.Ground.phase }, { on := 3, ground := Go.Ground.phase }, { on := 4, ground := Go.Ground.phase }, { on := 5, ground := Go.Ground.phase }, { on := 6, ground := Go.Ground.phase }, { on := 7, ground := Go.Ground.phase }, { on := 8, ground := Go.Ground.phase }, { on := 9, ground := Go.Ground.phase }, { on := 10, ground := Go.Ground.phase }, { on := 11, ground := Go.Ground.phase }, { on := 12, ground := Go.Ground.phase }, { on := 13, ground := Go.Ground.phase }, { on := 14, ground := Go.Ground.phase }, { on := 15, ground := Go.Ground.phase }, { on := 16, ground := Go.Ground.phase }, { on := 17, ground := Go.Ground.phase }, { on := 18, ground := Go.Ground.phase }, { on := 19, ground := Go.Ground.phase }, { on := 20, ground := Go.Ground.phase }, { on := 21, ground := Go.Ground.phase }, { on := 22, ground := Go.Ground.phase }, { on := 23, ground := Go.Ground.phase }, { on := 24, ground := Go.Ground.phase }, { on := 25, ground := Go.Ground.phase }, { on := 26, ground := Go.Ground.phase }, { on := 27, ground := Go.Ground.phase }, { on := 28, ground := Go.Ground.phase }, { on := 29, ground := Go.Ground.phase }, { on := 30, ground := Go.Ground.phase }], guard := none }) (v := ?_) rfl (by kernel_rfl) (by kernel_rfl) (by kernel_rfl) (fun _ _ _ h => h) (Or.inl ⟨by rfl, ?_⟩) hHeld ?_
        rotate_left
        · (intro wq hSw; (try dsimp only at hSw); go_simp; try (with_reducible rfl))
        try simp only [Act.put, List.setIfInBounds_toArray, List.set_cons_zero, List.set_cons_succ]
        refine wpAnyH_done (by kernel_rfl) ?_ _
        have HBZ := hid (Sf.below hHeld)
        clear hHeld
        go_wp2
        go_ret
        exact ⟨ret_int HE.out.symm, HB.out.trans (HBZ.out.mono HB.out.size)⟩
  · rw [rkN hb]
    have HK : ∀ V, Calls Try.prog 54 #[.agg (cfgA c)] V fun e w' => e = .returned (.bool false) ∧ Below V.heap.size V w' := fun V => by rw [← okB_no hb]; exact right_any c HC.out V
    go_enter Try.func33, Try.ntmps33
    go_wp2_with (first | (refine wpList_cfg (by rfl) _ (by rfl) (by rfl) hL0 ?_) | (go_at_call 54; go_loud (refine (HK _).mono ?_; rintro e w1 ⟨rfl, hb1⟩; have HB1 : Hid (Below w.heap.size w w1) := HB0.out.trans (hb1.mono HB0.out.size); clear hb1)))
    go_ret
    exact ⟨rfl, HB1.out⟩
end Pcm
end Go.Proofs.Ytebfokjgeknciaa
namespace Go.Proofs.Ytebfokjgeknciaa
namespace Pcm
open Go.RowKit Laws Irw
set_option linter.unusedVariables false
set_option linter.unusedSimpArgs false
set_option maxRecDepth 20000

set_option maxHeartbeats 8000000 in
theorem rroom_any (c : Cf) (hc : RC c) (x : Int) (hx : R64 x) (z : Int) (hz9 : R64 z) (w : World) :
    Calls Try.prog 35 #[.agg (cfgA c), .int .i64 x, .int .i64 z] w fun e w' => e = .returned (.int .i64 (rk c (pa c (max x 0) (max z 0)))) ∧ Below w.heap.size w w' := by
  have HC := hid hc
  clear hc
  have hL0 := lc_new w c 23
  have hz0 : w.heap.size < (w.alloc (.cells (cfgA c) 23)).heap.size := by simp
  have HB0 : Hid (Below w.heap.size w (w.alloc (.cells (cfgA c) 23))) := (Below.refl _ _).alloc (Nat.le_refl _) _
  by_cases hb : bad c = none
  · rw [rkY hb]
    have HR := hid (right_of hb)
    have HK : ∀ V, Calls Try.prog 54 #[.agg (cfgA c)] V fun e w' => e = .returned (.bool true) ∧ Below V.heap.size V w' := fun V => by rw [← okB_yes hb]; exact right_any c HC.out V
    have HX := hid (And.intro (max_rr hx) (max_rr hz9))
    obtain ⟨a1, a2⟩ := HR.out.o.h4
    have q1 := wadd (a := c 4) (k := 4) (by unfold R64; omega)
    have HE := hid (a_ref HR.out (max x 0) (max z 0))
    have HD := hid (And.intro a1 (And.intro a2 HX.out))
    unfold R64 at HD
    clear hx hz9
    go_enter Try.func35, Try.ntmps35
    go_wp2_with (first | (refine wpList_cfg (by rfl) _ (by rfl) (by rfl) hL0 ?_) | (go_at_call 54; go_loud (refine (HK _).mono ?_; rintro e w1 ⟨rfl, hb1⟩; have HB1 : Hid (Below w.heap.size w w1) := HB0.out.trans (hb1.mono HB0.out.size); have hL1 := hL0.keep hz0 hb1; have hz1 : w.heap.size < w1.heap.size := Nat.lt_of_lt_of_le hz0 hb1.size; clear hb1)))
    have hF := hL1
    have hz := hz1
    generalize w1 = W at *
    refine wp_region_held_drew (S := (Sf W w.heap.size c)) (by kernel_rfl) ?_ (fun hHeld => ?_)
    · exact Sf.mk hF hz (Below.refl _ _).drew
    refine wpAnyH_take (i := 0) (oi := { dst := some 10, op := Go.Op.move (Go.Operand.tmp 1), type := 3, pos := "screeref15.go:195", after := #[], guard := none }) (v := ?_) rfl (by kernel_rfl) (by kernel_rfl) (by kernel_rfl) (fun _ _ _ h => h) (Or.inl ⟨by rfl, ?_⟩) hHeld ?_
    rotate_left
    · (intro wq hSw; (try dsimp only at hSw); go_simp; try (with_reducible rfl))
    try simp only [Act.put, List.setIfInBounds_toArray, List.set_cons_zero, List.set_cons_succ]
    refine wpAnyH_take (i := 3) (oi := { dst := some 13, op := Go.Op.move (Go.Operand.tmp 2), type := 3, pos := "screeref15.go:195", after := #[], guard := none }) (v := ?_) rfl (by kernel_rfl) (by kernel_rfl) (by kernel_rfl) (fun _ _ _ h => h) (Or.inl ⟨by rfl, ?_⟩) hHeld ?_
    rotate_left
    · (intro wq hSw; (try dsimp only at hSw); go_simp; try (with_reducible rfl))
    try simp only [Act.put, List.setIfInBounds_toArray, List.set_cons_zero, List.set_cons_succ]
    refine wpAnyH_take (i := 5) (oi := { dst := some 15, op := Go.Op.load 23 (Go.Operand.tmp 3), type := 23, pos := "screeref15.go:195", after := #[], guard := none }) rfl (by kernel_rfl) (by kernel_rfl) (by kernel_rfl) (fun _ _ _ h => h) (yl_cfg (by rfl) _ (by rfl) (by rfl) (fun V h => h.1)) hHeld ?_
    try simp only [Act.put, List.setIfInBounds_toArray, List.set_cons_zero, List.set_cons_succ]
    refine wpAnyH_take (i := 7) (oi := { dst := some 17, op := Go.Op.load 23 (Go.Operand.tmp 3), type := 23, pos := "screeref15.go:195", after := #[], guard := none }) rfl (by kernel_rfl) (by kernel_rfl) (by kernel_rfl) (fun _ _ _ h => h) (yl_cfg (by rfl) _ (by rfl) (by rfl) (fun V h => h.1)) hHeld ?_
    try simp only [Act.put, List.setIfInBounds_toArray, List.set_cons_zero, List.set_cons_succ]
    refine wpAnyH_take (i := 11) (oi := { dst := some 21, op := Go.Op.fieldAddr 23 (Go.Operand.tmp 3) 4, type := 0, pos := "screeref15.go:195", after := #[], guard := none }) (v := ?_) rfl (by kernel_rfl) (by kernel_rfl) (by kernel_rfl) (fun _ _ _ h => h) (Or.inl ⟨by rfl, ?_⟩) hHeld ?_
    rotate_left
    · (intro wq hSw; (try dsimp only at hSw); go_simp; try (with_reducible rfl))
    try simp only [Act.put, List.setIfInBounds_toArray, List.set_cons_zero, List.set_cons_succ]
    refine wpAnyH_take (i := 12) (oi := { dst := some 22, op := Go.Op.load 3 (Go.Operand.tmp 21), type := 3, pos := "screeref15.go:195", after := #[{ on := 11, ground := Go.Ground.data }], guard := none }) rfl (by kernel_rfl) (by kernel_rfl) (by kernel_rfl) (fun _ _ _ h => h) (yl_int (k := 4) (v := c 4) (by rfl) _ (by rfl) (by rfl) (fun V h => h.1.cell 4 rfl)) hHeld ?_
    try simp only [Act.put, List.setIfInBounds_toArray, List.set_cons_zero, List.set_cons_succ]
    refine wpAnyH_take (i := 13) (oi := { dst := some 23, op := Go.Op.binOp Go.BinOp.add 3 (Go.Operand.tmp 22) (Go.Operand.const (Go.Value.int Go.IntKind.i64 4)) 3, type := 3, pos := "screeref15.go:195", after := #[{ on := 12, ground := Go.Ground.data }], guard := none }) (v := ?_) rfl (by kernel_rfl) (by kernel_rfl) (by kernel_rfl) (fun _ _ _ h => h) (Or.inl ⟨by rfl, ?_⟩) hHeld ?_
    rotate_left
    · (intro wq hSw; (try dsimp only at hSw); go_simp; try (with_reducible rfl))
    try simp only [Act.put, List.setIfInBounds_toArray, List.set_cons_zero, List.set_cons_succ]
    refine wpAnyH_take (i := 14) (oi := { dst := some 24, op := Go.Op.load 23 (Go.Operand.tmp 3), type := 23, pos := "screeref15.go:195", after := #[], guard := none }) rfl (by kernel_rfl) (by kernel_rfl) (by kernel_rfl) (fun _ _ _ h => h) (yl_cfg (by rfl) _ (by rfl) (by rfl) (fun V h => h.1)) hHeld ?_
    try simp only [Act.put, List.setIfInBounds_toArray, List.set_cons_zero, List.set_cons_succ]
    refine wpAnyH_take (i := 17) (oi := { dst := some 27, op := Go.Op.fieldAddr 23 (Go.Operand.tmp 3) 26, type := 0, pos := "screeref15.go:195", after := #[], guard := none }) (v := ?_) rfl (by kernel_rfl) (by kernel_rfl) (by kernel_rfl) (fun _ _ _ h => h) (Or.inl ⟨by rfl, ?_⟩) hHeld ?_
    rotate_left
    · (intro wq hSw; (try dsimp only at hSw); go_simp; try (with_reducible rfl))
    try simp only [Act.put, List.setIfInBounds_toArray, List.set_cons_zero, List.set_cons_succ]
    refine wpAnyH_take (i := 18) (oi := { dst := some 28, op := Go.Op.load 3 (Go.Operand.tmp 27), type := 3, pos := "screeref15.go:195", after := #[{ on := 17, ground := Go.Ground.data }], guard := none }) rfl (by kernel_rfl) (by kernel_rfl) (by kernel_rfl) (fun _ _ _ h => h) (yl_int (k := 26) (v := c 26) (by rfl) _ (by rfl) (by rfl) (fun V h => h.1.cell 26 rfl)) hHeld ?_
    try simp only [Act.put, List.setIfInBounds_toArray, List.set_cons_zero, List.set_cons_succ]
    refine wpAnyH_ready (rs := [1]) (by kernel_rfl) (by simp) ?_
    refine AllReadyH.cons (o := { dst := some 11, op := Go.Op.call { callee := Go.Callee.value (Go.Operand.func 62), args := #[Go.Operand.tmp 10], argTypes := #[3] }, type := 3, pos := "screeref15.go:195", after := #[{ on := 0, ground := Go.Ground.data }], guard := none }) rfl (fun K hK => ?_) AllReadyH.nil
    go_simp
    refine (aboveB _ _).mono ?_
    rintro e w9 ⟨rfl, hb9⟩
    try dsimp only
    refine hK.out _ _ ?_ (fun hHeld => ?_)
    · first | exact Sf.mk hF hz ((Sf.below hHeld).trans (hb9.mono (Sf.below hHeld).size)) | exact Sf.mk hF hz (((Sf.below hHeld).alloc (Sf.below hHeld).size _).trans (hb9.mono (by have := (Sf.below hHeld).size; simp; omega)))
    clear hK K
    try simp only [Act.put, List.setIfInBounds_toArray, List.set_cons_zero, List.set_cons_succ]
    refine wpAnyH_ready (rs := [2]) (by kernel_rfl) (by simp) ?_
    refine AllReadyH.cons (o := { dst := some 12, op := Go.Op.call { callee := Go.Callee.value (Go.Operand.func 15), args := #[Go.Operand.const (Go.Value.int Go.IntKind.i64 4), Go.Operand.tmp 11], argTypes := #[3, 3] }, type := 3, pos := "screeref15.go:195", after := #[{ on := 1, ground := Go.Ground.data }, { on := 1, ground := Go.Ground.chain }], guard := none }) rfl (fun K hK => ?_) AllReadyH.nil
    go_simp
    refine (rmulB _ _ (by first | exact HC.out _ | exact sadd_r _ _ | exact smul_r _ _ | exact ssum_r _ | exact plsum_r | exact pd_r _ _ | exact HX.out.1 | exact HX.out.2 | (have hq1 := HD.out; unfold R64; omega)) (by first | exact HC.out _ | exact sadd_r _ _ | exact smul_r _ _ | exact ssum_r _ | exact plsum_r | exact pd_r _ _ | exact HX.out.1 | exact HX.out.2 | (have hq1 := HD.out; unfold R64; omega)) _).mono ?_
    rintro e w9 ⟨rfl, hb9⟩
    try dsimp only
    refine hK.out _ _ ?_ (fun hHeld => ?_)
    · first | exact Sf.mk hF hz ((Sf.below hHeld).trans (hb9.mono (Sf.below hHeld).size)) | exact Sf.mk hF hz (((Sf.below hHeld).alloc (Sf.below hHeld).size _).trans (hb9.mono (by have := (Sf.below hHeld).size; simp; omega)))
    clear hK K
    try simp only [Act.put, List.setIfInBounds_toArray, List.set_cons_zero, List.set_cons_succ]
    refine wpAnyH_ready (rs := [4]) (by kernel_rfl) (by simp) ?_
    refine AllReadyH.cons (o := { dst := some 14, op := Go.Op.call { callee := Go.Callee.value (Go.Operand.func 62), args := #[Go.Operand.tmp 13], argTypes := #[3] }, type := 3, pos := "screeref15.go:195", after := #[{ on := 3, ground := Go.Ground.data }, { on := 2, ground := Go.Ground.chain }], guard := none }) rfl (fun K hK => ?_) AllReadyH.nil
    go_simp
    refine (aboveB _ _).mono ?_
    rintro e w9 ⟨rfl, hb9⟩
    try dsimp only
    refine hK.out _ _ ?_ (fun hHeld => ?_)
    · first | exact Sf.mk hF hz ((Sf.below hHeld).trans (hb9.mono (Sf.below hHeld).size)) | exact Sf.mk hF hz (((Sf.below hHeld).alloc (Sf.below hHeld).size _).trans (hb9.mono (by have := (Sf.below hHeld).size; simp; omega)))
    clear hK K
    try simp only [Act.put, List.setIfInBounds_toArray, List.set_cons_zero, List.set_cons_succ]
    refine wpAnyH_ready (rs := [6]) (by kernel_rfl) (by simp) ?_
    refine AllReadyH.cons (o := { dst := some 16, op := Go.Op.call { callee := Go.Callee.value (Go.Operand.func 19), args := #[Go.Operand.tmp 15], argTypes := #[23] }, type := 3, pos := "screeref15.go:195", after := #[{ on := 5, ground := Go.Ground.data }, { on := 4, ground := Go.Ground.chain }], guard := none }) rfl (fun K hK => ?_) AllReadyH.nil
    go_simp
    refine (rlimitSumY c HC.out hb _).mono ?_
    rintro e w9 ⟨rfl, hb9⟩
    try dsimp only
    refine hK.out _ _ ?_ (fun hHeld => ?_)
    · first | exact Sf.mk hF hz ((Sf.below hHeld).trans (hb9.mono (Sf.below hHeld).size)) | exact Sf.mk hF hz (((Sf.below hHeld).alloc (Sf.below hHeld).size _).trans (hb9.mono (by have := (Sf.below hHeld).size; simp; omega)))
    clear hK K
    try simp only [Act.put, List.setIfInBounds_toArray, List.set_cons_zero, List.set_cons_succ]
    refine wpAnyH_ready (rs := [8]) (by kernel_rfl) (by simp) ?_
    refine AllReadyH.cons (o := { dst := some 18, op := Go.Op.call { callee := Go.Callee.value (Go.Operand.func 25), args := #[Go.Operand.tmp 17], argTypes := #[23] }, type := 3, pos := "screeref15.go:195", after := #[{ on := 7, ground := Go.Ground.data }, { on := 6, ground := Go.Ground.chain }], guard := none }) rfl (fun K hK => ?_) AllReadyH.nil
    go_simp
    refine (rdebtCapY c HC.out hb _).mono ?_
    rintro e w9 ⟨rfl, hb9⟩
    try dsimp only
    refine hK.out _ _ ?_ (fun hHeld => ?_)
    · first | exact Sf.mk hF hz ((Sf.below hHeld).trans (hb9.mono (Sf.below hHeld).size)) | exact Sf.mk hF hz (((Sf.below hHeld).alloc (Sf.below hHeld).size _).trans (hb9.mono (by have := (Sf.below hHeld).size; simp; omega)))
    clear hK K
    try simp only [Act.put, List.setIfInBounds_toArray, List.set_cons_zero, List.set_cons_succ]
    refine wpAnyH_ready (rs := [9]) (by kernel_rfl) (by simp) ?_
    refine AllReadyH.cons (o := { dst := some 19, op := Go.Op.call { callee := Go.Callee.value (Go.Operand.func 13), args := #[Go.Operand.tmp 16, Go.Operand.tmp 18], argTypes := #[3, 3] }, type := 3, pos := "screeref15.go:195", after := #[{ on := 6, ground := Go.Ground.data }, { on := 8, ground := Go.Ground.data }, { on := 8, ground := Go.Ground.chain }], guard := none }) rfl (fun K hK => ?_) AllReadyH.nil
    go_simp
    refine (raddB _ _ (by first | exact HC.out _ | exact sadd_r _ _ | exact smul_r _ _ | exact ssum_r _ | exact plsum_r | exact pd_r _ _ | exact HX.out.1 | exact HX.out.2 | (have hq1 := HD.out; unfold R64; omega)) (by first | exact HC.out _ | exact sadd_r _ _ | exact smul_r _ _ | exact ssum_r _ | exact plsum_r | exact pd_r _ _ | exact HX.out.1 | exact HX.out.2 | (have hq1 := HD.out; unfold R64; omega)) _).mono ?_
    rintro e w9 ⟨rfl, hb9⟩
    try dsimp only
    refine hK.out _ _ ?_ (fun hHeld => ?_)
    · first | exact Sf.mk hF hz ((Sf.below hHeld).trans (hb9.mono (Sf.below hHeld).size)) | exact Sf.mk hF hz (((Sf.below hHeld).alloc (Sf.below hHeld).size _).trans (hb9.mono (by have := (Sf.below hHeld).size; simp; omega)))
    clear hK K
    try simp only [Act.put, List.setIfInBounds_toArray, List.set_cons_zero, List.set_cons_succ]
    refine wpAnyH_ready (rs := [10]) (by kernel_rfl) (by simp) ?_
    refine AllReadyH.cons (o := { dst := some 20, op := Go.Op.call { callee := Go.Callee.value (Go.Operand.func 15), args := #[Go.Operand.const (Go.Value.int Go.IntKind.i64 16), Go.Operand.tmp 19], argTypes := #[3, 3] }, type := 3, pos := "screeref15.go:195", after := #[{ on := 9, ground := Go.Ground.data }, { on := 9, ground := Go.Ground.chain }], guard := none }) rfl (fun K hK => ?_) AllReadyH.nil
    go_simp
    refine (rmulB _ _ (by first | exact HC.out _ | exact sadd_r _ _ | exact smul_r _ _ | exact ssum_r _ | exact plsum_r | exact pd_r _ _ | exact HX.out.1 | exact HX.out.2 | (have hq1 := HD.out; unfold R64; omega)) (by first | exact HC.out _ | exact sadd_r _ _ | exact smul_r _ _ | exact ssum_r _ | exact plsum_r | exact pd_r _ _ | exact HX.out.1 | exact HX.out.2 | (have hq1 := HD.out; unfold R64; omega)) _).mono ?_
    rintro e w9 ⟨rfl, hb9⟩
    try dsimp only
    refine hK.out _ _ ?_ (fun hHeld => ?_)
    · first | exact Sf.mk hF hz ((Sf.below hHeld).trans (hb9.mono (Sf.below hHeld).size)) | exact Sf.mk hF hz (((Sf.below hHeld).alloc (Sf.below hHeld).size _).trans (hb9.mono (by have := (Sf.below hHeld).size; simp; omega)))
    clear hK K
    try simp only [Act.put, List.setIfInBounds_toArray, List.set_cons_zero, List.set_cons_succ]
    refine wpAnyH_ready (rs := [15]) (by kernel_rfl) (by simp) ?_
    refine AllReadyH.cons (o := { dst := some 25, op := Go.Op.call { callee := Go.Callee.value (Go.Operand.func 21), args := #[Go.Operand.tmp 24], argTypes := #[23] }, type := 3, pos := "screeref15.go:195", after := #[{ on := 14, ground := Go.Ground.data }, { on := 10, ground := Go.Ground.chain }], guard := none }) rfl (fun K hK => ?_) AllReadyH.nil
    go_simp
    refine (rmemCapY c HC.out hb _).mono ?_
    rintro e w9 ⟨rfl, hb9⟩
    try dsimp only
    refine hK.out _ _ ?_ (fun hHeld => ?_)
    · first | exact Sf.mk hF hz ((Sf.below hHeld).trans (hb9.mono (Sf.below hHeld).size)) | exact Sf.mk hF hz (((Sf.below hHeld).alloc (Sf.below hHeld).size _).trans (hb9.mono (by have := (Sf.below hHeld).size; simp; omega)))
    clear hK K
    try simp only [Act.put, List.setIfInBounds_toArray, List.set_cons_zero, List.set_cons_succ]
    refine wpAnyH_ready (rs := [16]) (by kernel_rfl) (by simp) ?_
    refine AllReadyH.cons (o := { dst := some 26, op := Go.Op.call { callee := Go.Callee.value (Go.Operand.func 15), args := #[Go.Operand.tmp 23, Go.Operand.tmp 25], argTypes := #[3, 3] }, type := 3, pos := "screeref15.go:195", after := #[{ on := 13, ground := Go.Ground.data }, { on := 15, ground := Go.Ground.data }, { on := 15, ground := Go.Ground.chain }], guard := none }) rfl (fun K hK => ?_) AllReadyH.nil
    go_simp
    refine (rmulB _ _ (by first | exact HC.out _ | exact sadd_r _ _ | exact smul_r _ _ | exact ssum_r _ | exact plsum_r | exact pd_r _ _ | exact HX.out.1 | exact HX.out.2 | (have hq1 := HD.out; unfold R64; omega)) (by first | exact HC.out _ | exact sadd_r _ _ | exact smul_r _ _ | exact ssum_r _ | exact plsum_r | exact pd_r _ _ | exact HX.out.1 | exact HX.out.2 | (have hq1 := HD.out; unfold R64; omega)) _).mono ?_
    rintro e w9 ⟨rfl, hb9⟩
    try dsimp only
    refine hK.out _ _ ?_ (fun hHeld => ?_)
    · first | exact Sf.mk hF hz ((Sf.below hHeld).trans (hb9.mono (Sf.below hHeld).size)) | exact Sf.mk hF hz (((Sf.below hHeld).alloc (Sf.below hHeld).size _).trans (hb9.mono (by have := (Sf.below hHeld).size; simp; omega)))
    clear hK K
    try simp only [Act.put, List.setIfInBounds_toArray, List.set_cons_zero, List.set_cons_succ]
    refine wpAnyH_ready (rs := [19]) (by kernel_rfl) (by simp) ?_
    refine AllReadyH.cons (o := { dst := some 29, op := Go.Op.call { callee := Go.Callee.value (Go.Operand.func 15), args := #[Go.Operand.const (Go.Value.int Go.IntKind.i64 2), Go.Operand.tmp 28], argTypes := #[3, 3] }, type := 3, pos := "screeref15.go:195", after := #[{ on := 18, ground := Go.Ground.data }, { on := 16, ground := Go.Ground.chain }], guard := none }) rfl (fun K hK => ?_) AllReadyH.nil
    go_simp
    refine (rmulB _ _ (by first | exact HC.out _ | exact sadd_r _ _ | exact smul_r _ _ | exact ssum_r _ | exact plsum_r | exact pd_r _ _ | exact HX.out.1 | exact HX.out.2 | (have hq1 := HD.out; unfold R64; omega)) (by first | exact HC.out _ | exact sadd_r _ _ | exact smul_r _ _ | exact ssum_r _ | exact plsum_r | exact pd_r _ _ | exact HX.out.1 | exact HX.out.2 | (have hq1 := HD.out; unfold R64; omega)) _).mono ?_
    rintro e w9 ⟨rfl, hb9⟩
    try dsimp only
    refine hK.out _ _ ?_ (fun hHeld => ?_)
    · first | exact Sf.mk hF hz ((Sf.below hHeld).trans (hb9.mono (Sf.below hHeld).size)) | exact Sf.mk hF hz (((Sf.below hHeld).alloc (Sf.below hHeld).size _).trans (hb9.mono (by have := (Sf.below hHeld).size; simp; omega)))
    clear hK K
    try simp only [Act.put, List.setIfInBounds_toArray, List.set_cons_zero, List.set_cons_succ]
    refine wpAnyH_ready (rs := [20]) (by kernel_rfl) (by simp) ?_
    refine AllReadyH.cons (o := { dst := some 30, op := Go.Op.buildSlice 47 6 #[(0, Go.Operand.tmp 12), (1, Go.Operand.tmp 14), (2, Go.Operand.tmp 20), (3, Go.Operand.tmp 26), (4, Go.Operand.tmp 29), (5, Go.Operand.const (Go.Value.int Go.IntKind.i64 131072))], type := 47, pos := "screeref15.go:195", after := #[{ on := 2, ground := Go.Ground.data }, { on := 4, ground := Go.Ground.data }, { on := 10, ground := Go.Ground.data }, { on := 16, ground := Go.Ground.data }, { on := 19, ground := Go.Ground.data }], guard := none }) rfl (fun K hK => ?_) AllReadyH.nil
    go_simp
    refine hK.out _ _ ?_ (fun hHeld => ?_)
    · exact Sf.mk hF hz ((Sf.below hHeld).alloc (Sf.below hHeld).size _)
    clear hK K
    try simp only [Act.put, List.setIfInBounds_toArray, List.set_cons_zero, List.set_cons_succ]
    refine wpAnyH_ready (rs := [21]) (by kernel_rfl) (by simp) ?_
    refine AllReadyH.cons (o := { dst := some 31, op := Go.Op.call { callee := Go.Callee.value (Go.Operand.func 65), args := #[Go.Operand.tmp 30], argTypes := #[47] }, type := 3, pos := "screeref15.go:195", after := #[{ on := 20, ground := Go.Ground.data }, { on := 19, ground := Go.Ground.chain }], guard := none }) rfl (fun K hK => ?_) AllReadyH.nil
    go_simp
    first | (refine (rsumD_any _ _ _ _ (by rfl) (by rfl) (by repeat (first | exact inil | refine icons (by first | exact HC.out _ | exact sadd_r _ _ | exact smul_r _ _ | exact ssum_r _ | exact plsum_r | exact pd_r _ _ | exact HX.out.1 | exact HX.out.2 | (have hq1 := HD.out; unfold R64; omega)) ?_))).mono ?_; rintro e w9 ⟨rfl, hb9⟩) | (refine (rsumN_any _ _ _ _ (by rfl) (by rfl) (by repeat (first | exact inil | refine icons (by first | exact HC.out _ | exact sadd_r _ _ | exact smul_r _ _ | exact ssum_r _ | exact plsum_r | exact pd_r _ _ | exact HX.out.1 | exact HX.out.2 | (have hq1 := HD.out; unfold R64; omega)) ?_))).mono ?_; rintro e w9 ⟨rfl, hb9⟩)
    try dsimp only
    refine hK.out _ _ ?_ (fun hHeld => ?_)
    · first | exact Sf.mk hF hz ((Sf.below hHeld).trans (hb9.mono (Sf.below hHeld).size)) | exact Sf.mk hF hz (((Sf.below hHeld).alloc (Sf.below hHeld).size _).trans (hb9.mono (by have := (Sf.below hHeld).size; simp; omega)))
    clear hK K
    try simp only [Act.put, List.setIfInBounds_toArray, List.set_cons_zero, List.set_cons_succ]
    refine wpAnyH_take (i := 22) (oi := { dst := some 6, op := Go.Op.assign (Go.Operand.tmp 31), type := 3, pos := "screeref15.go:195", after := #[{ on := 21, ground := Go.Ground.data }, { on := 21, ground := Go.Ground.chain }, { on := 0, ground := Go.Ground.phase }, { on := 1, ground := Go.Ground.phase }, { on := 2, ground := Go.Ground.phase }, { on := 3, ground := Go.Ground.phase }, { on := 4, ground := Go.Ground.phase }, { on := 5, ground := Go.Ground.phase }, { on := 6, ground := Go.Ground.phase }, { on := 7, ground := Go.Ground.phase }, { on := 8, ground := Go.Ground.phase }, { on := 9, ground := Go.Ground.phase }, { on := 10, ground := Go.Ground.phase }, { on := 11, ground := Go.Ground.phase }, { on := 12, ground := Go.Ground.phase }, { on := 13, ground := Go.Ground.phase }, { on := 14, ground := Go.Ground.phase }, { on := 15, ground := Go.Ground.phase }, { on := 16, ground := Go.Ground.phase }, { on := 17, ground := Go.Ground.phase }, { on := 18, ground := Go.Ground.phase }, { on := 19, ground := Go.Ground.phase }, { on := 20, ground := Go.Ground.phase }, { on := 21, ground := Go.Ground.phase }], guard := none }) (v := ?_) rfl (by kernel_rfl) (by kernel_rfl) (by kernel_rfl) (fun _ _ _ h => h) (Or.inl ⟨by rfl, ?_⟩) hHeld ?_
    rotate_left
    · (intro wq hSw; (try dsimp only at hSw); go_simp; try (with_reducible rfl))
    try simp only [Act.put, List.setIfInBounds_toArray, List.set_cons_zero, List.set_cons_succ]
    refine wpAnyH_done (by kernel_rfl) ?_ _
    have HBZ := hid (Sf.below hHeld)
    clear hHeld
    go_wp2
    go_ret
    exact ⟨ret_int HE.out.symm, HB1.out.trans (HBZ.out.mono HB1.out.size)⟩
  · rw [rkN hb]
    have HK : ∀ V, Calls Try.prog 54 #[.agg (cfgA c)] V fun e w' => e = .returned (.bool false) ∧ Below V.heap.size V w' := fun V => by rw [← okB_no hb]; exact right_any c HC.out V
    go_enter Try.func35, Try.ntmps35
    go_wp2_with (first | (refine wpList_cfg (by rfl) _ (by rfl) (by rfl) hL0 ?_) | (go_at_call 54; go_loud (refine (HK _).mono ?_; rintro e w1 ⟨rfl, hb1⟩; have HB1 : Hid (Below w.heap.size w w1) := HB0.out.trans (hb1.mono HB0.out.size); clear hb1)))
    go_ret
    exact ⟨rfl, HB1.out⟩
end Pcm
end Go.Proofs.Ytebfokjgeknciaa
