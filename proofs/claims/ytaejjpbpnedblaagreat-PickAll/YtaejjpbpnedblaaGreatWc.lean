import Derived.Test.YtaejjpbpnedblaaGreatWb
namespace Go.Proofs.YtaejjpbpnedblaaGreat
namespace Vr
open Go.Shelf Go.RowKit Go.Lib Go.Sort Go.Maps Go.ChangeMaps Go.MapKept Laws Irw Crw
set_option linter.unusedVariables false
set_option linter.unusedSimpArgs false
set_option maxRecDepth 20000
set_option maxHeartbeats 4000000 in
theorem scoreI_any (c : Cf) (vb : Nat) (V : Lv) (i : Nat) (w : World) (h : VAt w vb V) (hw : WeV V) (hc : Cr c V.length) (h1 : 1 ≤ i) (h2 : i < V.length - 1) : Calls Tryz.prog 57 #[.agg (cfgA c), .pointer (some ⟨vb, 0, none⟩), .int .i64 (i : Int)] w fun e w' => e = .returned (.int .i64 (scr c V i)) ∧ RowKit.Below w.heap.size w w' := by
  have hn5 := hc.n5
  have hb0 : RowKit.Below w.heap.size w (w.alloc (Obj.cells (cfgA c) 23)) := (Below.refl _ _).alloc (Nat.le_refl _) _
  have hLc := lc_new w c 23
  have hsw := sumW_bound (hw.lev (i : Int))
  have hlen := h.1.len (i : Int)
  have hlb := lim_bound hc (i - 1) (by omega)
  have HS : Hid (∀ W : World, Calls Tryz.prog 81 #[.int .i64 (sumW (lev V (i : Int))), .int .i64 (lim c (i - 1))] W fun e w' => e = .returned (.int .i64 (scr c V i)) ∧ w' = W) := fun W => by
    have := share_any (sumW (lev V (i : Int))) (lim c (i - 1)) W (by omega) (by omega)
    unfold scr
    rw [if_neg (by omega)]
    exact this
  have q0 : (i : Int) ≠ 0 := by omega
  have HC : Hid (Cr c V.length) := hc
  obtain ⟨W0, hW0⟩ : ∃ X, w.alloc (Obj.cells (cfgA c) 23) = X := ⟨_, rfl⟩
  have HV : Hid (VAt W0 vb V ∧ WeV V) := by rw [← hW0]; exact ⟨h.below hb0, hw⟩
  have HL : Hid (Lc W0 w.heap.size c ∧ RowKit.Below w.heap.size w W0) := by rw [← hW0]; exact ⟨hLc, hb0⟩
  have HZ : Hid (w.heap.size < W0.heap.size) := by rw [← hW0]; show w.heap.size < _; simp
  clear hLc hb0 hsw hlen hlb hc h hw
  go_enter Tryz.func57, Tryz.ntmps57
  go_wp2
  (try rw [hW0])
  clear hW0
  refine wp_region_held_drew (S := (fun X => Lc X w.heap.size c ∧ RowKit.Below W0.heap.size W0 X)) (by kernel_rfl) ?_ (fun hHeld => ?_)
  · exact ⟨HL.out.1.keep HZ.out (Below.refl _ _).drew, (Below.refl _ _).drew⟩
  refine wpAnyH_take (i := 0) (oi := { dst := some 15, op := Go.Op.move (Go.Operand.tmp 1), type := 29, pos := "score.go:58", after := #[], guard := none }) (v := ?_) rfl (by kernel_rfl) (by kernel_rfl) (by kernel_rfl) (fun _ _ _ h => h) (Or.inl ⟨by rfl, ?_⟩) hHeld ?_
  rotate_left
  · (intro wq hSw; (try dsimp only at hSw); go_simp; try (with_reducible rfl))
  try simp only [Act.put, List.setIfInBounds_toArray, List.set_cons_zero, List.set_cons_succ]
  refine wpAnyH_take (i := 1) (oi := { dst := some 16, op := Go.Op.move (Go.Operand.tmp 2), type := 3, pos := "score.go:58", after := #[], guard := none }) (v := ?_) rfl (by kernel_rfl) (by kernel_rfl) (by kernel_rfl) (fun _ _ _ h => h) (Or.inl ⟨by rfl, ?_⟩) hHeld ?_
  rotate_left
  · (intro wq hSw; (try dsimp only at hSw); go_simp; try (with_reducible rfl))
  try simp only [Act.put, List.setIfInBounds_toArray, List.set_cons_zero, List.set_cons_succ]
  refine wpAnyH_take (i := 3) (oi := { dst := some 18, op := Go.Op.load 23 (Go.Operand.tmp 3), type := 23, pos := "score.go:58", after := #[], guard := none }) rfl (by kernel_rfl) (by kernel_rfl) (by kernel_rfl) (fun _ _ _ h => h) (yl_cfg (by rfl) _ (by rfl) (by rfl) (fun V h => h.1)) hHeld ?_
  try simp only [Act.put, List.setIfInBounds_toArray, List.set_cons_zero, List.set_cons_succ]
  refine wpAnyH_take (i := 4) (oi := { dst := some 19, op := Go.Op.move (Go.Operand.tmp 2), type := 3, pos := "score.go:58", after := #[], guard := none }) (v := ?_) rfl (by kernel_rfl) (by kernel_rfl) (by kernel_rfl) (fun _ _ _ h => h) (Or.inl ⟨by rfl, ?_⟩) hHeld ?_
  rotate_left
  · (intro wq hSw; (try dsimp only at hSw); go_simp; try (with_reducible rfl))
  try simp only [Act.put, List.setIfInBounds_toArray, List.set_cons_zero, List.set_cons_succ]
  refine wpAnyH_ready (rs := [2]) (by kernel_rfl) (by simp) ?_
  refine AllReadyH.cons (o := { dst := some 17, op := Go.Op.call { callee := Go.Callee.value (Go.Operand.func 82), args := #[Go.Operand.tmp 15, Go.Operand.tmp 16], argTypes := #[29, 3] }, type := 3, pos := "score.go:58", after := #[{ on := 0, ground := Go.Ground.data }, { on := 1, ground := Go.Ground.data }], guard := none }) rfl (fun K hK => ?_) AllReadyH.nil
  go_simp
  refine (weight_any vb V (i : Int) _ (HV.out.1.below hHeld.2) (HV.out.2.lev _)).mono ?_
  rintro e w9 ⟨rfl, hb9⟩
  try dsimp only
  refine hK.out _ _ ?_ (fun hHeld => ?_)
  · exact ⟨hHeld.1.keep (Nat.lt_of_lt_of_le HZ.out hHeld.2.size) hb9, hHeld.2.trans (hb9.mono hHeld.2.size)⟩
  clear hK K
  try simp only [Act.put, List.setIfInBounds_toArray, List.set_cons_zero, List.set_cons_succ]
  refine wpAnyH_ready (rs := [5]) (by kernel_rfl) (by simp) ?_
  refine AllReadyH.cons (o := { dst := some 20, op := Go.Op.call { callee := Go.Callee.value (Go.Operand.func 83), args := #[Go.Operand.tmp 18, Go.Operand.tmp 19], argTypes := #[23, 3] }, type := 3, pos := "score.go:58", after := #[{ on := 3, ground := Go.Ground.data }, { on := 4, ground := Go.Ground.data }, { on := 2, ground := Go.Ground.chain }], guard := none }) rfl (fun K hK => ?_) AllReadyH.nil
  go_simp
  refine (limit_any c V.length i _ HC.out h1 (by omega)).mono ?_
  rintro e w9 ⟨rfl, hb9⟩
  try dsimp only
  refine hK.out _ _ ?_ (fun hHeld => ?_)
  · exact ⟨hHeld.1.keep (Nat.lt_of_lt_of_le HZ.out hHeld.2.size) hb9, hHeld.2.trans (hb9.mono hHeld.2.size)⟩
  clear hK K
  try simp only [Act.put, List.setIfInBounds_toArray, List.set_cons_zero, List.set_cons_succ]
  refine wpAnyH_ready (rs := [6]) (by kernel_rfl) (by simp) ?_
  refine AllReadyH.cons (o := { dst := some 21, op := Go.Op.call { callee := Go.Callee.value (Go.Operand.func 81), args := #[Go.Operand.tmp 17, Go.Operand.tmp 20], argTypes := #[3, 3] }, type := 3, pos := "score.go:58", after := #[{ on := 2, ground := Go.Ground.data }, { on := 5, ground := Go.Ground.data }, { on := 5, ground := Go.Ground.chain }], guard := none }) rfl (fun K hK => ?_) AllReadyH.nil
  go_simp
  refine (HS.out _).mono ?_
  rintro e w9 ⟨rfl, hw9⟩
  have hw9 := hw9.symm
  subst hw9
  try dsimp only
  refine hK.out _ _ ?_ (fun hHeld => ?_)
  · exact hHeld
  clear hK K
  try simp only [Act.put, List.setIfInBounds_toArray, List.set_cons_zero, List.set_cons_succ]
  refine wpAnyH_take (i := 7) (oi := { dst := some 6, op := Go.Op.assign (Go.Operand.tmp 21), type := 3, pos := "score.go:58", after := #[{ on := 6, ground := Go.Ground.data }, { on := 6, ground := Go.Ground.chain }, { on := 0, ground := Go.Ground.phase }, { on := 1, ground := Go.Ground.phase }, { on := 2, ground := Go.Ground.phase }, { on := 3, ground := Go.Ground.phase }, { on := 4, ground := Go.Ground.phase }, { on := 5, ground := Go.Ground.phase }, { on := 6, ground := Go.Ground.phase }], guard := none }) (v := ?_) rfl (by kernel_rfl) (by kernel_rfl) (by kernel_rfl) (fun _ _ _ h => h) (Or.inl ⟨by rfl, ?_⟩) hHeld ?_
  rotate_left
  · (intro wq hSw; (try dsimp only at hSw); go_simp; try (with_reducible rfl))
  try simp only [Act.put, List.setIfInBounds_toArray, List.set_cons_zero, List.set_cons_succ]
  refine wpAnyH_done (by kernel_rfl) ?_ _
  go_wp2
  go_ret
  exact ⟨rfl, HL.out.2.trans (hHeld.2.mono HL.out.2.size)⟩
theorem score_any (c : Cf) (vb : Nat) (V : Lv) (i : Nat) (w : World) (h : VAt w vb V) (hw : WeV V) (hc : Cr c V.length) (h2 : i < V.length - 1) : Calls Tryz.prog 57 #[.agg (cfgA c), .pointer (some ⟨vb, 0, none⟩), .int .i64 (i : Int)] w fun e w' => e = .returned (.int .i64 (scr c V i)) ∧ RowKit.Below w.heap.size w w' := by
  by_cases h1 : i = 0
  · subst h1
    exact score0_any c vb V w h hc
  · exact scoreI_any c vb V i w h hw hc (by omega) h2
/-- all scores -/
def scs (c : Cf) (V : Lv) : List Int := (List.range (V.length - 1)).map (scr c V)
theorem scs_len (c : Cf) (V : Lv) : (scs c V).length = V.length - 1 := by simp [scs]
end Vr
end Go.Proofs.YtaejjpbpnedblaaGreat
