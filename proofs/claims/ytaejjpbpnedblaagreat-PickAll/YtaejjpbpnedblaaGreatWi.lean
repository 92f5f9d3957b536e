import Derived.Test.YtaejjpbpnedblaaGreatWh
namespace Go.Proofs.YtaejjpbpnedblaaGreat
namespace Vr
open Go.Shelf Go.RowKit Go.Lib Go.Sort Go.Maps Go.ChangeMaps Go.MapKept Laws Irw Crw
set_option linter.unusedVariables false
set_option linter.unusedSimpArgs false
set_option maxRecDepth 20000
set_option maxHeartbeats 2000000 in
theorem inputs0_any (c : Cf) (vb : Nat) (V : Lv) (pv : Value) (l : List Tb) (w : World) (h : VAt w vb V) (hc : Cr c V.length) (hl : V[0]? = some l) (hpos : 0 < l.length) :
    Calls Tryz.prog 18 #[.agg (cfgA c), .pointer (some ⟨vb, 0, none⟩), pv, .int .i64 0] w fun e w' => JnIs w (whl V l) true e w' := by
  have hn5 := hc.n5
  have hn3 := hc.n3
  have hlen := h.1.2 l (List.mem_of_getElem? hl)
  obtain ⟨W, hW⟩ : ∃ X, (w.alloc (Obj.cells (cfgA c) 23)).alloc (Obj.cells #[.int .i64 0, .slice none 0 0, .slice none 0 0, .string ⟨#[]⟩, .bool false] 62) = X := ⟨_, rfl⟩
  have HW : Hid (RowKit.Below w.heap.size w W ∧ Lc W w.heap.size c ∧ Zb W (w.heap.size + 1) (jbC 0 nS nS ⟨#[]⟩ false) ∧ w.heap.size + 1 < W.heap.size) := by
    subst hW
    have hz := Zb.new (w.alloc (Obj.cells (cfgA c) 23)) #[.int .i64 0, .slice none 0 0, .slice none 0 0, .string ⟨#[]⟩, .bool false] 62
    refine ⟨((Below.refl _ _).alloc (Nat.le_refl _) _).alloc (by simp) _, (lc_new w c 23).keep (by simp) ((Below.refl _ _).alloc (Nat.le_refl _) _), ?_, by simp⟩
    have e : (w.alloc (Obj.cells (cfgA c) 23)).heap.size = w.heap.size + 1 := by simp
    rw [e] at hz
    exact hz
  have HA : Hid (VAt w vb V ∧ Cr c V.length ∧ V[0]? = some l) := ⟨h, hc, hl⟩
  have q1 : ¬ (V.length : Int) - 1 ≤ 0 := by omega
  have q3 : ¬ (l.length : Int) = 0 := by omega
  have q4 : ¬ l.length = 0 := by omega
  have hLW := HW.out.2.1
  clear h hc hl
  go_enter Tryz.func18, Tryz.ntmps18
  go_upto_region 3 with (first
    | ((try rw [hW]); refine wpList_cfgG (by rfl) _ (by rfl) (by rfl) hLW ?_)
    | (go_at_call 56; go_loud ((try rw [hW]); refine (last_any c vb V _ (HA.out.1.below HW.out.1) HA.out.2.1).mono ?_; rintro e w1 ⟨rfl, hb1⟩; have HB1 : Hid (RowKit.Below W.heap.size W w1) := hb1; clear hb1)))
  clear hW hLW
  have HTB : Hid (Calls Tryz.prog 16 #[.pointer (some ⟨vb, 0, none⟩), .int .i64 0] w1 fun e w' => NewIs w1 l e w') := by
    have := tables_any vb V 0 w1 (HA.out.1.below (HW.out.1.trans (HB1.out.mono HW.out.1.size)))
    rw [show (0 : Int) = ((0 : Nat) : Int) from rfl, lev_in HA.out.2.2] at this
    exact this
  go_upto_region 7 with (go_at_call 16; go_loud (refine HTB.out.mono ?_; rintro e W0 ⟨_, rfl, ⟨G, rfl, hG, hrow⟩, hb2⟩; have HB2 : Hid (RowKit.Below w1.heap.size w1 W0 ∧ W0.ownsRow 0 76 6 (.slice (some ⟨G, 0, none⟩) l.length l.length) l.length (kTb.cells l) ∧ w1.heap.size ≤ G) := ⟨hb2, hrow, hG⟩; clear hb2 hrow hG; simp only [svV]))
  clear HTB
  have HBW : Hid (RowKit.Below w.heap.size w W0 ∧ RowKit.Below W.heap.size W W0 ∧ W.heap.size ≤ G) := by
    have h2 := HB1.out.trans (HB2.out.1.mono HB1.out.size)
    exact ⟨HW.out.1.trans (h2.mono HW.out.1.size), h2, Nat.le_trans HB1.out.size HB2.out.2.2⟩
  have HWH : Hid (Calls Tryz.prog 59 #[.pointer (some ⟨vb, 0, none⟩), .slice (some ⟨G, 0, none⟩) l.length l.length] W0 fun e w' => WhIs W0 (some ⟨G, 0, none⟩, l.length, l.length) (whl V l) e w') := whole_any vb V (some ⟨G, 0, none⟩) l.length l W0 (HA.out.1.below HBW.out.1) (Ls.row HB2.out.2.1 rfl) hlen hpos
  obtain ⟨j, hj0⟩ : ∃ j, whl V l = j := ⟨_, rfl⟩
  rw [hj0] at HWH
  have HJ0 : Hid (whl V l = j) := hj0
  clear hj0
  go_wp2_with (go_at_call 59; go_loud (refine HWH.out.mono ?_; rintro e w5 ⟨⟨la, ln, lc⟩, rfl, hj5, hb5, hn5'⟩; have HX : Hid (JAt w5 (some ⟨G, 0, none⟩, l.length, l.length) (la, ln, lc) j ∧ RowKit.Below w.heap.size w w5 ∧ (∀ b off, la = some ⟨b, off, none⟩ → W0.heap.size ≤ b) ∧ Zb w5 (w.heap.size + 1) (jbC 0 nS nS ⟨#[]⟩ false)) := ⟨hj5, HBW.out.1.trans (hb5.mono HBW.out.1.size), hn5', (HW.out.2.2.1.below HBW.out.2.1).below hb5⟩; have r0 := HX.out.2.2.2.2.1 0 _ rfl; have r1 := HX.out.2.2.2.2.1 1 _ rfl; have r2 := HX.out.2.2.2.2.1 2 _ rfl; have r3 := HX.out.2.2.2.2.1 3 _ rfl; have r4 := HX.out.2.2.2.2.1 4 _ rfl; have s0 := HX.out.2.2.2.2.2; clear hj5 hb5 hn5'; unfold jbV; simp only))
  have hz : Zb (sets w5 (w.heap.size + 1) 0 (jbC j.lv (some ⟨G, 0, none⟩, l.length, l.length) (la, ln, lc) j.cut j.mv)) (w.heap.size + 1) (jbC j.lv (some ⟨G, 0, none⟩, l.length, l.length) (la, ln, lc) j.cut j.mv) := HX.out.2.2.2.sets (by simp [jbC])
  have hbb := sets_below (w0 := w) (w := w5) (w.heap.size + 1) (by omega) (jbC j.lv (some ⟨G, 0, none⟩, l.length, l.length) (la, ln, lc) j.cut j.mv) 0 HX.out.2.1
  have hk : ∀ b, b ≠ w.heap.size + 1 → (sets w5 (w.heap.size + 1) 0 (jbC j.lv (some ⟨G, 0, none⟩, l.length, l.length) (la, ln, lc) j.cut j.mv)).heap[b]? = w5.heap[b]? := fun b hb => sets_block w5 _ b hb _ 0
  have hsz := HW.out.2.2.2
  have hG2 := HBW.out.2.2
  have hW02 := HBW.out.2.1.size
  refine bodyPost_ret (res_jb2 rfl _ _ (w.heap.size + 1) j.lv (some ⟨G, 0, none⟩, l.length, l.length) (la, ln, lc) j.cut j.mv rfl hz) rfl ?_
  rw [HJ0.out]
  refine ⟨_, _, rfl, ⟨HX.out.1.1.keep (fun b off e _ => hk b ?_) (by simp), HX.out.1.2.keep (fun b off e _ => hk b ?_) (by simp)⟩, hbb, fun b off e => ?_, fun b off e => ?_⟩
  · simp only [Option.some.injEq, Addr.mk.injEq] at e
    omega
  · have := HX.out.2.2.1 b off e
    omega
  · simp only [Option.some.injEq, Addr.mk.injEq] at e
    omega
  · have := HX.out.2.2.1 b off e
    omega
end Vr
end Go.Proofs.YtaejjpbpnedblaaGreat
