import Derived.Test.YtilkjfbjlljnhaaGreatWa
namespace Go.Proofs.YtilkjfbjlljnhaaGreat
namespace Vr
open Go.Shelf Go.RowKit Go.Lib Go.Sort Go.Maps Go.ChangeMaps Go.MapKept Laws Irw Crw
set_option linter.unusedVariables false
set_option linter.unusedSimpArgs false
set_option maxRecDepth 20000
def WeV (V : Lv) : Prop := ∀ l ∈ V, WeOk l
theorem WeV.lev {V : Lv} (h : WeV V) (i : Int) : WeOk (lev V i) := by
  unfold Vr.lev
  split
  · cases e : V[i.toNat]? with
    | none => intro t ht; simp at ht
    | some l => exact h l (List.mem_of_getElem? e)
  · intro t ht; simp at ht
/-- a level's score -/
def scr (c : Cf) (V : Lv) (i : Nat) : Int := if i = 0 then 1000 * ((lev V 0).length : Int) / c 5 else 1000 * sumW (lev V (i : Int)) / lim c (i - 1)
set_option maxHeartbeats 2000000 in
theorem score0_any (c : Cf) (vb : Nat) (V : Lv) (w : World) (h : VAt w vb V) (hc : Cr c V.length) : Calls Tryz.prog 32 #[.agg (cfgA c), .pointer (some ⟨vb, 0, none⟩), .int .i64 0] w fun e w' => e = .returned (.int .i64 (scr c V 0)) ∧ RowKit.Below w.heap.size w w' := by
  have hlen := h.1.len 0
  have htr := hc.tr
  have hb0 : RowKit.Below w.heap.size w (w.alloc (Obj.cells (cfgA c) 23)) := (Below.refl _ _).alloc (Nat.le_refl _) _
  have hLc := lc_new w c 23
  have c5 := hLc.cell 5 rfl
  have HT : Hid (Calls Tryz.prog 9 #[.pointer (some ⟨vb, 0, none⟩), .int .i64 0] (w.alloc (Obj.cells (cfgA c) 23)).drew fun e w' => NewIs (w.alloc (Obj.cells (cfgA c) 23)).drew (lev V 0) e w') := tables_any vb V 0 _ (h.below hb0.drew)
  have HB0 : Hid (RowKit.Below w.heap.size w (w.alloc (Obj.cells (cfgA c) 23)) ∧ Lc (w.alloc (Obj.cells (cfgA c) 23)) w.heap.size c) := ⟨hb0, hLc⟩
  obtain ⟨m, hm⟩ : ∃ m, (lev V 0).length = m := ⟨_, rfl⟩
  have HM : Hid ((lev V 0).length = m) := hm
  rw [hm] at hlen
  have HS : Hid (∀ W : World, Calls Tryz.prog 46 #[.int .i64 (m : Int), .int .i64 (c 5)] W fun e w' => e = .returned (.int .i64 (scr c V 0)) ∧ w' = W) := fun W => by
    have := share_any (m : Int) (c 5) W (by omega) (by omega)
    unfold scr
    rw [if_pos rfl, hm]
    exact this
  clear hb0 hLc hm h
  go_enter Tryz.func32, Tryz.ntmps32
  go_wp2
  go_region_with (first
    | (go_at_call 9; go_loud (refine HT.out.mono ?_; rintro e w2 ⟨_, rfl, ⟨G, rfl, hG, hrow⟩, hb2⟩; rw [HM.out]; have HB2 : Hid (RowKit.Below w.heap.size w w2) := HB0.out.1.trans (RowKit.Below.mono ⟨hb2.os, hb2.tape, hb2.output, hb2.size, hb2.block⟩ HB0.out.1.size); have d5 := (HB0.out.2.keep (by simp) ⟨hb2.os, hb2.tape, hb2.output, hb2.size, hb2.block⟩ : Lc w2 w.heap.size c).cell 5 rfl; clear hrow hb2 hG; simp only [svV]))
    | (go_at_call 46; go_loud (refine (HS.out _).mono ?_; rintro e w3 ⟨rfl, rfl⟩)))
  all_goals
    go_wp2
    go_ret
    exact ⟨rfl, HB2.out⟩
end Vr
end Go.Proofs.YtilkjfbjlljnhaaGreat
