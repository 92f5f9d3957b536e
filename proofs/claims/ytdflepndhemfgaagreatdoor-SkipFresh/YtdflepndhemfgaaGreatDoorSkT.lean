import Derived.Test.YtdflepndhemfgaaGreatDoorSkS
import Derived.Laws.MakeOwn
namespace Go.Proofs.YtdflepndhemfgaaGreatDoor
namespace Sk
open Go.RowKit Go.Shelf Laws Irw Erw KMath Skm Byt
set_option linter.unusedVariables false
set_option maxRecDepth 100000
set_option linter.unusedSimpArgs false
attribute [local go_sem] Oper.semAt_some

theorem getD_snoc {α : Type} (l : List α) (x d : α) (j : Nat) : (l ++ [x]).getD j d = if j = l.length then x else l.getD j d := by
  by_cases h : j = l.length
  · subst h; simp
  · rw [if_neg h]
    rcases Nat.lt_or_gt_of_ne h with h1 | h1
    · simp [List.getD_eq_getElem?_getD, List.getElem?_append_left h1]
    · rw [List.getD_eq_getElem?_getD, List.getD_eq_getElem?_getD, List.getElem?_eq_none (by simp; omega), List.getElem?_eq_none (by omega)]
set_option maxHeartbeats 1000000 in
theorem towers_in (L : Nat) (ns : List Nd) (w : World) (hL : L < w.heap.size) (hT : Tow w L 12 ns) (hC : Chain w ns) (hcnt : w.cell? ⟨L, 18, none⟩ = some (.int .i64 (ns.length : Int))) (hh : ∀ n ∈ ns, 1 ≤ n.h ∧ n.h ≤ 12) (hn : ns.length ≤ 3000000000000) :
    CallsIn Fence.wide 6 Tryz.prog 6 #[.pointer (some ⟨L, 0, none⟩)] w fun e w' => ∃ g, e = .returned (.slice (some ⟨g, 0, none⟩) ns.length ns.length) ∧ w.heap.size ≤ g ∧ Below w.heap.size w w' ∧ IRow w' g 0 (ns.map fun n => (n.h : Int)) := by
  refine callsIn_of_wp_marks Tryz.func6 rfl trivial ?_ rfl
  simp only [Tryz.ntmps6, List.size_toArray, List.length_cons, List.length_nil, Nat.reduceAdd, Nat.reduceSub, Array.replicate_succ, Array.replicate_zero, List.push_toArray, List.append_toArray, List.nil_append, List.cons_append]
  have hfB : Fence.wide.fn 19 := trivial
  obtain ⟨NL, hNL⟩ : ∃ NL, ns.length = NL := ⟨_, rfl⟩
  rw [hNL] at hcnt hn
  have hNB : (NL : Int) ≤ 3000000000000 := by omega
  obtain ⟨i0, hi0, hz0, hz1, hz2⟩ := info_parts (show (Tryz.prog.info? 3).map (fun i => (i.zero, i.size, i.bytes)) = some (some (.int .i64 0), 1, 8) by kernel_rfl)
  obtain ⟨W1, hmk, g1, hb1, hs1⟩ : ∃ W1 : World, (Instr.makeSlice 28 (.int .i64 0) (.int .i64 (NL : Int))).run Tryz.prog w = .ok (.slice (some ⟨w.heap.size, 0, none⟩) 0 NL) W1 ∧ W1.heap[w.heap.size]? = some (.cells (madeCells #[.int .i64 0] NL) 3) ∧ Below w.heap.size w W1 ∧ W1.heap.size = w.heap.size + 1 := by
    have hr := run_make (P := Tryz.prog) w 28 3 i0 (.int .i64 0) Tryz.underlying28 hi0 hz0 .i64 .i64 0 (NL : Int) (Int.le_refl _) (by omega) (by rw [hz2]; omega) (by omega)
    rw [hz1] at hr
    simp only [Int.toNat_zero, Int.toNat_natCast, Nat.mul_one] at hr
    exact ⟨_, hr, World.alloc_heap_new _ _, (Below.refl _ _).alloc (Nat.le_refl _) _, by simp⟩
  have hcn1 : W1.cell? ⟨L, 18, none⟩ = some (.int .i64 (NL : Int)) := (hb1.cell (p := ⟨L, 18, none⟩) hL).trans hcnt
  gi_wp2_with (gi_at_call 19; refine (behind_in _ _ _ _).mono ?_; rintro e w' ⟨rfl, rfl⟩)
  have hb5 : Below W1.heap.size W1 (((W1.alloc (.cells #[.slice (some ⟨w.heap.size, 0, none⟩) 0 NL] 28)).alloc (.cells #[.pointer (some ⟨L, 0, none⟩)] 69)).alloc (.cells #[.int .i64 0] 3)) := (((Below.refl _ _).alloc (Nat.le_refl _) _).alloc (by simp) _).alloc (by simp; omega) _
  generalize ho1 : (Obj.cells #[.slice (some ⟨w.heap.size, 0, none⟩) 0 NL] 28) = o1 at *
  generalize ho2 : (Obj.cells #[.pointer (some ⟨L, 0, none⟩)] 69) = o2 at *
  generalize ho3 : (Obj.cells #[.int .i64 0] 3) = o3 at *
  have g2 : (((W1.alloc o1).alloc o2).alloc o3).heap[w.heap.size + 1]? = some o1 := by
    rw [Below.heap_alloc _ _ _ (by simp; omega), Below.heap_alloc _ _ _ (by simp; omega), ← hs1]
    exact World.alloc_heap_new W1 o1
  have g3 : (((W1.alloc o1).alloc o2).alloc o3).heap[w.heap.size + 1 + 1]? = some o2 := by
    rw [Below.heap_alloc _ _ _ (by simp; omega), ← hs1]
    have := World.alloc_heap_new (W1.alloc o1) o2
    rwa [World.size_alloc] at this
  have g4 : (((W1.alloc o1).alloc o2).alloc o3).heap[w.heap.size + 1 + 1 + 1]? = some o3 := by
    rw [← hs1]
    have := World.alloc_heap_new ((W1.alloc o1).alloc o2) o3
    rwa [World.size_alloc, World.size_alloc] at this
  have hs5 : (((W1.alloc o1).alloc o2).alloc o3).heap.size = w.heap.size + 4 := by simp; omega
  generalize ((W1.alloc o1).alloc o2).alloc o3 = W5 at *
  subst ho1 ho2 ho3
  have g5 : W5.heap[w.heap.size]? = some (.cells (madeCells #[.int .i64 0] NL) 3) := (hb5.block _ (by omega)).trans g1
  have HB5 : Hid (Below w.heap.size w W5) := hb1.trans (hb5.mono hb1.size)
  have hT5 := hT.keep (HB5.out.block L hL)
  have hC5 := hC.keep fun nd hnd => HB5.out.block _ (hC.lt hnd)
  have hnl : ∀ nd ∈ ns, nd.b < w.heap.size := fun nd hnd => hC.lt hnd
  have hl0 : lev 0 ns = ns := lev0 fun nd hnd => (hh nd hnd).1
  refine wpIn_rangeFunc_ownF rfl (by decide) (gf := 46) (lb := #[.pointer (some ⟨w.heap.size + 1 + 1, 0, none⟩), .pointer (some ⟨w.heap.size + 1 + 1 + 1, 0, none⟩)]) rfl trivial (enters_of Tryz.func46 (by kernel_rfl) rfl)
    (behind_stops (6 - 1) (by decide) (w.heap.size + 1 + 1) (w.heap.size + 1 + 1 + 1) 0 (by omega) L 12 (by omega) ns ns ⟨[], rfl⟩ W5 (by rw [cell_of_obj g3]; rfl) (by rw [cell_of_obj g4]; rfl) hT5 (by omega) hC5) Kp.trans ?kb (Below.refl _ _) (fun _ => rfl)
    (fun come W => Below w.heap.size w W ∧ W5.heap.size ≤ W.heap.size ∧ (∀ j, j < NL → W.cell? ⟨w.heap.size, j, none⟩ = some (.int .i64 ((come.map fun x => (x.1.h : Int)).getD j 0)) ∧ W.frozen? ⟨w.heap.size, j, none⟩ = false) ∧ W.cell? ⟨w.heap.size + 1, 0, none⟩ = some (.slice (some ⟨w.heap.size, 0, none⟩) come.length NL) ∧ W.frozen? ⟨w.heap.size + 1, 0, none⟩ = false)
    (fun _ _ _ => False)
    ?own1 (fun _ _ _ _ _ hs _ _ => hs) ⟨HB5.out, Nat.le_refl _, fun j hj => ⟨?st, froz_of_obj g5⟩, by rw [cell_of_obj g2]; rfl, froz_of_obj g2⟩
    (fun x => { tmps := #[.pointer (some ⟨L, 0, none⟩), undef, .slice none 0 0, .pointer (some ⟨w.heap.size + 1, 0, none⟩), .pointer (some ⟨x.1.b, 0, none⟩), .pointer (some ⟨L, 0, none⟩), .pointer (some ⟨L, 0, none⟩), .pointer (some ⟨L, 18, none⟩), .int .i64 (NL : Int), .slice (some ⟨w.heap.size, 0, none⟩) 0 NL, .pointer (some ⟨L, 0, none⟩), .pointer (some ⟨L, 0, none⟩), .pointer (some ⟨L, 0, none⟩), .func (.func 46) #[] #[.pointer (some ⟨w.heap.size + 1 + 1, 0, none⟩), .pointer (some ⟨w.heap.size + 1 + 1 + 1, 0, none⟩)], .pointer (some ⟨x.1.b, 0, none⟩), undef, undef, undef, undef, undef, undef, undef, undef], defers := [] }) ?assign ?body ?done ?stop
  case st =>
    rw [cell_of_obj g5, ← Array.getElem?_toList, toList_madeCells_one]
    simp [hj]
  case kb =>
    intro W' l o o' hl h _ _
    exact ⟨fun nd hnd => World.putObj_heap_other (by have := hnl nd hnd; omega), World.putObj_heap_other (by omega), World.putObj_heap_other (by omega)⟩
  case own1 =>
    rintro come A B row ⟨h1, h2, h3, h4, h5⟩ hg hr
    have hk : ∀ b, b < W5.heap.size → B.heap[b]? = A.heap[b]? := fun b hb => hg.block b (by omega) (fun e => by have := (hr b e.symm).1; omega)
    have hG := hk w.heap.size (by omega)
    have hH := hk (w.heap.size + 1) (by omega)
    exact ⟨h1.trans ⟨hg.os, hg.tape, hg.output, hg.size, fun b hb => hk b (by omega)⟩, Nat.le_trans h2 hg.size, fun j hj => ⟨(World.cell?_of_block (a := ⟨w.heap.size, j, none⟩) hG).trans (h3 j hj).1, (World.frozen?_of_block (a := ⟨w.heap.size, j, none⟩) hG).trans (h3 j hj).2⟩, (World.cell?_of_block (a := ⟨w.heap.size + 1, 0, none⟩) hH).trans h4, (World.frozen?_of_block (a := ⟨w.heap.size + 1, 0, none⟩) hH).trans h5⟩
  case assign =>
    intro l1 x W' K' hK'
    simp only [encN]
    gi_wp2
    exact hK'
  case body =>
    rintro l1 come x W' ⟨hbW, hsW, hcW, hsl, hfl⟩ hlen
    rw [hNL] at hlen
    obtain ⟨rx, hnx⟩ := hC.node x.2
    have c0 := (hnx.keep (hbW.block _ (hnl _ x.2))).hgt
    obtain ⟨k1, k2⟩ := hcW come.length hlen
    have HST : Hid (Below w.heap.size w W' ∧ W5.heap.size ≤ W'.heap.size ∧ (∀ j, j < NL → W'.cell? ⟨w.heap.size, j, none⟩ = some (.int .i64 ((come.map fun x => (x.1.h : Int)).getD j 0)) ∧ W'.frozen? ⟨w.heap.size, j, none⟩ = false)) := ⟨hbW, hsW, hcW⟩
    have HXM : Hid (x.1.b < w.heap.size) := hnl _ x.2
    obtain ⟨K, hK⟩ : ∃ K, come.length = K := ⟨_, rfl⟩
    have HK : Hid (come.length = K) := hK
    rw [hK] at hlen k1 k2 hsl
    have q1 : K + 1 ≤ NL := by omega
    have q2 : (K : Int) + 1 ≤ (NL : Int) := by omega
    have z1 : w.heap.size < W'.heap.size := by omega
    have z2 : w.heap.size + 1 < W'.heap.size := by omega
    have z3 : ¬ w.heap.size = W'.heap.size := by omega
    have z4 : ¬ w.heap.size + 1 = W'.heap.size := by omega
    have z5 : ¬ W'.heap.size = w.heap.size := by omega
    have z6 : ¬ W'.heap.size = w.heap.size + 1 := by omega
    clear hbW hsW hcW hnx hK
    gi_wp2
    gi_region
    all_goals (
      gi_wp2
      obtain ⟨hbW, hsW, hcW⟩ := HST.out
      have hKo : KeepsOthers W' (((W'.setCell ⟨w.heap.size, K, none⟩ (.int .i64 (x.1.h : Int))).setCell ⟨w.heap.size + 1, 0, none⟩ (.slice (some ⟨w.heap.size, 0, none⟩) (K + 1) NL)).alloc (.cells #[.int .i64 (x.1.h : Int)] 3)).drew := (((KeepsOthers.setCell _ _ _).trans (KeepsOthers.setCell _ _ _)).trans (KeepsOthers.alloc _ _)).trans (KeepsOthers.drew _)
      have hbl : ∀ b, b < W'.heap.size → b ≠ w.heap.size → b ≠ w.heap.size + 1 → (((W'.setCell ⟨w.heap.size, K, none⟩ (.int .i64 (x.1.h : Int))).setCell ⟨w.heap.size + 1, 0, none⟩ (.slice (some ⟨w.heap.size, 0, none⟩) (K + 1) NL)).alloc (.cells #[.int .i64 (x.1.h : Int)] 3)).drew.heap[b]? = W'.heap[b]? := fun b h1 h2 h3 => by
        show (((W'.setCell ⟨w.heap.size, K, none⟩ (.int .i64 (x.1.h : Int))).setCell ⟨w.heap.size + 1, 0, none⟩ (.slice (some ⟨w.heap.size, 0, none⟩) (K + 1) NL)).alloc (.cells #[.int .i64 (x.1.h : Int)] 3)).heap[b]? = W'.heap[b]?
        rw [Below.heap_alloc _ _ _ (by simp; omega), Below.heap_setCell _ _ _ b h3, Below.heap_setCell _ _ _ b h2]
      have hcl : ∀ b j, b < W'.heap.size → (((W'.setCell ⟨w.heap.size, K, none⟩ (.int .i64 (x.1.h : Int))).setCell ⟨w.heap.size + 1, 0, none⟩ (.slice (some ⟨w.heap.size, 0, none⟩) (K + 1) NL)).alloc (.cells #[.int .i64 (x.1.h : Int)] 3)).drew.cell? ⟨b, j, none⟩ = ((W'.setCell ⟨w.heap.size, K, none⟩ (.int .i64 (x.1.h : Int))).setCell ⟨w.heap.size + 1, 0, none⟩ (.slice (some ⟨w.heap.size, 0, none⟩) (K + 1) NL)).cell? ⟨b, j, none⟩ := fun b j h1 => World.cell?_of_block (a := ⟨b, j, none⟩) (Below.heap_alloc _ _ _ (by simp; omega))
      have hfr : ∀ b j, b < W'.heap.size → (((W'.setCell ⟨w.heap.size, K, none⟩ (.int .i64 (x.1.h : Int))).setCell ⟨w.heap.size + 1, 0, none⟩ (.slice (some ⟨w.heap.size, 0, none⟩) (K + 1) NL)).alloc (.cells #[.int .i64 (x.1.h : Int)] 3)).drew.frozen? ⟨b, j, none⟩ = W'.frozen? ⟨b, j, none⟩ := fun b j h1 => by
        have h2 := World.frozen?_of_block (a := ⟨b, j, none⟩) (Below.heap_alloc ((W'.setCell ⟨w.heap.size, K, none⟩ (.int .i64 (x.1.h : Int))).setCell ⟨w.heap.size + 1, 0, none⟩ (.slice (some ⟨w.heap.size, 0, none⟩) (K + 1) NL)) (.cells #[.int .i64 (x.1.h : Int)] 3) b (by simp; omega))
        rw [World.frozen?_setCell, World.frozen?_setCell] at h2
        exact h2
      have hsz2 : W'.heap.size ≤ (((W'.setCell ⟨w.heap.size, K, none⟩ (.int .i64 (x.1.h : Int))).setCell ⟨w.heap.size + 1, 0, none⟩ (.slice (some ⟨w.heap.size, 0, none⟩) (K + 1) NL)).alloc (.cells #[.int .i64 (x.1.h : Int)] 3)).drew.heap.size := by
        show W'.heap.size ≤ (((W'.setCell ⟨w.heap.size, K, none⟩ (.int .i64 (x.1.h : Int))).setCell ⟨w.heap.size + 1, 0, none⟩ (.slice (some ⟨w.heap.size, 0, none⟩) (K + 1) NL)).alloc (.cells #[.int .i64 (x.1.h : Int)] 3)).heap.size
        simp
      refine ⟨hKo, ⟨fun nd hnd => hbl _ (by have := hnl nd hnd; omega) (by have := hnl nd hnd; omega) (by have := hnl nd hnd; omega), hbl _ (by omega) (by omega) (by omega), hbl _ (by omega) (by omega) (by omega)⟩, hbW.trans ⟨rfl, rfl, rfl, hsz2, fun b hb => hbl b (by omega) (by omega) (by omega)⟩, Nat.le_trans hsW hsz2, fun j hj => ⟨?_, ?_⟩, ?_, ?_⟩
      · rw [hcl _ _ z1, World.cell?_of_block (a := ⟨w.heap.size, j, none⟩) (Below.heap_setCell _ _ _ _ (by simp)), List.map_append]
        show _ = some (Value.int .i64 (((come.map fun x => (x.1.h : Int)) ++ [(x.1.h : Int)]).getD j 0))
        rw [getD_snoc]
        by_cases hjK : j = K
        · subst hjK
          rw [World.cell?_setCell_same _ _ _ k1, if_pos (by rw [List.length_map, HK.out])]
        · rw [World.cell?_setCell_other W' ⟨w.heap.size, K, none⟩ ⟨w.heap.size, j, none⟩ _ (fun e => hjK (congrArg Addr.off e).symm), (hcW j hj).1, if_neg (by rw [List.length_map, HK.out]; exact hjK)]
      · rw [hfr _ _ z1]; exact (hcW j hj).2
      · rw [hcl _ _ z2, World.cell?_setCell_same _ _ _ (by rw [World.cell?_of_block (a := ⟨w.heap.size + 1, 0, none⟩) (Below.heap_setCell _ _ _ _ (by simp))]; exact hsl)]
        simp [HK.out]
      · rw [hfr _ _ z2]; exact hfl)
  case done =>
    rintro D come W' hD hcome ⟨hbW, hsW, hcW, hsl, hfl⟩ hDd
    rw [hl0] at hcome
    have hlen : come.length = NL := by have := congrArg List.length hcome; rw [List.length_map] at this; omega
    rw [hlen] at hsl
    have HR : Hid (∀ j, j < NL → W'.cell? ⟨w.heap.size, j, none⟩ = some (.int .i64 ((ns.map fun n => (n.h : Int)).getD j 0))) := fun j hj => by
      have h9 := (hcW j hj).1
      have e9 : (come.map fun x => (x.1.h : Int)) = ns.map fun n => (n.h : Int) := by
        have := congrArg (List.map fun n : Nd => (n.h : Int)) hcome
        rw [List.map_map] at this
        exact this
      rw [e9] at h9
      exact h9
    clear hcW hcome
    gi_wp2
    refine ⟨by simp, .inl ⟨_, _, rfl, run_takeDeferred hDd, ?_⟩⟩
    have hk : ∀ b, b ≠ D → (W'.putObj D (.deferred none)).heap[b]? = W'.heap[b]? := fun b hb => World.putObj_heap_other hb
    refine ⟨_, results_tmp rfl _ _ _, w.heap.size, by rw [hNL]; rfl, Nat.le_refl _, hbW.trans ⟨rfl, rfl, rfl, by simp, fun b hb => hk b (by omega)⟩, by simp; omega, fun i z hz => ?_⟩
    have hi : i < NL := by have := (List.getElem?_eq_some_iff.1 hz).1; simpa [hNL] using this
    rw [Nat.zero_add, World.cell?_of_block (a := ⟨w.heap.size, i, none⟩) (hk w.heap.size (by omega)), HR.out i hi]
    simp [List.getD_eq_getElem?_getD, hz]
  case stop =>
    rintro D c pre W' _ _ h _
    exact h.elim
end Sk
end Go.Proofs.YtdflepndhemfgaaGreatDoor
