import Derived.Test.YtdflepndhemfgaaGreatDoorSk8
namespace Go.Proofs.YtdflepndhemfgaaGreatDoor
namespace Sk
open Go.RowKit Go.Shelf Laws Irw Erw KMath Skm Byt
set_option linter.unusedVariables false
set_option maxRecDepth 100000
set_option linter.unusedSimpArgs false
attribute [local go_sem] Oper.semAt_some

set_option maxHeartbeats 1000000 in
/-- From's iterator, of a yield that stops at once. -/
theorem first_in (l Bl Bk Bs L : Nat) (k : ByteArray) (s : Int) (ns pre post : List Nd) (W : World) (hw : Wk W L k s ns pre post)
    (hBl : W.cell? ⟨Bl, 0, none⟩ = some (.pointer (some ⟨L, 0, none⟩))) (hBk : W.cell? ⟨Bk, 0, none⟩ = some (.string k)) (hBs : W.cell? ⟨Bs, 0, none⟩ = some (.int .u64 s))
    (Jx : En → World → Prop) (hJx : ∀ e A B row, Jx e A → A.grownBy B row → (∀ r, row = some r → W.heap.size ≤ r) → Jx e B)
    (hY : ∀ (e : En) W', Below W.heap.size W W' → YieldAt Fence.wide (6 - 1 - 1 - 1) Tryz.prog l #[.agg #[.string e.1, .int .u64 e.2.1, .bool e.2.2.1, .string e.2.2.2]] W' fun r W2 => r = .returned (.bool false) ∧ Jx e W2 ∧ W'.heap.size ≤ W2.heap.size ∧ ∀ b, W.heap.size ≤ b → b < W'.heap.size → W2.heap[b]? = W'.heap[b]?) :
    CallsIn Fence.wide 6 Tryz.prog 41 #[.func (.yield l) #[] #[], .pointer (some ⟨Bl, 0, none⟩), .pointer (some ⟨Bk, 0, none⟩), .pointer (some ⟨Bs, 0, none⟩)] W fun e W' => (∃ v, e = .returned v) ∧ ((post = [] ∧ Below W.heap.size W W') ∨ ∃ nd r, post = nd :: r ∧ Jx nd.e W') := by
  have HW : Hid (Wk W L k s ns pre post) := hw
  have HY : Hid (∀ (e : En) W', Below W.heap.size W W' → YieldAt Fence.wide (6 - 1 - 1 - 1) Tryz.prog l #[.agg #[.string e.1, .int .u64 e.2.1, .bool e.2.2.1, .string e.2.2.2]] W' fun r W2 => r = .returned (.bool false) ∧ Jx e W2 ∧ W'.heap.size ≤ W2.heap.size ∧ ∀ b, W.heap.size ≤ b → b < W'.heap.size → W2.heap[b]? = W'.heap[b]?) := hY
  have HJ : Hid (∀ e A B row, Jx e A → A.grownBy B row → (∀ r, row = some r → W.heap.size ≤ r) → Jx e B) := hJx
  clear hw hY hJx
  refine callsIn_of_wp_marks Tryz.func41 rfl trivial ?_ rfl
  simp only [Tryz.ntmps41, List.size_toArray, List.length_cons, List.length_nil, Nat.reduceAdd, Nat.reduceSub, Array.replicate_succ, Array.replicate_zero, List.push_toArray, List.append_toArray, List.nil_append, List.cons_append]
  have hfB : Fence.wide.fn 19 := trivial
  have hfA : Fence.wide.fn 42 := trivial
  have hb1 : Below W.heap.size W (W.alloc (.cells #[.func (.yield l) #[] #[]] 63)) := (Below.refl _ _).alloc (Nat.le_refl _) _
  have g1 : (W.alloc (.cells #[.func (.yield l) #[] #[]] 63)).heap[W.heap.size]? = some (.cells #[.func (.yield l) #[] #[]] 63) := World.alloc_heap_new _ _
  have l1 := (hb1.cell (p := ⟨Bl, 0, none⟩) (World.block_lt_of_cell? W _ hBl)).trans hBl
  have k1 := (hb1.cell (p := ⟨Bk, 0, none⟩) (World.block_lt_of_cell? W _ hBk)).trans hBk
  have s1 := (hb1.cell (p := ⟨Bs, 0, none⟩) (World.block_lt_of_cell? W _ hBs)).trans hBs
  generalize hW1 : W.alloc (.cells #[.func (.yield l) #[] #[]] 63) = W1 at *
  have HW1 : Hid (Wk W1 L k s ns pre post) := HW.out.under hb1
  gi_wp2_with fail
  try rw [hW1]
  refine (callsIn_wide.2 (HW1.out.ahead false ⟨#[]⟩)).mono ?_
  rintro e w2 ⟨rfl, hb2⟩
  unfold lastV lp
  have HB2 : Hid (Below W.heap.size W w2) := hb1.trans (hb2.mono hb1.size)
  have hY1 : W.heap.size < W1.heap.size := (Array.getElem?_eq_some_iff.1 g1).1
  have g2 : w2.heap[W.heap.size]? = some (.cells #[.func (.yield l) #[] #[]] 63) := (hb2.block _ hY1).trans g1
  have hs2 := hb2.size
  clear hW1 l1 k1 s1 HW1 g1
  have hb3 : Below w2.heap.size w2 (w2.alloc (.cells #[.pointer (some ⟨lst L 0 pre, 0, none⟩), .pointer (some ⟨lst L 1 pre, 0, none⟩), .pointer (some ⟨lst L 2 pre, 0, none⟩), .pointer (some ⟨lst L 3 pre, 0, none⟩), .pointer (some ⟨lst L 4 pre, 0, none⟩), .pointer (some ⟨lst L 5 pre, 0, none⟩), .pointer (some ⟨lst L 6 pre, 0, none⟩), .pointer (some ⟨lst L 7 pre, 0, none⟩), .pointer (some ⟨lst L 8 pre, 0, none⟩), .pointer (some ⟨lst L 9 pre, 0, none⟩), .pointer (some ⟨lst L 10 pre, 0, none⟩), .pointer (some ⟨lst L 11 pre, 0, none⟩)] 70)) := (Below.refl _ _).alloc (Nat.le_refl _) _
  have a0 : (w2.alloc (.cells #[.pointer (some ⟨lst L 0 pre, 0, none⟩), .pointer (some ⟨lst L 1 pre, 0, none⟩), .pointer (some ⟨lst L 2 pre, 0, none⟩), .pointer (some ⟨lst L 3 pre, 0, none⟩), .pointer (some ⟨lst L 4 pre, 0, none⟩), .pointer (some ⟨lst L 5 pre, 0, none⟩), .pointer (some ⟨lst L 6 pre, 0, none⟩), .pointer (some ⟨lst L 7 pre, 0, none⟩), .pointer (some ⟨lst L 8 pre, 0, none⟩), .pointer (some ⟨lst L 9 pre, 0, none⟩), .pointer (some ⟨lst L 10 pre, 0, none⟩), .pointer (some ⟨lst L 11 pre, 0, none⟩)] 70)).cell? ⟨w2.heap.size, 0, none⟩ = some (.pointer (some ⟨lst L 0 pre, 0, none⟩)) := by rw [cell_of_obj (World.alloc_heap_new _ _)]; rfl
  have hs3 : (w2.alloc (.cells #[.pointer (some ⟨lst L 0 pre, 0, none⟩), .pointer (some ⟨lst L 1 pre, 0, none⟩), .pointer (some ⟨lst L 2 pre, 0, none⟩), .pointer (some ⟨lst L 3 pre, 0, none⟩), .pointer (some ⟨lst L 4 pre, 0, none⟩), .pointer (some ⟨lst L 5 pre, 0, none⟩), .pointer (some ⟨lst L 6 pre, 0, none⟩), .pointer (some ⟨lst L 7 pre, 0, none⟩), .pointer (some ⟨lst L 8 pre, 0, none⟩), .pointer (some ⟨lst L 9 pre, 0, none⟩), .pointer (some ⟨lst L 10 pre, 0, none⟩), .pointer (some ⟨lst L 11 pre, 0, none⟩)] 70)).heap.size = w2.heap.size + 1 := by simp
  generalize hW3 : w2.alloc (.cells #[.pointer (some ⟨lst L 0 pre, 0, none⟩), .pointer (some ⟨lst L 1 pre, 0, none⟩), .pointer (some ⟨lst L 2 pre, 0, none⟩), .pointer (some ⟨lst L 3 pre, 0, none⟩), .pointer (some ⟨lst L 4 pre, 0, none⟩), .pointer (some ⟨lst L 5 pre, 0, none⟩), .pointer (some ⟨lst L 6 pre, 0, none⟩), .pointer (some ⟨lst L 7 pre, 0, none⟩), .pointer (some ⟨lst L 8 pre, 0, none⟩), .pointer (some ⟨lst L 9 pre, 0, none⟩), .pointer (some ⟨lst L 10 pre, 0, none⟩), .pointer (some ⟨lst L 11 pre, 0, none⟩)] 70) = W3 at *
  gi_wp2_with (gi_at_call 19; refine (behind_in _ _ _ _).mono ?_; rintro e w' ⟨rfl, rfl⟩)
  try rw [hW3]
  clear hW3
  have HB3 : Hid (Below W.heap.size W W3) := HB2.out.trans (hb3.mono HB2.out.size)
  have g3 : W3.heap[W.heap.size]? = some (.cells #[.func (.yield l) #[] #[]] 63) := (hb3.block _ (by omega)).trans g2
  have hb5 : Below W3.heap.size W3 ((W3.alloc (.cells #[.pointer (some ⟨lst L 0 pre, 0, none⟩)] 69)).alloc (.cells #[.int .i64 0] 3)) := ((Below.refl _ _).alloc (Nat.le_refl _) _).alloc (by simp) _
  have bn : ((W3.alloc (.cells #[.pointer (some ⟨lst L 0 pre, 0, none⟩)] 69)).alloc (.cells #[.int .i64 0] 3)).cell? ⟨w2.heap.size + 1, 0, none⟩ = some (.pointer (some ⟨lst L 0 pre, 0, none⟩)) := by
    rw [World.cell?_of_block (Below.heap_alloc _ _ _ (by simp; omega)), ← hs3, World.cell?_alloc_at _ _ _ _ rfl]; rfl
  have bi : ((W3.alloc (.cells #[.pointer (some ⟨lst L 0 pre, 0, none⟩)] 69)).alloc (.cells #[.int .i64 0] 3)).cell? ⟨w2.heap.size + 1 + 1, 0, none⟩ = some (.int .i64 ((0 : Nat) : Int)) := by
    rw [World.cell?_alloc_at _ _ _ _ (by simp; omega)]; rfl
  have hs5 : ((W3.alloc (.cells #[.pointer (some ⟨lst L 0 pre, 0, none⟩)] 69)).alloc (.cells #[.int .i64 0] 3)).heap.size = w2.heap.size + 3 := by simp; omega
  generalize (W3.alloc (.cells #[.pointer (some ⟨lst L 0 pre, 0, none⟩)] 69)).alloc (.cells #[.int .i64 0] 3) = W5 at *
  have HB5 : Hid (Below W.heap.size W W5) := HB3.out.trans (hb5.mono HB3.out.size)
  have hg5 : W5.heap[W.heap.size]? = some (.cells #[.func (.yield l) #[] #[]] 63) := (hb5.block _ (by omega)).trans g3
  have hw5 := HW.out.under HB5.out
  obtain ⟨sh, hsh, hTs, hst, hsub⟩ := hw5.st
  have hnl : ∀ nd ∈ ns, nd.b < W.heap.size := fun nd hnd => HW.out.chain.lt hnd
  have hps1 : ∀ nd ∈ post, 1 ≤ nd.h := fun nd hnd => (HW.out.hts nd (by rw [HW.out.cut]; simp [hnd])).1
  clear hb1 hb2 hb3 hb5 g2 g3 a0
  refine wpIn_rangeFunc_ownG rfl (by decide) (gf := 46) (lb := #[.pointer (some ⟨w2.heap.size + 1, 0, none⟩), .pointer (some ⟨w2.heap.size + 1 + 1, 0, none⟩)]) rfl trivial (enters_of Tryz.func46 (by kernel_rfl) rfl)
    (behind_stops (6 - 1) (by decide) (w2.heap.size + 1) (w2.heap.size + 1 + 1) 0 (by omega) (lst L 0 pre) sh hsh post ns hsub W5 bn bi hTs hst hw5.chain) Kp.trans ?kb (Below.refl _ _) (fun _ => rfl)
    (fun come W' => come = [] ∧ Below W.heap.size W W' ∧ W5.heap.size ≤ W'.heap.size ∧ ∀ b, W.heap.size ≤ b → b < W5.heap.size → W'.heap[b]? = W5.heap[b]?)
    (fun c come W' => c = .ret ∧ ∃ x : Of ns, come = [x] ∧ Jx x.1.e W')
    ?own1 ?own2 ⟨rfl, HB5.out, Nat.le_refl _, fun _ _ _ => rfl⟩
    (fun x => { tmps := #[.func (.yield l) #[] #[], .pointer (some ⟨Bl, 0, none⟩), .pointer (some ⟨Bk, 0, none⟩), .pointer (some ⟨Bs, 0, none⟩), .pointer (some ⟨W.heap.size, 0, none⟩), .pointer (some ⟨w2.heap.size, 0, none⟩), .pointer (some ⟨x.1.b, 0, none⟩), .pointer (some ⟨L, 0, none⟩), .string k, .int .u64 s, .agg #[.string k, .int .u64 s, .bool false, .string ⟨#[]⟩], .agg #[.pointer (some ⟨lst L 0 pre, 0, none⟩), .pointer (some ⟨lst L 1 pre, 0, none⟩), .pointer (some ⟨lst L 2 pre, 0, none⟩), .pointer (some ⟨lst L 3 pre, 0, none⟩), .pointer (some ⟨lst L 4 pre, 0, none⟩), .pointer (some ⟨lst L 5 pre, 0, none⟩), .pointer (some ⟨lst L 6 pre, 0, none⟩), .pointer (some ⟨lst L 7 pre, 0, none⟩), .pointer (some ⟨lst L 8 pre, 0, none⟩), .pointer (some ⟨lst L 9 pre, 0, none⟩), .pointer (some ⟨lst L 10 pre, 0, none⟩), .pointer (some ⟨lst L 11 pre, 0, none⟩)], .pointer (some ⟨w2.heap.size, 0, none⟩), .pointer (some ⟨lst L 0 pre, 0, none⟩), .func (.func 46) #[] #[.pointer (some ⟨w2.heap.size + 1, 0, none⟩), .pointer (some ⟨w2.heap.size + 1 + 1, 0, none⟩)], .pointer (some ⟨x.1.b, 0, none⟩), undef, undef, undef, undef, undef, undef, undef], defers := [] }) ?assign ?body ?done ?stop
  case kb =>
    intro W' l o o' hl h _ _
    exact ⟨fun nd hnd => World.putObj_heap_other (by have := hnl nd hnd; omega), World.putObj_heap_other (by omega), World.putObj_heap_other (by omega)⟩
  case own1 =>
    rintro come A B row ⟨h1, h2, h3, h4⟩ hg hr
    have hk : ∀ b, b < W5.heap.size → B.heap[b]? = A.heap[b]? := fun b hb => hg.block b (by omega) (fun e => by have := (hr b e.symm).1; omega)
    exact ⟨h1, h2.trans ⟨hg.os, hg.tape, hg.output, hg.size, fun b hb => hk b (by omega)⟩, Nat.le_trans h3 hg.size, fun b hb hb2 => (hk b hb2).trans (h4 b hb hb2)⟩
  case own2 =>
    rintro c come A B row ⟨h1, x, h2, h3⟩ hg hr
    exact ⟨h1, x, h2, HJ.out _ A B row h3 hg (fun r e => by have := (hr r e).1; omega)⟩
  case assign =>
    intro l1 x W' K' hK'
    simp only [encN]
    gi_wp2
    exact hK'
  case body =>
    rintro l1 come x W' ⟨rfl, hbW, hsW, hkW⟩ _
    obtain ⟨rx, hnx⟩ := HW.out.chain.node x.2
    obtain ⟨c0, c1, c2, c3⟩ := (hnx.keep (hbW.block _ (hnl _ x.2))).ent
    have y0 : W'.cell? ⟨W.heap.size, 0, none⟩ = some (.func (.yield l) #[] #[]) := by
      rw [cell_of_obj ((hkW _ (Nat.le_refl _) (by omega)).trans hg5)]; rfl
    obtain ⟨⟨xb, ⟨xk, xs, xd, xv⟩, xh⟩, hxm⟩ := x
    dsimp only at *
    obtain ⟨fn, tm, asg, bod, hy, hR⟩ := HY.out (xk, xs, xd, xv) W'.drew (hbW.drew)
    dsimp only at hy
    gi_wp2
    gi_region_with (go_simp; refine hR.mono ?_; rintro r W2 ⟨rfl, hj2, hs2', hk2⟩)
    all_goals (
      have HFIN : Hid (KeepsFrom W5.heap.size W' W2) := ⟨hs2', fun i o hB hi ho => (hk2 i (by omega) (Array.getElem?_eq_some_iff.1 hi).1).trans hi⟩
      clear hk2 hs2' hR hy
      gi_wp2
      exact ⟨HFIN.out, rfl, _, rfl, hj2⟩)
  case done =>
    rintro D come W' hD hcome ⟨rfl, hbW, hsW, hkW⟩ hDd
    have HPN : Hid (post = []) := by
      rw [lev0 hps1] at hcome
      exact hcome.symm
    clear hcome
    gi_wp2
    refine ⟨by simp, .inl ⟨_, _, rfl, run_takeDeferred hDd, ?_⟩⟩
    exact ⟨_, results_none rfl _ _ _, ⟨_, rfl⟩, .inl ⟨HPN.out, hbW.trans ⟨rfl, rfl, rfl, by simp, fun b hb => World.putObj_heap_other (by omega)⟩⟩⟩
  case stop =>
    rintro D c come W' hD hcome ⟨rfl, x, rfl, hj⟩ hDd
    have HPN : Hid (∃ r, post = x.1 :: r) := by
      rw [lev0 hps1] at hcome
      obtain ⟨r, hr⟩ := hcome
      exact ⟨r, by simpa using hr.symm⟩
    clear hcome
    gi_wp2
    refine ⟨by simp, .inl ⟨_, _, rfl, run_takeDeferred hDd, ?_⟩⟩
    obtain ⟨r, hr⟩ := HPN.out
    exact ⟨_, results_none rfl _ _ _, ⟨_, rfl⟩, .inr ⟨x.1, r, hr, HJ.out _ _ _ (some D) hj (grownBy_putObj' _ D _) (fun q e => by cases e; omega)⟩⟩
end Sk
end Go.Proofs.YtdflepndhemfgaaGreatDoor
