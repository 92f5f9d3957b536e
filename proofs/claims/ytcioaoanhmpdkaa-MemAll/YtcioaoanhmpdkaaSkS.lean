import Derived.Test.YtcioaoanhmpdkaaSk7
import Derived.RangeFuncWrites
namespace Go.Proofs.Ytcioaoanhmpdkaa
namespace Sk
open Go.RowKit Go.Shelf Laws Irw Erw KMath Skm Byt
set_option linter.unusedVariables false
set_option maxRecDepth 100000
set_option linter.unusedSimpArgs false
attribute [local go_sem] Oper.semAt_some

theorem from_any (L : Nat) (k : ByteArray) (s : Int) (w : World) :
    Calls Try.prog 74 #[.pointer (some ⟨L, 0, none⟩), .string k, .int .u64 s] w fun e w' => e = .returned (.func (.func 88) #[] #[.pointer (some ⟨w.heap.size, 0, none⟩), .pointer (some ⟨w.heap.size + 1, 0, none⟩), .pointer (some ⟨w.heap.size + 2, 0, none⟩)]) ∧ w' = ((w.alloc (.cells #[.pointer (some ⟨L, 0, none⟩)] 99)).alloc (.cells #[.string k] 9)).alloc (.cells #[.int .u64 s] 51) := by
  go_enter Try.func74, Try.ntmps74
  go_wp2
  go_ret
  exact ⟨rfl, rfl⟩

theorem lev0 {ns : List Nd} (h : ∀ n ∈ ns, 1 ≤ n.h) : lev 0 ns = ns := by
  unfold lev
  rw [List.filter_eq_self]
  intro n hn
  have := h n hn
  simp; omega
/-- The lists of a walk: the list as it lies, cut at a place. -/
structure Wk (W : World) (L : Nat) (k : ByteArray) (s : Int) (ns pre post : List Nd) : Prop where
  lt : L < W.heap.size
  tow : Tow W L 12 ns
  chain : Chain W ns
  hts : ∀ n ∈ ns, 1 ≤ n.h ∧ n.h ≤ 12
  cut : ns = pre ++ post
  hpre : ∀ n ∈ pre, aheadB k s n = true
  hpost : ∀ n ∈ post, aheadB k s n = false
theorem Wk.keep {W W' : World} {L : Nat} {k : ByteArray} {s : Int} {ns pre post : List Nd} (h : Wk W L k s ns pre post) (hs : W.heap.size ≤ W'.heap.size) (hL : W'.heap[L]? = W.heap[L]?) (hn : ∀ n ∈ ns, W'.heap[n.b]? = W.heap[n.b]?) : Wk W' L k s ns pre post :=
  ⟨Nat.lt_of_lt_of_le h.lt hs, h.tow.keep hL, h.chain.keep hn, h.hts, h.cut, h.hpre, h.hpost⟩
theorem Wk.under {W W' : World} {L : Nat} {k : ByteArray} {s : Int} {ns pre post : List Nd} (h : Wk W L k s ns pre post) (hb : Below W.heap.size W W') : Wk W' L k s ns pre post := h.keep hb.size (hb.block L h.lt) fun n hn => hb.block _ (h.chain.lt hn)
theorem Wk.of {t : Nat} {T : Nat → Nat} {w : World} {L : Nat} {ds : List Nat} {ns : List Nd} (h : Sl t T w L ds ns) (k : ByteArray) (s : Int) : ∃ pre post, Wk w L k s ns pre post := by
  obtain ⟨pre, post, h1, h2, h3⟩ := split_at k s ns h.sorted
  exact ⟨pre, post, h.lt, h.tow, h.chain, h.hts, h1, h2, h3⟩
theorem Wk.ahead {W : World} {L : Nat} {k : ByteArray} {s : Int} {ns pre post : List Nd} (h : Wk W L k s ns pre post) (d : Bool) (v : ByteArray) :
    Calls Try.prog 89 #[.pointer (some ⟨L, 0, none⟩), .agg #[.string k, .int .u64 s, .bool d, .string v]] W fun e w' => e = .returned (lastV L pre) ∧ Below W.heap.size W w' :=
  callsIn_wide.1 (ahead_in L k s d v W ns pre post h.cut h.hpre h.hpost (fun n hn => (h.hts n hn).2) h.lt h.tow h.chain)
/-- the station before the place, and what is behind it -/
theorem Wk.st {W : World} {L : Nat} {k : ByteArray} {s : Int} {ns pre post : List Nd} (h : Wk W L k s ns pre post) : ∃ sh, 0 < sh ∧ Tow W (lst L 0 pre) sh post ∧ lst L 0 pre < W.heap.size ∧ ∃ z, ns = z ++ post := by
  obtain ⟨y, hy, h1⟩ := lst_at L 0 pre
  rcases h1 with ⟨h2, rfl⟩ | ⟨x, n, rfl, h2, h3⟩
  · have hy0 : y = [] := by
      cases y with
      | nil => rfl
      | cons n y =>
        have h4 := hy n List.mem_cons_self
        have := (h.hts n (by rw [h.cut]; simp)).1
        omega
    subst hy0
    rw [h2]
    refine ⟨12, by omega, ?_, h.lt, [], by rw [h.cut]⟩
    have := h.tow
    rw [h.cut] at this
    simpa using this
  · have hy0 : y = [] := by
      cases y with
      | nil => rfl
      | cons m y =>
        have h4 := hy m List.mem_cons_self
        have := (h.hts m (by rw [h.cut]; simp)).1
        omega
    subst hy0
    have hx : ns = x ++ n :: post := by rw [h.cut]; simp
    rw [h2]
    exact ⟨n.h, h3, (h.chain _ _ _ hx).tow, h.chain.lt (by rw [hx]; simp), x ++ [n], by rw [hx]; simp⟩
end Sk
end Go.Proofs.Ytcioaoanhmpdkaa
namespace Go.Proofs.Ytcioaoanhmpdkaa
namespace Sk
open Go.RowKit Go.Shelf Laws Irw Erw KMath Skm Byt
set_option linter.unusedVariables false
set_option maxRecDepth 100000
set_option linter.unusedSimpArgs false
attribute [local go_sem] Oper.semAt_some

set_option maxHeartbeats 1000000 in
/-- From's iterator, of a yield that stops at once. -/
theorem first_in (l Bl Bk Bs L : Nat) (k : ByteArray) (s : Int) (ns pre post : List Nd) (W : World) (hw : Wk W L k s ns pre post)
    (hBl : W.cell? ⟨Bl, 0, none⟩ = some (.pointer (some ⟨L, 0, none⟩))) (hBk : W.cell? ⟨Bk, 0, none⟩ = some (.string k)) (hBs : W.cell? ⟨Bs, 0, none⟩ = some (.int .u64 s))
    (Jx : En → World → Prop) (hJx : ∀ e A B row, Jx e A → A.grownBy B row → (∀ r, row = some r → W.heap.size ≤ r) → Jx e B)
    (hY : ∀ (e : En) W', Below W.heap.size W W' → YieldAt Fence.wide (6 - 1 - 1 - 1) Try.prog l #[.agg #[.string e.1, .int .u64 e.2.1, .bool e.2.2.1, .string e.2.2.2]] W' fun r W2 => r = .returned (.bool false) ∧ Jx e W2 ∧ W'.heap.size ≤ W2.heap.size ∧ ∀ b, W.heap.size ≤ b → b < W'.heap.size → W2.heap[b]? = W'.heap[b]?) :
    CallsIn Fence.wide 6 Try.prog 88 #[.func (.yield l) #[] #[], .pointer (some ⟨Bl, 0, none⟩), .pointer (some ⟨Bk, 0, none⟩), .pointer (some ⟨Bs, 0, none⟩)] W fun e W' => (∃ v, e = .returned v) ∧ ((post = [] ∧ Below W.heap.size W W') ∨ ∃ nd r, post = nd :: r ∧ Jx nd.e W') := by
  have HW : Hid (Wk W L k s ns pre post) := hw
  have HY : Hid (∀ (e : En) W', Below W.heap.size W W' → YieldAt Fence.wide (6 - 1 - 1 - 1) Try.prog l #[.agg #[.string e.1, .int .u64 e.2.1, .bool e.2.2.1, .string e.2.2.2]] W' fun r W2 => r = .returned (.bool false) ∧ Jx e W2 ∧ W'.heap.size ≤ W2.heap.size ∧ ∀ b, W.heap.size ≤ b → b < W'.heap.size → W2.heap[b]? = W'.heap[b]?) := hY
  have HJ : Hid (∀ e A B row, Jx e A → A.grownBy B row → (∀ r, row = some r → W.heap.size ≤ r) → Jx e B) := hJx
  clear hw hY hJx
  refine callsIn_of_wp_marks Try.func88 rfl trivial ?_ rfl
  simp only [Try.ntmps88, List.size_toArray, List.length_cons, List.length_nil, Nat.reduceAdd, Nat.reduceSub, Array.replicate_succ, Array.replicate_zero, List.push_toArray, List.append_toArray, List.nil_append, List.cons_append]
  have hfB : Fence.wide.fn 90 := trivial
  have hfA : Fence.wide.fn 89 := trivial
  have hb1 : Below W.heap.size W (W.alloc (.cells #[.func (.yield l) #[] #[]] 92)) := (Below.refl _ _).alloc (Nat.le_refl _) _
  have g1 : (W.alloc (.cells #[.func (.yield l) #[] #[]] 92)).heap[W.heap.size]? = some (.cells #[.func (.yield l) #[] #[]] 92) := World.alloc_heap_new _ _
  have l1 := (hb1.cell (p := ⟨Bl, 0, none⟩) (World.block_lt_of_cell? W _ hBl)).trans hBl
  have k1 := (hb1.cell (p := ⟨Bk, 0, none⟩) (World.block_lt_of_cell? W _ hBk)).trans hBk
  have s1 := (hb1.cell (p := ⟨Bs, 0, none⟩) (World.block_lt_of_cell? W _ hBs)).trans hBs
  generalize hW1 : W.alloc (.cells #[.func (.yield l) #[] #[]] 92) = W1 at *
  have HW1 : Hid (Wk W1 L k s ns pre post) := HW.out.under hb1
  gi_wp2_with fail
  try rw [hW1]
  refine (callsIn_wide.2 (HW1.out.ahead false ⟨#[]⟩)).mono ?_
  rintro e w2 ⟨rfl, hb2⟩
  unfold lastV lp
  have HB2 : Hid (Below W.heap.size W w2) := hb1.trans (hb2.mono hb1.size)
  have hY1 : W.heap.size < W1.heap.size := (Array.getElem?_eq_some_iff.1 g1).1
  have g2 : w2.heap[W.heap.size]? = some (.cells #[.func (.yield l) #[] #[]] 92) := (hb2.block _ hY1).trans g1
  have hs2 := hb2.size
  clear hW1 l1 k1 s1 HW1 g1
  have hb3 : Below w2.heap.size w2 (w2.alloc (.cells #[.pointer (some ⟨lst L 0 pre, 0, none⟩), .pointer (some ⟨lst L 1 pre, 0, none⟩), .pointer (some ⟨lst L 2 pre, 0, none⟩), .pointer (some ⟨lst L 3 pre, 0, none⟩), .pointer (some ⟨lst L 4 pre, 0, none⟩), .pointer (some ⟨lst L 5 pre, 0, none⟩), .pointer (some ⟨lst L 6 pre, 0, none⟩), .pointer (some ⟨lst L 7 pre, 0, none⟩), .pointer (some ⟨lst L 8 pre, 0, none⟩), .pointer (some ⟨lst L 9 pre, 0, none⟩), .pointer (some ⟨lst L 10 pre, 0, none⟩), .pointer (some ⟨lst L 11 pre, 0, none⟩)] 120)) := (Below.refl _ _).alloc (Nat.le_refl _) _
  have a0 : (w2.alloc (.cells #[.pointer (some ⟨lst L 0 pre, 0, none⟩), .pointer (some ⟨lst L 1 pre, 0, none⟩), .pointer (some ⟨lst L 2 pre, 0, none⟩), .pointer (some ⟨lst L 3 pre, 0, none⟩), .pointer (some ⟨lst L 4 pre, 0, none⟩), .pointer (some ⟨lst L 5 pre, 0, none⟩), .pointer (some ⟨lst L 6 pre, 0, none⟩), .pointer (some ⟨lst L 7 pre, 0, none⟩), .pointer (some ⟨lst L 8 pre, 0, none⟩), .pointer (some ⟨lst L 9 pre, 0, none⟩), .pointer (some ⟨lst L 10 pre, 0, none⟩), .pointer (some ⟨lst L 11 pre, 0, none⟩)] 120)).cell? ⟨w2.heap.size, 0, none⟩ = some (.pointer (some ⟨lst L 0 pre, 0, none⟩)) := by rw [cell_of_obj (World.alloc_heap_new _ _)]; rfl
  have hs3 : (w2.alloc (.cells #[.pointer (some ⟨lst L 0 pre, 0, none⟩), .pointer (some ⟨lst L 1 pre, 0, none⟩), .pointer (some ⟨lst L 2 pre, 0, none⟩), .pointer (some ⟨lst L 3 pre, 0, none⟩), .pointer (some ⟨lst L 4 pre, 0, none⟩), .pointer (some ⟨lst L 5 pre, 0, none⟩), .pointer (some ⟨lst L 6 pre, 0, none⟩), .pointer (some ⟨lst L 7 pre, 0, none⟩), .pointer (some ⟨lst L 8 pre, 0, none⟩), .pointer (some ⟨lst L 9 pre, 0, none⟩), .pointer (some ⟨lst L 10 pre, 0, none⟩), .pointer (some ⟨lst L 11 pre, 0, none⟩)] 120)).heap.size = w2.heap.size + 1 := by simp
  generalize hW3 : w2.alloc (.cells #[.pointer (some ⟨lst L 0 pre, 0, none⟩), .pointer (some ⟨lst L 1 pre, 0, none⟩), .pointer (some ⟨lst L 2 pre, 0, none⟩), .pointer (some ⟨lst L 3 pre, 0, none⟩), .pointer (some ⟨lst L 4 pre, 0, none⟩), .pointer (some ⟨lst L 5 pre, 0, none⟩), .pointer (some ⟨lst L 6 pre, 0, none⟩), .pointer (some ⟨lst L 7 pre, 0, none⟩), .pointer (some ⟨lst L 8 pre, 0, none⟩), .pointer (some ⟨lst L 9 pre, 0, none⟩), .pointer (some ⟨lst L 10 pre, 0, none⟩), .pointer (some ⟨lst L 11 pre, 0, none⟩)] 120) = W3 at *
  gi_wp2_with (gi_at_call 90; refine (behind_in _ _ _ _).mono ?_; rintro e w' ⟨rfl, rfl⟩)
  try rw [hW3]
  clear hW3
  have HB3 : Hid (Below W.heap.size W W3) := HB2.out.trans (hb3.mono HB2.out.size)
  have g3 : W3.heap[W.heap.size]? = some (.cells #[.func (.yield l) #[] #[]] 92) := (hb3.block _ (by omega)).trans g2
  have hb5 : Below W3.heap.size W3 ((W3.alloc (.cells #[.pointer (some ⟨lst L 0 pre, 0, none⟩)] 119)).alloc (.cells #[.int .i64 0] 3)) := ((Below.refl _ _).alloc (Nat.le_refl _) _).alloc (by simp) _
  have bn : ((W3.alloc (.cells #[.pointer (some ⟨lst L 0 pre, 0, none⟩)] 119)).alloc (.cells #[.int .i64 0] 3)).cell? ⟨w2.heap.size + 1, 0, none⟩ = some (.pointer (some ⟨lst L 0 pre, 0, none⟩)) := by
    rw [World.cell?_of_block (Below.heap_alloc _ _ _ (by simp; omega)), ← hs3, World.cell?_alloc_at _ _ _ _ rfl]; rfl
  have bi : ((W3.alloc (.cells #[.pointer (some ⟨lst L 0 pre, 0, none⟩)] 119)).alloc (.cells #[.int .i64 0] 3)).cell? ⟨w2.heap.size + 1 + 1, 0, none⟩ = some (.int .i64 ((0 : Nat) : Int)) := by
    rw [World.cell?_alloc_at _ _ _ _ (by simp; omega)]; rfl
  have hs5 : ((W3.alloc (.cells #[.pointer (some ⟨lst L 0 pre, 0, none⟩)] 119)).alloc (.cells #[.int .i64 0] 3)).heap.size = w2.heap.size + 3 := by simp; omega
  generalize (W3.alloc (.cells #[.pointer (some ⟨lst L 0 pre, 0, none⟩)] 119)).alloc (.cells #[.int .i64 0] 3) = W5 at *
  have HB5 : Hid (Below W.heap.size W W5) := HB3.out.trans (hb5.mono HB3.out.size)
  have hg5 : W5.heap[W.heap.size]? = some (.cells #[.func (.yield l) #[] #[]] 92) := (hb5.block _ (by omega)).trans g3
  have hw5 := HW.out.under HB5.out
  obtain ⟨sh, hsh, hTs, hst, hsub⟩ := hw5.st
  have hnl : ∀ nd ∈ ns, nd.b < W.heap.size := fun nd hnd => HW.out.chain.lt hnd
  have hps1 : ∀ nd ∈ post, 1 ≤ nd.h := fun nd hnd => (HW.out.hts nd (by rw [HW.out.cut]; simp [hnd])).1
  clear hb1 hb2 hb3 hb5 g2 g3 a0
  refine wpIn_rangeFunc_ownG rfl (by decide) (gf := 100) (lb := #[.pointer (some ⟨w2.heap.size + 1, 0, none⟩), .pointer (some ⟨w2.heap.size + 1 + 1, 0, none⟩)]) rfl trivial (enters_of Try.func100 (by kernel_rfl) rfl)
    (behind_stops (6 - 1) (by decide) (w2.heap.size + 1) (w2.heap.size + 1 + 1) 0 (by omega) (lst L 0 pre) sh hsh post ns hsub W5 bn bi hTs hst hw5.chain) Kp.trans ?kb (Below.refl _ _) (fun _ => rfl)
    (fun come W' => come = [] ∧ Below W.heap.size W W' ∧ W5.heap.size ≤ W'.heap.size ∧ ∀ b, W.heap.size ≤ b → b < W5.heap.size → W'.heap[b]? = W5.heap[b]?)
    (fun c come W' => c = .ret ∧ ∃ x : Of ns, come = [x] ∧ Jx x.1.e W')
    ?own1 ?own2 ⟨rfl, HB5.out, Nat.le_refl _, fun _ _ _ => rfl⟩
    (fun x => { tmps := #[.func (.yield l) #[] #[], .pointer (some ⟨Bl, 0, none⟩), .pointer (some ⟨Bk, 0, none⟩), .pointer (some ⟨Bs, 0, none⟩), .pointer (some ⟨W.heap.size, 0, none⟩), .pointer (some ⟨w2.heap.size, 0, none⟩), .pointer (some ⟨x.1.b, 0, none⟩), .pointer (some ⟨L, 0, none⟩), .string k, .int .u64 s, .agg #[.string k, .int .u64 s, .bool false, .string ⟨#[]⟩], .agg #[.pointer (some ⟨lst L 0 pre, 0, none⟩), .pointer (some ⟨lst L 1 pre, 0, none⟩), .pointer (some ⟨lst L 2 pre, 0, none⟩), .pointer (some ⟨lst L 3 pre, 0, none⟩), .pointer (some ⟨lst L 4 pre, 0, none⟩), .pointer (some ⟨lst L 5 pre, 0, none⟩), .pointer (some ⟨lst L 6 pre, 0, none⟩), .pointer (some ⟨lst L 7 pre, 0, none⟩), .pointer (some ⟨lst L 8 pre, 0, none⟩), .pointer (some ⟨lst L 9 pre, 0, none⟩), .pointer (some ⟨lst L 10 pre, 0, none⟩), .pointer (some ⟨lst L 11 pre, 0, none⟩)], .pointer (some ⟨w2.heap.size, 0, none⟩), .pointer (some ⟨lst L 0 pre, 0, none⟩), .func (.func 100) #[] #[.pointer (some ⟨w2.heap.size + 1, 0, none⟩), .pointer (some ⟨w2.heap.size + 1 + 1, 0, none⟩)], .pointer (some ⟨x.1.b, 0, none⟩), undef, undef, undef, undef, undef, undef, undef], defers := [] }) ?assign ?body ?done ?stop
  case kb =>
    intro W' l o o' hl h _ _
    exact ⟨fun nd hnd => World.putObj_heap_other (by have := hnl nd hnd; omega), World.putObj_heap_other (by omega), World.putObj_heap_other (by omega)⟩
  case own1 =>
    rintro come A B row ⟨h1, h2, h3, h4⟩ hg hr
    have hk : ∀ b, b < W5.heap.size → B.heap[b]? = A.heap[b]? := fun b hb => hg.block b (by omega) (fun e => by have := (hr b e.symm).1; omega)
    exact ⟨h1, h2.trans ⟨hg.os, hg.tape, hg.output, hg.size, fun b hb => hk b (by omega)⟩, Nat.le_trans h3 hg.size, fun b hb hb2 => (hk b hb2).trans (h4 b hb hb2)⟩
  case own2 =>
    rintro c come A B row ⟨h1, x, h2, h3⟩ hg hr
    exact ⟨h1, x, h2, HJ.out _ A B row h3 hg (fun r e => by have := (hr r e).1; omega)⟩
  case assign =>
    intro l1 x W' K' hK'
    simp only [encN]
    gi_wp2
    exact hK'
  case body =>
    rintro l1 come x W' ⟨rfl, hbW, hsW, hkW⟩ _
    obtain ⟨rx, hnx⟩ := HW.out.chain.node x.2
    obtain ⟨c0, c1, c2, c3⟩ := (hnx.keep (hbW.block _ (hnl _ x.2))).ent
    have y0 : W'.cell? ⟨W.heap.size, 0, none⟩ = some (.func (.yield l) #[] #[]) := by
      rw [cell_of_obj ((hkW _ (Nat.le_refl _) (by omega)).trans hg5)]; rfl
    obtain ⟨⟨xb, ⟨xk, xs, xd, xv⟩, xh⟩, hxm⟩ := x
    dsimp only at *
    obtain ⟨fn, tm, asg, bod, hy, hR⟩ := HY.out (xk, xs, xd, xv) W'.drew (hbW.drew)
    dsimp only at hy
    gi_wp2
    gi_region_with (go_simp; refine hR.mono ?_; rintro r W2 ⟨rfl, hj2, hs2', hk2⟩)
    all_goals (
      have HFIN : Hid (KeepsFrom W5.heap.size W' W2) := ⟨hs2', fun i o hB hi ho => (hk2 i (by omega) (Array.getElem?_eq_some_iff.1 hi).1).trans hi⟩
      clear hk2 hs2' hR hy
      gi_wp2
      exact ⟨HFIN.out, rfl, _, rfl, hj2⟩)
  case done =>
    rintro D come W' hD hcome ⟨rfl, hbW, hsW, hkW⟩ hDd
    have HPN : Hid (post = []) := by
      rw [lev0 hps1] at hcome
      exact hcome.symm
    clear hcome
    gi_wp2
    refine ⟨by simp, .inl ⟨_, _, rfl, run_takeDeferred hDd, ?_⟩⟩
    exact ⟨_, results_none rfl _ _ _, ⟨_, rfl⟩, .inl ⟨HPN.out, hbW.trans ⟨rfl, rfl, rfl, by simp, fun b hb => World.putObj_heap_other (by omega)⟩⟩⟩
  case stop =>
    rintro D c come W' hD hcome ⟨rfl, x, rfl, hj⟩ hDd
    have HPN : Hid (∃ r, post = x.1 :: r) := by
      rw [lev0 hps1] at hcome
      obtain ⟨r, hr⟩ := hcome
      exact ⟨r, by simpa using hr.symm⟩
    clear hcome
    gi_wp2
    refine ⟨by simp, .inl ⟨_, _, rfl, run_takeDeferred hDd, ?_⟩⟩
    obtain ⟨r, hr⟩ := HPN.out
    exact ⟨_, results_none rfl _ _ _, ⟨_, rfl⟩, .inr ⟨x.1, r, hr, HJ.out _ _ _ (some D) hj (grownBy_putObj' _ D _) (fun q e => by cases e; omega)⟩⟩
end Sk
end Go.Proofs.Ytcioaoanhmpdkaa
namespace Go.Proofs.Ytcioaoanhmpdkaa
namespace Sk
open Go.RowKit Go.Shelf Laws Irw Erw KMath Skm Byt
set_option linter.unusedVariables false
set_option maxRecDepth 100000
set_option linter.unusedSimpArgs false

/-- An iterator of which one yield, that stops it, is told. -/
def SeqFirst (F : Fence) (n : Nat) (P : Program) (gf : Nat) (lb : Array Value) (enc : En → Array Value) (post : List Nd) (w : World) : Prop :=
  ∀ (l : Nat) (W : World) (Jx : En → World → Prop), Below w.heap.size w W → (∀ e A B row, Jx e A → A.grownBy B row → (∀ r, row = some r → W.heap.size ≤ r) → Jx e B) →
    (∀ (e : En) W', Below W.heap.size W W' → YieldAt F (n - 1 - 1 - 1) P l (enc e) W' fun r W2 => r = .returned (.bool false) ∧ Jx e W2 ∧ W'.heap.size ≤ W2.heap.size ∧ ∀ b, W.heap.size ≤ b → b < W'.heap.size → W2.heap[b]? = W'.heap[b]?) →
    CallsIn F n P gf (#[.func (.yield l) #[] #[]] ++ lb) W fun e W' => (∃ v, e = .returned v) ∧ ((post = [] ∧ Below W.heap.size W W') ∨ ∃ nd r, post = nd :: r ∧ Jx nd.e W')

/-- how the one round is left -/
def firstPost (B : Nat) (R : World → Prop) (W : World) : Exit → Act → World → Prop
  | .ret, _, W' => R W' ∧ W.heap.size ≤ W'.heap.size ∧ ∀ b, B ≤ b → b < W.heap.size → W'.heap[b]? = W.heap[b]?
  | _, _, _ => False

/-- A loop over an iterator whose body returns in its first round. -/
theorem range_first {F : Fence} {n : Nat} {P : Program} {g : Operand} {ps : Array Tmp} {assign body : Code} {Q : Exit → Act → World → Prop} {a : Act} {w : World}
    (hro : F.round = none) (h1 : 1 ≤ n) {gf : Nat} {lb : Array Value} (hg : a.eval g = .func (.func gf) #[] lb) (hFg : F.fn gf) (eg : ∀ args w, (callFunc gf args).run P w = .ok (.enter gf args) w)
    {enc : En → Array Value} {post : List Nd} (hseq : SeqFirst F (n - 1) P gf lb enc post w) (hps : ∀ x, (enc x).size = ps.size)
    (R : En → World → Prop) (hR : ∀ e A B row, R e A → A.grownBy B row → (∀ r, row = some r → w.heap.size ≤ r) → R e B)
    (As : En → Act → World → World → Prop) (hAs : ∀ e a' W W', As e a' W W' → Below W.heap.size W W')
    (hassign : ∀ (l : Nat) (e : En) (W : World) (K : Act → World → Prop), Below w.heap.size w W → (∀ a' W', As e a' W W' → K a' W') →
      assign.wpIn (F.inRound l) (n - 1 - 1 - 1 - 1) P (Exit.then K (fun _ _ _ => False)) { tmps := (ps.zip (enc e)).foldl (fun t (p, v) => t.setIfInBounds p v) a.tmps, defers := [] } W)
    (hbody : ∀ (l : Nat) (e : En) (a' : Act) (W W' W'' : World), Below w.heap.size w W → As e a' W W' → w.heap.size ≤ l → l < W.heap.size → W'.grownBy W'' (some l) → body.wpIn (F.inRound l) (n - 1 - 1 - 1 - 1) P (firstPost w.heap.size (R e) W'') a' W'')
    (hdone : post = [] → ∀ (D : Nat) (W : World), w.heap.size ≤ D → Below w.heap.size w W → W.heap[D]? = some (.deferred (some [])) → Q .normal { a with defers := { target := .collected D, args := #[] } :: a.defers } W)
    (hstop : ∀ nd r, post = nd :: r → ∀ (D : Nat) (W : World), w.heap.size ≤ D → R nd.e W → W.heap[D]? = some (.deferred (some [])) → Code.ret.wpIn F n P Q { a with defers := { target := .collected D, args := #[] } :: a.defers } W) :
    (Code.rangeFunc g ps assign body).wpIn F n P Q a w := by
  refine wpIn_rangeFunc ?_
  intro fn hfn
  rw [hro]
  obtain ⟨rc, hrc⟩ : ∃ rc : LoopState → Option Code → Loop, rc = fun st pe => { state := st, pending := pe, fn, tmps := a.tmps, params := ps, assign, body, defers := w.heap.size } := ⟨_, rfl⟩
  obtain ⟨W1, hW1⟩ : ∃ W1, (w.alloc (.deferred (some []))).alloc (.loop (rc .ready none)) = W1 := ⟨_, rfl⟩
  have hs1 : W1.heap.size = w.heap.size + 2 := by rw [← hW1]; simp
  have hb1 : Below w.heap.size w W1 := by rw [← hW1]; exact ((Below.refl _ w).alloc (Nat.le_refl _) _).alloc (by simp) _
  have hL1 : W1.heap[w.heap.size + 1]? = some (.loop (rc .ready none)) := by
    rw [← hW1]; have := World.alloc_heap_new (w.alloc (.deferred (some []))) (.loop (rc .ready none)); rwa [World.size_alloc] at this
  have hD1 : W1.heap[w.heap.size]? = some (.deferred (some [])) := by
    rw [← hW1]; exact (Below.heap_alloc _ _ _ (by simp)).trans (World.alloc_heap_new w _)
  refine ⟨w.heap.size + 1, [{ target := .collected w.heap.size, args := #[] }], W1, { target := .fn (.func gf) lb, args := #[.func (.yield (w.heap.size + 1)) #[] #[]] }, W1, gf,
    #[.func (.yield (w.heap.size + 1)) #[] #[]] ++ lb, W1, ?_, ?_, ?_, ?_, fun _ => h1, ?_⟩
  · rw [← hW1, hrc]; exact run_enterLoop_outer _ _ _ _ _
  · simp only [resolve, hg]
    simp [go_sem]
  · intro f' hf'; simp [Target.leads] at hf'; subst hf'; exact hFg
  · simp [invoke, go_sem, eg]
  · refine (hseq (w.heap.size + 1) W1 (fun e W => R e W ∧ W.heap[w.heap.size + 1]? = some (.loop (rc .done (some .ret))) ∧ W.heap[w.heap.size]? = some (.deferred (some []))) hb1 ?_ ?_).mono ?_
    · rintro e A B row ⟨h2, h3, h4⟩ hgr hr
      have hk : ∀ b, b < W1.heap.size → ∀ o, A.heap[b]? = some o → B.heap[b]? = some o := fun b hb o ho => (hgr.block b (Array.getElem?_eq_some_iff.1 ho).1 (fun e => by have := hr b e.symm; omega)).trans ho
      exact ⟨hR e A B row h2 hgr (fun r e => by have := hr r e; omega), hk _ (by omega) _ h3, hk _ (by omega) _ h4⟩
    · intro e W hbW
      have hl : W.heap[w.heap.size + 1]? = some (.loop (rc .ready none)) := (hbW.block _ (by omega)).trans hL1
      have hd : W.heap[w.heap.size]? = some (.deferred (some [])) := (hbW.block _ (by omega)).trans hD1
      have hwW : Below w.heap.size w W := hb1.trans (hbW.mono hb1.size)
      have hlt : w.heap.size + 1 < W.heap.size := (Array.getElem?_eq_some_iff.1 hl).1
      have hy := run_yield (P := P) (args := enc e) hl (by rw [hrc]; exact hps e)
      rw [hrc] at hy
      refine ⟨fn, _, assign, body, hy, roundIn_of_wpIn hfn (hassign _ e W _ hwW fun a' W' has => ?_)⟩
      have hb2 := hAs e a' W W' has
      have hl' : W'.heap[w.heap.size + 1]? = some (.loop (rc .ready none)) := (hb2.block _ hlt).trans hl
      have hd' : W'.heap[w.heap.size]? = some (.deferred (some [])) := (hb2.block _ (by omega)).trans hd
      refine ⟨_, run_beginRound hl' (by rw [hrc]), ?_⟩
      have hlt' : w.heap.size + 1 < W'.heap.size := (Array.getElem?_eq_some_iff.1 hl').1
      refine wpIn_mono (hbody (w.heap.size + 1) e a' W W' _ hwW has (by omega) hlt (grownBy_putObj' _ _ _)) ?_
      rintro ex a3 W3 hp
      cases ex with
      | ret =>
        obtain ⟨p1, p2, p3⟩ := hp
        have hl3 : W3.heap[w.heap.size + 1]? = some (.loop { rc .ready none with state := .busy }) := (p3 _ (by omega) (by simpa using hlt')).trans (World.putObj_heap_same hlt')
        have hd3 : W3.heap[w.heap.size]? = some (.deferred (some [])) := (p3 _ (Nat.le_refl _) (by simp; omega)).trans ((World.putObj_heap_other (by omega)).trans hd')
        have hr3 := run_endRound (P := P) (some .ret) hl3
        have hlt3 : w.heap.size + 1 < W3.heap.size := (Array.getElem?_eq_some_iff.1 hl3).1
        refine ⟨_, _, hr3, rfl, ⟨hR e W3 _ _ p1 (grownBy_putObj' _ _ _) (fun r e => by cases e; omega), ?_, ?_⟩, ?_, fun b hb hb3 => ?_⟩
        · rw [World.putObj_heap_same hlt3, hrc]; rfl
        · rw [World.putObj_heap_other (by omega)]; exact hd3
        · have := hb2.size
          simp at p2 ⊢
          omega
        · rw [World.putObj_heap_other (by omega), p3 b (by omega) (by have := hb2.size; simp; omega), World.putObj_heap_other (by omega)]
          exact hb2.block b hb3
      | normal => exact hp.elim
      | exit id => exact hp.elim
      | goto t => exact hp.elim
      | panic ch => exact hp.elim
      | outgrown => exact hp.elim
    · rintro e W2 ⟨⟨v, rfl⟩, (⟨hp, hb⟩ | ⟨nd, r, hp, hj, hl, hd⟩)⟩
      · have hl : W2.heap[w.heap.size + 1]? = some (.loop (rc .ready none)) := (hb.block _ (by omega)).trans hL1
        have hd : W2.heap[w.heap.size]? = some (.deferred (some [])) := (hb.block _ (by omega)).trans hD1
        refine ⟨none, _, by have := run_endLoop (P := P) hl (by rw [hrc]; simp); rw [hrc] at this; exact this, hdone hp _ _ (Nat.le_refl _) ?_ ((World.putObj_heap_other (by omega)).trans hd)⟩
        exact (hb1.trans (hb.mono hb1.size)).trans ⟨rfl, rfl, rfl, by simp, fun b hb => World.putObj_heap_other (by omega)⟩
      · refine ⟨some .ret, _, by have := run_endLoop (P := P) hl (by rw [hrc]; simp); rw [hrc] at this; exact this, hstop nd r hp _ _ (Nat.le_refl _) (hR _ W2 _ _ hj (grownBy_putObj' _ _ _) (fun r e => by cases e; omega)) ((World.putObj_heap_other (by omega)).trans hd)⟩
end Sk
end Go.Proofs.Ytcioaoanhmpdkaa
namespace Go.Proofs.Ytcioaoanhmpdkaa
namespace Sk
open Go.RowKit Go.Shelf Laws Irw Erw KMath Skm Byt
set_option linter.unusedVariables false
set_option maxRecDepth 100000
set_option linter.unusedSimpArgs false
attribute [local go_sem] Oper.semAt_some

def encE (e : En) : Array Value := #[.agg #[.string e.1, .int .u64 e.2.1, .bool e.2.2.1, .string e.2.2.2]]
theorem from_first {W : World} {L Bl Bk Bs : Nat} {k : ByteArray} {s : Int} {ns pre post : List Nd} (hw : Wk W L k s ns pre post)
    (hBl : W.cell? ⟨Bl, 0, none⟩ = some (.pointer (some ⟨L, 0, none⟩))) (hBk : W.cell? ⟨Bk, 0, none⟩ = some (.string k)) (hBs : W.cell? ⟨Bs, 0, none⟩ = some (.int .u64 s)) :
    SeqFirst Fence.wide 6 Try.prog 88 #[.pointer (some ⟨Bl, 0, none⟩), .pointer (some ⟨Bk, 0, none⟩), .pointer (some ⟨Bs, 0, none⟩)] encE post W := fun l W' Jx hb hJ hY => by
  have h1 := World.block_lt_of_cell? W _ hBl
  have h2 := World.block_lt_of_cell? W _ hBk
  have h3 := World.block_lt_of_cell? W _ hBs
  exact first_in l Bl Bk Bs L k s ns pre post W' (hw.under hb) ((hb.cell (p := ⟨Bl, 0, none⟩) h1).trans hBl) ((hb.cell (p := ⟨Bk, 0, none⟩) h2).trans hBk) ((hb.cell (p := ⟨Bs, 0, none⟩) h3).trans hBs) Jx hJ hY

theorem set4_cells {w : World} {L : Nat} {a0 a1 a2 a3 v0 v1 v2 v3 : Value} (h : w.cell? ⟨L, 0, none⟩ = some a0 ∧ w.cell? ⟨L, 1, none⟩ = some a1 ∧ w.cell? ⟨L, 2, none⟩ = some a2 ∧ w.cell? ⟨L, 3, none⟩ = some a3) :
    ((((w.setCell ⟨L, 0, none⟩ v0).setCell ⟨L, 1, none⟩ v1).setCell ⟨L, 2, none⟩ v2).setCell ⟨L, 3, none⟩ v3).cell? ⟨L, 0, none⟩ = some v0 ∧ ((((w.setCell ⟨L, 0, none⟩ v0).setCell ⟨L, 1, none⟩ v1).setCell ⟨L, 2, none⟩ v2).setCell ⟨L, 3, none⟩ v3).cell? ⟨L, 1, none⟩ = some v1 ∧
    ((((w.setCell ⟨L, 0, none⟩ v0).setCell ⟨L, 1, none⟩ v1).setCell ⟨L, 2, none⟩ v2).setCell ⟨L, 3, none⟩ v3).cell? ⟨L, 2, none⟩ = some v2 ∧ ((((w.setCell ⟨L, 0, none⟩ v0).setCell ⟨L, 1, none⟩ v1).setCell ⟨L, 2, none⟩ v2).setCell ⟨L, 3, none⟩ v3).cell? ⟨L, 3, none⟩ = some v3 := by
  obtain ⟨h0, h1, h2, h3⟩ := h
  refine ⟨?_, ?_, ?_, ?_⟩
  · rw [World.cell?_setCell_other _ _ _ _ (by simp), World.cell?_setCell_other _ _ _ _ (by simp), World.cell?_setCell_other _ _ _ _ (by simp), World.cell?_setCell_same _ _ _ h0]
  · rw [World.cell?_setCell_other _ _ _ _ (by simp), World.cell?_setCell_other _ _ _ _ (by simp)]
    exact World.cell?_setCell_same _ _ _ (by rw [World.cell?_setCell_other _ _ _ _ (by simp)]; exact h1)
  · rw [World.cell?_setCell_other _ _ _ _ (by simp)]
    exact World.cell?_setCell_same _ _ _ (by rw [World.cell?_setCell_other _ _ _ _ (by simp), World.cell?_setCell_other _ _ _ _ (by simp)]; exact h2)
  · exact World.cell?_setCell_same _ _ _ (by rw [World.cell?_setCell_other _ _ _ _ (by simp), World.cell?_setCell_other _ _ _ _ (by simp), World.cell?_setCell_other _ _ _ _ (by simp)]; exact h3)
def seekV (post : List Nd) : Value := match post with
  | [] => .tuple #[.agg #[.string ⟨#[]⟩, .int .u64 0, .bool false, .string ⟨#[]⟩], .bool false]
  | nd :: _ => .tuple #[.agg #[.string nd.e.1, .int .u64 nd.e.2.1, .bool nd.e.2.2.1, .string nd.e.2.2.2], .bool true]

set_option maxHeartbeats 1000000 in
theorem seek_in (L : Nat) (k : ByteArray) (s : Int) (ns pre post : List Nd) (w : World) (hw : Wk w L k s ns pre post) :
    CallsIn Fence.wide 7 Try.prog 71 #[.pointer (some ⟨L, 0, none⟩), .string k, .int .u64 s] w fun e w' => e = .returned (seekV post) ∧ Below w.heap.size w w' := by
  refine callsIn_of_wp_marks Try.func71 rfl trivial ?_ rfl
  simp only [Try.ntmps71, List.size_toArray, List.length_cons, List.length_nil, Nat.reduceAdd, Nat.reduceSub, Array.replicate_succ, Array.replicate_zero, List.push_toArray, List.append_toArray, List.nil_append, List.cons_append]
  have HW : Hid (Wk w L k s ns pre post) := hw
  have hfF : Fence.wide.fn 74 := trivial
  clear hw
  gi_wp2_with (gi_at_call 74; refine (callsIn_wide.2 (from_any L k s _)).mono ?_; rintro e w' ⟨rfl, rfl⟩)
  generalize ho1 : (Obj.cells #[.string ⟨#[]⟩, .int .u64 0, .bool false, .string ⟨#[]⟩] 77) = o1
  generalize ho2 : (Obj.cells #[.bool false] 4) = o2
  generalize ho3 : (Obj.cells #[.pointer (some ⟨L, 0, none⟩)] 99) = o3
  generalize ho4 : (Obj.cells #[.string k] 9) = o4
  generalize ho5 : (Obj.cells #[.int .u64 s] 51) = o5
  have hb5 : Below w.heap.size w (((((w.alloc o1).alloc o2).alloc o3).alloc o4).alloc o5) := (((((Below.refl _ _).alloc (Nat.le_refl _) _).alloc (by simp) _).alloc (by simp; omega) _).alloc (by simp; omega) _).alloc (by simp; omega) _
  have hs5 : (((((w.alloc o1).alloc o2).alloc o3).alloc o4).alloc o5).heap.size = w.heap.size + 5 := by simp
  have g1 : (((((w.alloc o1).alloc o2).alloc o3).alloc o4).alloc o5).heap[w.heap.size]? = some o1 := by
    rw [Below.heap_alloc _ _ _ (by simp <;> omega), Below.heap_alloc _ _ _ (by simp <;> omega), Below.heap_alloc _ _ _ (by simp <;> omega), Below.heap_alloc _ _ _ (by simp <;> omega)]
    exact World.alloc_heap_new w o1
  have g2 : (((((w.alloc o1).alloc o2).alloc o3).alloc o4).alloc o5).heap[w.heap.size + 1]? = some o2 := by
    rw [Below.heap_alloc _ _ _ (by simp <;> omega), Below.heap_alloc _ _ _ (by simp <;> omega), Below.heap_alloc _ _ _ (by simp <;> omega)]
    have := World.alloc_heap_new (w.alloc o1) o2
    rwa [World.size_alloc] at this
  have g3 : (((((w.alloc o1).alloc o2).alloc o3).alloc o4).alloc o5).heap[w.heap.size + 1 + 1]? = some o3 := by
    rw [Below.heap_alloc _ _ _ (by simp <;> omega), Below.heap_alloc _ _ _ (by simp <;> omega)]
    have := World.alloc_heap_new ((w.alloc o1).alloc o2) o3
    rwa [World.size_alloc, World.size_alloc] at this
  have g4 : (((((w.alloc o1).alloc o2).alloc o3).alloc o4).alloc o5).heap[w.heap.size + 1 + 1 + 1]? = some o4 := by
    rw [Below.heap_alloc _ _ _ (by simp <;> omega)]
    have := World.alloc_heap_new (((w.alloc o1).alloc o2).alloc o3) o4
    rwa [World.size_alloc, World.size_alloc, World.size_alloc] at this
  have g5 : (((((w.alloc o1).alloc o2).alloc o3).alloc o4).alloc o5).heap[w.heap.size + 1 + 1 + 2]? = some o5 := by
    have := World.alloc_heap_new ((((w.alloc o1).alloc o2).alloc o3).alloc o4) o5
    rwa [World.size_alloc, World.size_alloc, World.size_alloc, World.size_alloc] at this
  generalize ((((w.alloc o1).alloc o2).alloc o3).alloc o4).alloc o5 = W5 at *
  subst ho1 ho2 ho3 ho4 ho5
  have hw5 := HW.out.under hb5
  have ex : ∀ W, Below W5.heap.size W5 W → (W.heap[w.heap.size]? = some (.cells #[.string ⟨#[]⟩, .int .u64 0, .bool false, .string ⟨#[]⟩] 77) ∧ W.heap[w.heap.size + 1]? = some (.cells #[.bool false] 4)) := fun W hb => ⟨(hb.block _ (by omega)).trans g1, (hb.block _ (by omega)).trans g2⟩
  refine range_first rfl (by decide) (gf := 88) (lb := #[.pointer (some ⟨w.heap.size + 1 + 1, 0, none⟩), .pointer (some ⟨w.heap.size + 1 + 1 + 1, 0, none⟩), .pointer (some ⟨w.heap.size + 1 + 1 + 2, 0, none⟩)]) rfl trivial (enters_of Try.func88 (by kernel_rfl) rfl)
    (from_first hw5 (by rw [cell_of_obj g3]; rfl) (by rw [cell_of_obj g4]; rfl) (by rw [cell_of_obj g5]; rfl)) (fun _ => rfl)
    (fun e W => Below w.heap.size w W ∧ entAt W w.heap.size e ∧ W.cell? ⟨w.heap.size + 1, 0, none⟩ = some (.bool true)) ?hR
    (fun e a' W W' => W' = W.alloc (.cells #[.string e.1, .int .u64 e.2.1, .bool e.2.2.1, .string e.2.2.2] 77) ∧ a' = { tmps := #[.pointer (some ⟨L, 0, none⟩), .string k, .int .u64 s, undef, undef, undef, .pointer (some ⟨w.heap.size, 0, none⟩), .pointer (some ⟨w.heap.size + 1, 0, none⟩), .pointer (some ⟨W.heap.size, 0, none⟩), .pointer (some ⟨L, 0, none⟩), .string k, .int .u64 s, .func (.func 88) #[] #[.pointer (some ⟨w.heap.size + 1 + 1, 0, none⟩), .pointer (some ⟨w.heap.size + 1 + 1 + 1, 0, none⟩), .pointer (some ⟨w.heap.size + 1 + 1 + 2, 0, none⟩)], .agg #[.string e.1, .int .u64 e.2.1, .bool e.2.2.1, .string e.2.2.2], undef, undef], defers := [] })
    (fun e a' W W' h => by rw [h.1]; exact (Below.refl _ _).alloc (Nat.le_refl _) _) ?assign ?body ?done ?stop
  case hR =>
    rintro e A B row ⟨h1, h2, h3⟩ hg hr
    have hk : ∀ b, b < W5.heap.size → b < A.heap.size → B.heap[b]? = A.heap[b]? := fun b hb hb2 => hg.block b hb2 (fun e => by have := hr b e.symm; omega)
    have hA := h1.size
    have hlt : w.heap.size + 1 < A.heap.size := World.block_lt_of_cell? A _ h3
    exact ⟨h1.trans ⟨hg.os, hg.tape, hg.output, hg.size, fun b hb => hk b (by omega) (by omega)⟩, h2.keep (hk _ (by omega) (World.block_lt_of_cell? A _ h2.1)), (World.cell?_of_block (a := ⟨w.heap.size + 1, 0, none⟩) (hk (w.heap.size + 1) (by omega) hlt)).trans h3⟩
  case assign =>
    rintro l ⟨ek, es, ed, ev⟩ W K hb hK
    simp only [encE]
    gi_wp2
    try exact hK _ _ ⟨rfl, rfl⟩
  case body =>
    rintro l ⟨ek, es, ed, ev⟩ a' W W' W'' hb ⟨rfl, rfl⟩ hl1 hl2 hg
    obtain ⟨x1, x2⟩ := ex W hb
    have hsW := hb.size
    have hkb : ∀ b, b < W.heap.size → b ≠ l → W''.heap[b]? = W.heap[b]? := fun b hb1 hb2 => (hg.block b (by simp; omega) (fun e => hb2 (by cases e; rfl))).trans (Below.heap_alloc _ _ _ hb1)
    have y0 : W''.heap[W.heap.size]? = some (.cells #[.string ek, .int .u64 es, .bool ed, .string ev] 77) := (hg.block _ (by simp) (fun e => by cases e; omega)).trans (World.alloc_heap_new _ _)
    have y1 := (hkb w.heap.size (by omega) (by omega)).trans x1
    have y2 := (hkb (w.heap.size + 1) (by omega) (by omega)).trans x2
    have c0 : W''.cell? ⟨W.heap.size, 0, none⟩ = some (.string ek) := by rw [cell_of_obj y0]; rfl
    have c1 : W''.cell? ⟨W.heap.size, 1, none⟩ = some (.int .u64 es) := by rw [cell_of_obj y0]; rfl
    have c2 : W''.cell? ⟨W.heap.size, 2, none⟩ = some (.bool ed) := by rw [cell_of_obj y0]; rfl
    have c3 : W''.cell? ⟨W.heap.size, 3, none⟩ = some (.string ev) := by rw [cell_of_obj y0]; rfl
    have d0 : W''.cell? ⟨w.heap.size, 0, none⟩ = some (.string ⟨#[]⟩) := by rw [cell_of_obj y1]; rfl
    have d1 : W''.cell? ⟨w.heap.size, 1, none⟩ = some (.int .u64 0) := by rw [cell_of_obj y1]; rfl
    have d2 : W''.cell? ⟨w.heap.size, 2, none⟩ = some (.bool false) := by rw [cell_of_obj y1]; rfl
    have d3 : W''.cell? ⟨w.heap.size, 3, none⟩ = some (.string ⟨#[]⟩) := by rw [cell_of_obj y1]; rfl
    have f0 : W''.cell? ⟨w.heap.size + 1, 0, none⟩ = some (.bool false) := by rw [cell_of_obj y2]; rfl
    have fz1 : ∀ j, W''.frozen? ⟨w.heap.size, j, none⟩ = false := fun j => froz_of_obj y1
    have fz2 : ∀ j, W''.frozen? ⟨w.heap.size + 1, j, none⟩ = false := fun j => froz_of_obj y2
    have hbw : Below w.heap.size w W'' := (hb5.trans (hb.mono hb5.size)).trans ⟨hg.os, hg.tape, hg.output, by have := hg.size; simp at this; omega, fun b hb1 => hkb b (by omega) (by omega)⟩
    have HBW : Hid (Below w.heap.size w W'') := hbw
    have HSZ : Hid (W5.heap.size = w.heap.size + 5) := hs5
    clear hkb x1 x2 hg hb ex g1 g2 g3 g4 g5 hw5 hb5 y0 y1 y2 hbw hs5
    gi_wp2
    have hs5 := HSZ.out
    obtain ⟨q0, q1, q2, q3⟩ := set4_cells (v0 := .string ek) (v1 := .int .u64 es) (v2 := .bool ed) (v3 := .string ev) ⟨d0, d1, d2, d3⟩
    have oth : ∀ j, ((((W''.setCell ⟨w.heap.size, 0, none⟩ (.string ek)).setCell ⟨w.heap.size, 1, none⟩ (.int .u64 es)).setCell ⟨w.heap.size, 2, none⟩ (.bool ed)).setCell ⟨w.heap.size, 3, none⟩ (.string ev)).cell? ⟨w.heap.size + 1, j, none⟩ = W''.cell? ⟨w.heap.size + 1, j, none⟩ := fun j => by
      rw [World.cell?_of_block (a := ⟨w.heap.size + 1, j, none⟩) (Below.heap_setCell _ _ _ _ (by simp)), World.cell?_of_block (a := ⟨w.heap.size + 1, j, none⟩) (Below.heap_setCell _ _ _ _ (by simp)), World.cell?_of_block (a := ⟨w.heap.size + 1, j, none⟩) (Below.heap_setCell _ _ _ _ (by simp)), World.cell?_of_block (a := ⟨w.heap.size + 1, j, none⟩) (Below.heap_setCell _ _ _ _ (by simp))]
    have hblk : ∀ b, w.heap.size + 2 ≤ b → ((((W''.setCell ⟨w.heap.size, 0, none⟩ (.string ek)).setCell ⟨w.heap.size, 1, none⟩ (.int .u64 es)).setCell ⟨w.heap.size, 2, none⟩ (.bool ed)).setCell ⟨w.heap.size, 3, none⟩ (.string ev)).heap[b]? = W''.heap[b]? := fun b hb => by
      rw [Below.heap_setCell _ _ _ b (by simp; omega), Below.heap_setCell _ _ _ b (by simp; omega), Below.heap_setCell _ _ _ b (by simp; omega), Below.heap_setCell _ _ _ b (by simp; omega)]
    have hb4 : Below w.heap.size w ((((W''.setCell ⟨w.heap.size, 0, none⟩ (.string ek)).setCell ⟨w.heap.size, 1, none⟩ (.int .u64 es)).setCell ⟨w.heap.size, 2, none⟩ (.bool ed)).setCell ⟨w.heap.size, 3, none⟩ (.string ev)) := (((HBW.out.setCell (p := ⟨w.heap.size, 0, none⟩) (Nat.le_refl _) _).setCell (p := ⟨w.heap.size, 1, none⟩) (Nat.le_refl _) _).setCell (p := ⟨w.heap.size, 2, none⟩) (Nat.le_refl _) _).setCell (p := ⟨w.heap.size, 3, none⟩) (Nat.le_refl _) _
    have hsz4 : ((((W''.setCell ⟨w.heap.size, 0, none⟩ (.string ek)).setCell ⟨w.heap.size, 1, none⟩ (.int .u64 es)).setCell ⟨w.heap.size, 2, none⟩ (.bool ed)).setCell ⟨w.heap.size, 3, none⟩ (.string ev)).heap.size = W''.heap.size := by simp
    generalize (((W''.setCell ⟨w.heap.size, 0, none⟩ (.string ek)).setCell ⟨w.heap.size, 1, none⟩ (.int .u64 es)).setCell ⟨w.heap.size, 2, none⟩ (.bool ed)).setCell ⟨w.heap.size, 3, none⟩ (.string ev) = W4 at *
    have hE4 : (W4.setCell ⟨w.heap.size + 1, 0, none⟩ (.bool true)).heap[w.heap.size]? = W4.heap[w.heap.size]? := Below.heap_setCell _ _ _ _ (by simp)
    refine ⟨⟨hb4.setCell (p := ⟨w.heap.size + 1, 0, none⟩) (by simp) _, ?_, World.cell?_setCell_same _ _ _ ((oth 0).trans f0)⟩, by simp [hsz4], fun b hb1 hb2 => ?_⟩
    · exact entAt.keep (w := W4) ⟨q0, q1, q2, q3⟩ hE4
    · rw [Below.heap_setCell _ _ _ b (by simp; omega)]
      exact hblk b (by omega)
  case done =>
    rintro hpn D W hD hb hDd
    obtain ⟨y1, y2⟩ := ex W hb
    have d0 : W.cell? ⟨w.heap.size, 0, none⟩ = some (.string ⟨#[]⟩) := by rw [cell_of_obj y1]; rfl
    have d1 : W.cell? ⟨w.heap.size, 1, none⟩ = some (.int .u64 0) := by rw [cell_of_obj y1]; rfl
    have d2 : W.cell? ⟨w.heap.size, 2, none⟩ = some (.bool false) := by rw [cell_of_obj y1]; rfl
    have d3 : W.cell? ⟨w.heap.size, 3, none⟩ = some (.string ⟨#[]⟩) := by rw [cell_of_obj y1]; rfl
    have f0 : W.cell? ⟨w.heap.size + 1, 0, none⟩ = some (.bool false) := by rw [cell_of_obj y2]; rfl
    have fz1 : ∀ j, W.frozen? ⟨w.heap.size, j, none⟩ = false := fun j => froz_of_obj y1
    have fz2 : ∀ j, W.frozen? ⟨w.heap.size + 1, j, none⟩ = false := fun j => froz_of_obj y2
    have HBW : Hid (Below w.heap.size w W) := hb5.trans (hb.mono hb5.size)
    have HPN : Hid (post = []) := hpn
    have hsW := hb.size
    clear ex g1 g2 g3 g4 g5 hw5 hb5 y1 y2 hb hpn
    gi_wp2
    obtain ⟨q0, q1, q2, q3⟩ := set4_cells (v0 := .string ⟨#[]⟩) (v1 := .int .u64 0) (v2 := .bool false) (v3 := .string ⟨#[]⟩) ⟨d0, d1, d2, d3⟩
    have hblk : ∀ b, w.heap.size + 1 ≤ b → ((((W.setCell ⟨w.heap.size, 0, none⟩ (.string ⟨#[]⟩)).setCell ⟨w.heap.size, 1, none⟩ (.int .u64 0)).setCell ⟨w.heap.size, 2, none⟩ (.bool false)).setCell ⟨w.heap.size, 3, none⟩ (.string ⟨#[]⟩)).heap[b]? = W.heap[b]? := fun b hb => by
      rw [Below.heap_setCell _ _ _ b (by simp; omega), Below.heap_setCell _ _ _ b (by simp; omega), Below.heap_setCell _ _ _ b (by simp; omega), Below.heap_setCell _ _ _ b (by simp; omega)]
    have hb4 : Below w.heap.size w ((((W.setCell ⟨w.heap.size, 0, none⟩ (.string ⟨#[]⟩)).setCell ⟨w.heap.size, 1, none⟩ (.int .u64 0)).setCell ⟨w.heap.size, 2, none⟩ (.bool false)).setCell ⟨w.heap.size, 3, none⟩ (.string ⟨#[]⟩)) := (((HBW.out.setCell (p := ⟨w.heap.size, 0, none⟩) (Nat.le_refl _) _).setCell (p := ⟨w.heap.size, 1, none⟩) (Nat.le_refl _) _).setCell (p := ⟨w.heap.size, 2, none⟩) (Nat.le_refl _) _).setCell (p := ⟨w.heap.size, 3, none⟩) (Nat.le_refl _) _
    generalize (((W.setCell ⟨w.heap.size, 0, none⟩ (.string ⟨#[]⟩)).setCell ⟨w.heap.size, 1, none⟩ (.int .u64 0)).setCell ⟨w.heap.size, 2, none⟩ (.bool false)).setCell ⟨w.heap.size, 3, none⟩ (.string ⟨#[]⟩) = W4 at *
    have q4 : (W4.setCell ⟨w.heap.size + 1, 0, none⟩ (.bool false)).cell? ⟨w.heap.size + 1, 0, none⟩ = some (.bool false) := World.cell?_setCell_same _ _ _ ((World.cell?_of_block (a := ⟨w.heap.size + 1, 0, none⟩) (hblk _ (Nat.le_refl _))).trans f0)
    obtain ⟨r0, r1, r2, r3⟩ := entAt.keep (w := W4) (w' := W4.setCell ⟨w.heap.size + 1, 0, none⟩ (.bool false)) (b := w.heap.size) (e := (⟨#[]⟩, 0, false, ⟨#[]⟩)) ⟨q0, q1, q2, q3⟩ (Below.heap_setCell _ _ _ _ (by simp))
    have hb6 : Below w.heap.size w (W4.setCell ⟨w.heap.size + 1, 0, none⟩ (.bool false)) := hb4.setCell (p := ⟨w.heap.size + 1, 0, none⟩) (by simp) _
    have hD6 : (W4.setCell ⟨w.heap.size + 1, 0, none⟩ (.bool false)).heap[D]? = some (.deferred (some [])) := by
      rw [Below.heap_setCell _ _ _ D (by simp; omega), hblk D (by omega)]
      exact hDd
    generalize W4.setCell ⟨w.heap.size + 1, 0, none⟩ (.bool false) = W6 at *
    refine ⟨by simp, .inl ⟨_, _, rfl, run_takeDeferred hD6, ?_⟩⟩
    have hk : ∀ b, b ≠ D → (W6.putObj D (.deferred none)).heap[b]? = W6.heap[b]? := fun b hb => World.putObj_heap_other hb
    obtain ⟨t0, t1, t2, t3⟩ := entAt.keep (w := W6) (b := w.heap.size) (e := (⟨#[]⟩, 0, false, ⟨#[]⟩)) ⟨r0, r1, r2, r3⟩ (hk w.heap.size (by omega))
    have t4 := (World.cell?_of_block (a := ⟨w.heap.size + 1, 0, none⟩) (hk (w.heap.size + 1) (by omega))).trans q4
    refine ⟨seekV post, ?_, rfl, hb6.trans ⟨rfl, rfl, rfl, by simp, fun b hb => hk b (by omega)⟩⟩
    rw [HPN.out]
    simp [results, Try.results71, go_sem, seekV, t0, t1, t2, t3, t4]
  case stop =>
    rintro nd r hpn D W hD ⟨h1, h2, h3⟩ hDd
    gi_wp2
    refine ⟨by simp, .inl ⟨_, _, rfl, run_takeDeferred hDd, ?_⟩⟩
    have hk : ∀ b, b ≠ D → (W.putObj D (.deferred none)).heap[b]? = W.heap[b]? := fun b hb => World.putObj_heap_other hb
    obtain ⟨q0, q1, q2, q3⟩ := h2.keep (hk w.heap.size (by omega))
    have q4 := (World.cell?_of_block (a := ⟨w.heap.size + 1, 0, none⟩) (hk (w.heap.size + 1) (by omega))).trans h3
    refine ⟨seekV post, ?_, rfl, h1.trans ⟨rfl, rfl, rfl, by simp, fun b hb => hk b (by omega)⟩⟩
    rw [hpn]
    simp [results, Try.results71, go_sem, seekV, q0, q1, q2, q3, q4]
end Sk
end Go.Proofs.Ytcioaoanhmpdkaa
