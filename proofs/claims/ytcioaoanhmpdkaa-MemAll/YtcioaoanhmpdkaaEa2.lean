import Derived.Test.YtcioaoanhmpdkaaSkS
namespace Go.Proofs.Ytcioaoanhmpdkaa
namespace Sk
open Go.RowKit Go.Shelf Laws Irw Erw KMath Skm Byt
set_option linter.unusedVariables false
set_option maxRecDepth 100000
set_option linter.unusedSimpArgs false
attribute [local go_sem] Oper.semAt_some

/-- what a round that is told an entry must leave -/
def Gives (u : Nat → Prop) (B : Nat) (J Jx : List En → (Nat → Nat) → World → Prop) (es : List En) (T : Nat → Nat) (W1 : World) (b : Bool) (W2 : World) : Prop :=
  ∃ T2, KeepsFrom B W1 W2 ∧ (b = true → J es T2 W2 ∧ Goes u T W1 T2 W2 ∧ ∀ x, W2.heap.size ≤ x → T2 x = 0) ∧ (b = false → Jx es T2 W2)
/-- what outlasts a change of a block that holds no cells -/
def Lasts (B : Nat) (J : List En → (Nat → Nat) → World → Prop) : Prop := ∀ es T A C row, J es T A → A.grownBy C row → (∀ r, row = some r → B ≤ r ∧ ∃ o : Obj, A.heap[r]? = some o ∧ o.isCells = false) → J es T C
set_option maxHeartbeats 2000000 in
/-- From's iterator, of any loop's yield. -/
theorem each_in (u : Nat → Prop) (hu0 : ¬ u 0) (t : Nat) (ht : ¬ u t) (T0 : Nat → Nat) (l Bl Bk Bs L : Nat) (k : ByteArray) (s : Int) (ns pre post : List Nd) (W : World) (hw : Wk W L k s ns pre post)
    (htg : ∀ nd ∈ ns, T0 nd.b = t) (htL : T0 L = t) (hz0 : ∀ b, W.heap.size ≤ b → T0 b = 0)
    (hBl : W.cell? ⟨Bl, 0, none⟩ = some (.pointer (some ⟨L, 0, none⟩))) (hBk : W.cell? ⟨Bk, 0, none⟩ = some (.string k)) (hBs : W.cell? ⟨Bs, 0, none⟩ = some (.int .u64 s))
    (J Jx : List En → (Nat → Nat) → World → Prop) (hJ : Lasts W.heap.size J) (hJx : Lasts W.heap.size Jx) (h0 : J [] T0 W)
    (hY : ∀ (es : List En) (e : En) T W1, J es T W1 → (∀ b, W1.heap.size ≤ b → T b = 0) → es.length < ns.length → YieldAt Fence.wide (6 - 1 - 1 - 1) Try.prog l #[.agg #[.string e.1, .int .u64 e.2.1, .bool e.2.2.1, .string e.2.2.2]] W1 fun r W2 => ∃ b, r = .returned (.bool b) ∧ Gives u W.heap.size J Jx (es ++ [e]) T W1 b W2) :
    CallsIn Fence.wide 6 Try.prog 88 #[.func (.yield l) #[] #[], .pointer (some ⟨Bl, 0, none⟩), .pointer (some ⟨Bk, 0, none⟩), .pointer (some ⟨Bs, 0, none⟩)] W fun e W' => (∃ v, e = .returned v) ∧ ((∃ T', J (post.map Nd.e) T' W') ∨ ∃ es T', es <+: post.map Nd.e ∧ Jx es T' W') := by
  have HW : Hid (Wk W L k s ns pre post) := hw
  have HY : Hid (∀ (es : List En) (e : En) T W1, J es T W1 → (∀ b, W1.heap.size ≤ b → T b = 0) → es.length < ns.length → YieldAt Fence.wide (6 - 1 - 1 - 1) Try.prog l #[.agg #[.string e.1, .int .u64 e.2.1, .bool e.2.2.1, .string e.2.2.2]] W1 fun r W2 => ∃ b, r = .returned (.bool b) ∧ Gives u W.heap.size J Jx (es ++ [e]) T W1 b W2) := hY
  have HJ : Hid (Lasts W.heap.size J ∧ Lasts W.heap.size Jx) := ⟨hJ, hJx⟩
  have H0 : Hid (J [] T0 W) := h0
  have HTG : Hid ((∀ nd ∈ ns, T0 nd.b = t) ∧ T0 L = t ∧ ∀ b, W.heap.size ≤ b → T0 b = 0) := ⟨htg, htL, hz0⟩
  have HUT : Hid (¬ u t ∧ ¬ u 0) := ⟨ht, hu0⟩
  clear hw hY hJ hJx h0 htg htL hz0 ht hu0
  refine callsIn_of_wp_marks Try.func88 rfl trivial ?_ rfl
  simp only [Try.ntmps88, List.size_toArray, List.length_cons, List.length_nil, Nat.reduceAdd, Nat.reduceSub, Array.replicate_succ, Array.replicate_zero, List.push_toArray, List.append_toArray, List.nil_append, List.cons_append]
  have hfB : Fence.wide.fn 90 := trivial
  have hfA : Fence.wide.fn 89 := trivial
  have hb1 : Below W.heap.size W (W.alloc (.cells #[.func (.yield l) #[] #[]] 92)) := (Below.refl _ _).alloc (Nat.le_refl _) _
  have g1 : (W.alloc (.cells #[.func (.yield l) #[] #[]] 92)).heap[W.heap.size]? = some (.cells #[.func (.yield l) #[] #[]] 92) := World.alloc_heap_new _ _
  have l1 := (hb1.cell (p := ⟨Bl, 0, none⟩) (World.block_lt_of_cell? W _ hBl)).trans hBl
  have k1 := (hb1.cell (p := ⟨Bk, 0, none⟩) (World.block_lt_of_cell? W _ hBk)).trans hBk
  have s1 := (hb1.cell (p := ⟨Bs, 0, none⟩) (World.block_lt_of_cell? W _ hBs)).trans hBs
  generalize hW1 : W.alloc (.cells #[.func (.yield l) #[] #[]] 92) = W1 at *
  have HW1 : Hid (Wk W1 L k s ns pre post) := HW.out.under hb1
  gi_wp2_with fail
  try rw [hW1]
  refine (callsIn_wide.2 (HW1.out.ahead false ⟨#[]⟩)).mono ?_
  rintro e w2 ⟨rfl, hb2⟩
  unfold lastV lp
  have HB2 : Hid (Below W.heap.size W w2) := hb1.trans (hb2.mono hb1.size)
  have hY1 : W.heap.size < W1.heap.size := (Array.getElem?_eq_some_iff.1 g1).1
  have g2 : w2.heap[W.heap.size]? = some (.cells #[.func (.yield l) #[] #[]] 92) := (hb2.block _ hY1).trans g1
  have hs2 := hb2.size
  clear hW1 l1 k1 s1 HW1 g1
  have hb3 : Below w2.heap.size w2 (w2.alloc (.cells #[.pointer (some ⟨lst L 0 pre, 0, none⟩), .pointer (some ⟨lst L 1 pre, 0, none⟩), .pointer (some ⟨lst L 2 pre, 0, none⟩), .pointer (some ⟨lst L 3 pre, 0, none⟩), .pointer (some ⟨lst L 4 pre, 0, none⟩), .pointer (some ⟨lst L 5 pre, 0, none⟩), .pointer (some ⟨lst L 6 pre, 0, none⟩), .pointer (some ⟨lst L 7 pre, 0, none⟩), .pointer (some ⟨lst L 8 pre, 0, none⟩), .pointer (some ⟨lst L 9 pre, 0, none⟩), .pointer (some ⟨lst L 10 pre, 0, none⟩), .pointer (some ⟨lst L 11 pre, 0, none⟩)] 120)) := (Below.refl _ _).alloc (Nat.le_refl _) _
  have a0 : (w2.alloc (.cells #[.pointer (some ⟨lst L 0 pre, 0, none⟩), .pointer (some ⟨lst L 1 pre, 0, none⟩), .pointer (some ⟨lst L 2 pre, 0, none⟩), .pointer (some ⟨lst L 3 pre, 0, none⟩), .pointer (some ⟨lst L 4 pre, 0, none⟩), .pointer (some ⟨lst L 5 pre, 0, none⟩), .pointer (some ⟨lst L 6 pre, 0, none⟩), .pointer (some ⟨lst L 7 pre, 0, none⟩), .pointer (some ⟨lst L 8 pre, 0, none⟩), .pointer (some ⟨lst L 9 pre, 0, none⟩), .pointer (some ⟨lst L 10 pre, 0, none⟩), .pointer (some ⟨lst L 11 pre, 0, none⟩)] 120)).cell? ⟨w2.heap.size, 0, none⟩ = some (.pointer (some ⟨lst L 0 pre, 0, none⟩)) := by rw [cell_of_obj (World.alloc_heap_new _ _)]; rfl
  have hs3 : (w2.alloc (.cells #[.pointer (some ⟨lst L 0 pre, 0, none⟩), .pointer (some ⟨lst L 1 pre, 0, none⟩), .pointer (some ⟨lst L 2 pre, 0, none⟩), .pointer (some ⟨lst L 3 pre, 0, none⟩), .pointer (some ⟨lst L 4 pre, 0, none⟩), .pointer (some ⟨lst L 5 pre, 0, none⟩), .pointer (some ⟨lst L 6 pre, 0, none⟩), .pointer (some ⟨lst L 7 pre, 0, none⟩), .pointer (some ⟨lst L 8 pre, 0, none⟩), .pointer (some ⟨lst L 9 pre, 0, none⟩), .pointer (some ⟨lst L 10 pre, 0, none⟩), .pointer (some ⟨lst L 11 pre, 0, none⟩)] 120)).heap.size = w2.heap.size + 1 := by simp
  generalize hW3 : w2.alloc (.cells #[.pointer (some ⟨lst L 0 pre, 0, none⟩), .pointer (some ⟨lst L 1 pre, 0, none⟩), .pointer (some ⟨lst L 2 pre, 0, none⟩), .pointer (some ⟨lst L 3 pre, 0, none⟩), .pointer (some ⟨lst L 4 pre, 0, none⟩), .pointer (some ⟨lst L 5 pre, 0, none⟩), .pointer (some ⟨lst L 6 pre, 0, none⟩), .pointer (some ⟨lst L 7 pre, 0, none⟩), .pointer (some ⟨lst L 8 pre, 0, none⟩), .pointer (some ⟨lst L 9 pre, 0, none⟩), .pointer (some ⟨lst L 10 pre, 0, none⟩), .pointer (some ⟨lst L 11 pre, 0, none⟩)] 120) = W3 at *
  gi_wp2_with (gi_at_call 90; refine (behind_in _ _ _ _).mono ?_; rintro e w' ⟨rfl, rfl⟩)
  try rw [hW3]
  clear hW3
  have HB3 : Hid (Below W.heap.size W W3) := HB2.out.trans (hb3.mono HB2.out.size)
  have g3 : W3.heap[W.heap.size]? = some (.cells #[.func (.yield l) #[] #[]] 92) := (hb3.block _ (by omega)).trans g2
  have hb5 : Below W3.heap.size W3 ((W3.alloc (.cells #[.pointer (some ⟨lst L 0 pre, 0, none⟩)] 119)).alloc (.cells #[.int .i64 0] 3)) := ((Below.refl _ _).alloc (Nat.le_refl _) _).alloc (by simp) _
  have bn : ((W3.alloc (.cells #[.pointer (some ⟨lst L 0 pre, 0, none⟩)] 119)).alloc (.cells #[.int .i64 0] 3)).cell? ⟨w2.heap.size + 1, 0, none⟩ = some (.pointer (some ⟨lst L 0 pre, 0, none⟩)) := by
    rw [World.cell?_of_block (Below.heap_alloc _ _ _ (by simp; omega)), ← hs3, World.cell?_alloc_at _ _ _ _ rfl]; rfl
  have bi : ((W3.alloc (.cells #[.pointer (some ⟨lst L 0 pre, 0, none⟩)] 119)).alloc (.cells #[.int .i64 0] 3)).cell? ⟨w2.heap.size + 1 + 1, 0, none⟩ = some (.int .i64 ((0 : Nat) : Int)) := by
    rw [World.cell?_alloc_at _ _ _ _ (by simp; omega)]; rfl
  have hs5 : ((W3.alloc (.cells #[.pointer (some ⟨lst L 0 pre, 0, none⟩)] 119)).alloc (.cells #[.int .i64 0] 3)).heap.size = w2.heap.size + 3 := by simp; omega
  generalize (W3.alloc (.cells #[.pointer (some ⟨lst L 0 pre, 0, none⟩)] 119)).alloc (.cells #[.int .i64 0] 3) = W5 at *
  have HB5 : Hid (Below W.heap.size W W5) := HB3.out.trans (hb5.mono HB3.out.size)
  have hg5 : W5.heap[W.heap.size]? = some (.cells #[.func (.yield l) #[] #[]] 92) := (hb5.block _ (by omega)).trans g3
  have hw5 := HW.out.under HB5.out
  obtain ⟨sh, hsh, hTs, hst, hsub⟩ := hw5.st
  have hnl : ∀ nd ∈ ns, nd.b < W.heap.size := fun nd hnd => HW.out.chain.lt hnd
  have hps1 : ∀ nd ∈ post, 1 ≤ nd.h := fun nd hnd => (HW.out.hts nd (by rw [HW.out.cut]; simp [hnd])).1
  clear hb1 hb2 hb3 hb5 g2 g3 a0
  refine wpIn_rangeFunc_ownG rfl (by decide) (gf := 100) (lb := #[.pointer (some ⟨w2.heap.size + 1, 0, none⟩), .pointer (some ⟨w2.heap.size + 1 + 1, 0, none⟩)]) rfl trivial (enters_of Try.func100 (by kernel_rfl) rfl)
    (behind_stops (6 - 1) (by decide) (w2.heap.size + 1) (w2.heap.size + 1 + 1) 0 (by omega) (lst L 0 pre) sh hsh post ns hsub W5 bn bi hTs hst hw5.chain) Kp.trans ?kb (Below.refl _ _) (fun _ => rfl)
    (fun come W' => ∃ T, J (come.map fun x => x.1.e) T W' ∧ Goes u T0 W T W' ∧ W5.heap.size ≤ W'.heap.size ∧ (∀ b, W.heap.size ≤ b → b < W5.heap.size → T b = 0 ∧ W'.heap[b]? = W5.heap[b]?) ∧ ∀ b, W'.heap.size ≤ b → T b = 0)
    (fun c come W' => c = .ret ∧ W5.heap.size ≤ W'.heap.size ∧ ∃ T, Jx (come.map fun x => x.1.e) T W')
    ?own1 ?own2 ⟨T0, HJ.out.1 [] T0 W W5 none H0.out ⟨HB5.out.os, HB5.out.tape, HB5.out.output, HB5.out.size, fun b hb _ => HB5.out.block b hb⟩ (fun r e => by cases e), Goes.below HB5.out, Nat.le_refl _, fun b hb _ => ⟨HTG.out.2.2 b hb, rfl⟩, fun b hb => HTG.out.2.2 b (by omega)⟩
    (fun x => { tmps := #[.func (.yield l) #[] #[], .pointer (some ⟨Bl, 0, none⟩), .pointer (some ⟨Bk, 0, none⟩), .pointer (some ⟨Bs, 0, none⟩), .pointer (some ⟨W.heap.size, 0, none⟩), .pointer (some ⟨w2.heap.size, 0, none⟩), .pointer (some ⟨x.1.b, 0, none⟩), .pointer (some ⟨L, 0, none⟩), .string k, .int .u64 s, .agg #[.string k, .int .u64 s, .bool false, .string ⟨#[]⟩], .agg #[.pointer (some ⟨lst L 0 pre, 0, none⟩), .pointer (some ⟨lst L 1 pre, 0, none⟩), .pointer (some ⟨lst L 2 pre, 0, none⟩), .pointer (some ⟨lst L 3 pre, 0, none⟩), .pointer (some ⟨lst L 4 pre, 0, none⟩), .pointer (some ⟨lst L 5 pre, 0, none⟩), .pointer (some ⟨lst L 6 pre, 0, none⟩), .pointer (some ⟨lst L 7 pre, 0, none⟩), .pointer (some ⟨lst L 8 pre, 0, none⟩), .pointer (some ⟨lst L 9 pre, 0, none⟩), .pointer (some ⟨lst L 10 pre, 0, none⟩), .pointer (some ⟨lst L 11 pre, 0, none⟩)], .pointer (some ⟨w2.heap.size, 0, none⟩), .pointer (some ⟨lst L 0 pre, 0, none⟩), .func (.func 100) #[] #[.pointer (some ⟨w2.heap.size + 1, 0, none⟩), .pointer (some ⟨w2.heap.size + 1 + 1, 0, none⟩)], .pointer (some ⟨x.1.b, 0, none⟩), undef, undef, undef, undef, undef, undef, undef], defers := [] }) ?assign ?body ?done ?stop
  case kb =>
    intro W' l o o' hl h _ _
    exact ⟨fun nd hnd => World.putObj_heap_other (by have := hnl nd hnd; omega), World.putObj_heap_other (by omega), World.putObj_heap_other (by omega)⟩
  case own1 =>
    rintro come A B row ⟨T, h1, h2, h3, h4, h5⟩ hg hr
    have hk : ∀ b, b < W5.heap.size → B.heap[b]? = A.heap[b]? := fun b hb => hg.block b (by omega) (fun e => by have := (hr b e.symm).1; omega)
    refine ⟨T, HJ.out.1 _ T A B row h1 hg (fun r e => ⟨by have := (hr r e).1; omega, (hr r e).2⟩), ?_, Nat.le_trans h3 hg.size, fun b hb hb2 => ⟨(h4 b hb hb2).1, (hk b hb2).trans (h4 b hb hb2).2⟩, fun b hb => h5 b (Nat.le_trans hg.size hb)⟩
    exact ⟨hg.os.trans h2.os, hg.tape.trans h2.tape, hg.output.trans h2.output, Nat.le_trans h2.size hg.size, fun b hb hu => (hk b (by omega)).trans (h2.block b hb hu), h2.tag, fun b hb h0 => h2.high b (Nat.le_trans hg.size hb) h0⟩
  case own2 =>
    rintro c come A B row ⟨h00, h3, T, h1⟩ hg hr
    exact ⟨h00, Nat.le_trans h3 hg.size, T, HJ.out.2 _ T A B row h1 hg (fun r e => ⟨by have := (hr r e).1; omega, (hr r e).2⟩)⟩
  case assign =>
    intro l1 x W' K' hK'
    simp only [encN]
    gi_wp2
    exact hK'
  case body =>
    rintro l1 come x W' ⟨T, hTk, hgo, hsW, hkW, hzW⟩ hcl
    obtain ⟨rx, hnx⟩ := HW.out.chain.node x.2
    obtain ⟨c0, c1, c2, c3⟩ := (hnx.keep (hgo.block _ (hnl _ x.2) (by rw [HTG.out.1 _ x.2]; exact HUT.out.1))).ent
    have y0 : W'.cell? ⟨W.heap.size, 0, none⟩ = some (.func (.yield l) #[] #[]) := by
      rw [cell_of_obj ((hkW _ (Nat.le_refl _) (by omega)).2.trans hg5)]; rfl
    have hJd := HJ.out.1 _ T W' W'.drew none hTk ⟨rfl, rfl, rfl, Nat.le_refl _, fun _ _ _ => rfl⟩ (fun r e => by cases e)
    obtain ⟨fn, tm, asg, bod, hy, hR⟩ := HY.out _ x.1.e T W'.drew hJd hzW (by rw [List.length_map]; exact hcl)
    have HIN : Hid (Goes u T0 W T W' ∧ W5.heap.size ≤ W'.heap.size ∧ (∀ b, W.heap.size ≤ b → b < W5.heap.size → T b = 0 ∧ W'.heap[b]? = W5.heap[b]?)) := ⟨hgo, hsW, hkW⟩
    have HMP : Hid ((come ++ [x]).map (fun x : Of ns => x.1.e) = (come.map fun x => x.1.e) ++ [x.1.e]) := by show _ = _; rw [List.map_append]; rfl
    obtain ⟨⟨xb, ⟨xk, xs, xd, xv⟩, xh⟩, hxm⟩ := x
    dsimp only at *
    clear hTk hgo hkW hzW hnx hJd
    gi_wp2
    gi_region_with (go_simp; refine hR.mono ?_; rintro r W2 ⟨bo, rfl, hj2⟩)
    all_goals (
      have HJ2 : Hid (Gives u W.heap.size J Jx ((come.map fun x : Of ns => x.1.e) ++ [(xk, xs, xd, xv)]) T W'.drew bo W2) := hj2
      clear hj2 hR hy
      obtain ⟨hgo, hsW, hkW⟩ := HIN.out
      cases bo with
      | true =>
        gi_wp2
        obtain ⟨T2, q4, q5, _⟩ := HJ2.out
        obtain ⟨q1, q2, q3⟩ := q5 rfl
        have q2' : Goes u T W' T2 W2 := (Goes.below (Below.refl _ _).drew).trans q2
        have hold : ∀ b, W.heap.size ≤ b → b < W5.heap.size → T2 b = 0 ∧ W2.heap[b]? = W5.heap[b]? := fun b hb hb2 => by
          obtain ⟨e1, e2⟩ := hkW b hb hb2
          have hu : ¬ u (T b) := by rw [e1]; exact HUT.out.2
          exact ⟨(q2'.tag b (by omega) hu).trans e1, (q2'.block b (by omega) hu).trans e2⟩
        refine ⟨⟨q4.size, fun k o hB hk ho => q4.same k o (by omega) hk ho⟩, ⟨fun nd hnd => ?_, ?_, ?_⟩, T2, by rw [HMP.out]; exact q1, hgo.trans q2', Nat.le_trans hsW q2'.size, hold, q3⟩
        · have e1 := hgo.tag _ (hnl nd hnd) (by rw [HTG.out.1 nd hnd]; exact HUT.out.1)
          exact q2'.block _ (Nat.lt_of_lt_of_le (hnl nd hnd) hgo.size) (by rw [e1, HTG.out.1 nd hnd]; exact HUT.out.1)
        · exact (hold _ (by omega) (by omega)).2.trans (hkW _ (by omega) (by omega)).2.symm
        · exact (hold _ (by omega) (by omega)).2.trans (hkW _ (by omega) (by omega)).2.symm
      | false =>
        gi_wp2
        obtain ⟨T2, q4, _, q5⟩ := HJ2.out
        exact ⟨⟨q4.size, fun k o hB hk ho => q4.same k o (by omega) hk ho⟩, rfl, Nat.le_trans hsW q4.size, T2, by rw [HMP.out]; exact q5 rfl⟩)
  case done =>
    rintro D come W' hD hcome ⟨T, hTk, hgo, hsW, hkW, hzW⟩ hDd
    have HEQ : Hid ((come.map fun x => x.1.e) = post.map Nd.e) := by
      rw [lev0 hps1] at hcome
      have := congrArg (List.map Nd.e) hcome
      rw [List.map_map] at this
      exact this
    clear hcome
    gi_wp2
    refine ⟨by simp, .inl ⟨_, _, rfl, run_takeDeferred hDd, ?_⟩⟩
    refine ⟨_, results_none rfl _ _ _, ⟨_, rfl⟩, .inl ⟨T, ?_⟩⟩
    rw [← HEQ.out]
    exact HJ.out.1 _ T W' _ (some D) hTk (grownBy_putObj' W' D (.deferred none)) (fun r e => by cases e; exact ⟨by omega, _, hDd, rfl⟩)
  case stop =>
    rintro D c come W' hD hcome ⟨rfl, hsW, T, hTk⟩ hDd
    have HEQ : Hid ((come.map fun x => x.1.e) <+: post.map Nd.e) := by
      rw [lev0 hps1] at hcome
      obtain ⟨r, hr⟩ := hcome
      refine ⟨r.map Nd.e, ?_⟩
      have := congrArg (List.map Nd.e) hr
      rw [List.map_append, List.map_map] at this
      exact this
    clear hcome
    gi_wp2
    refine ⟨by simp, .inl ⟨_, _, rfl, run_takeDeferred hDd, ?_⟩⟩
    exact ⟨_, results_none rfl _ _ _, ⟨_, rfl⟩, .inr ⟨_, T, HEQ.out, HJ.out.2 _ T W' _ (some D) hTk (grownBy_putObj' W' D (.deferred none)) (fun r e => by cases e; exact ⟨by omega, _, hDd, rfl⟩)⟩⟩
end Sk
end Go.Proofs.Ytcioaoanhmpdkaa
namespace Go.Proofs.Ytcioaoanhmpdkaa
namespace Sk
open Go.RowKit Go.Shelf Laws Irw Erw KMath Skm Byt
set_option linter.unusedVariables false
set_option maxRecDepth 100000
set_option linter.unusedSimpArgs false

/-- An iterator that gives entries to whatever loop. -/
def SeqEach (u : Nat → Prop) (F : Fence) (n : Nat) (P : Program) (gf : Nat) (lb : Array Value) (enc : En → Array Value) (post : List En) (N : Nat) (w : World) (T0 : Nat → Nat) : Prop :=
  ∀ (l : Nat) (W : World) (J Jx : List En → (Nat → Nat) → World → Prop), Below w.heap.size w W → Lasts W.heap.size J → Lasts W.heap.size Jx → J [] T0 W →
    (∀ (es : List En) (e : En) T W1, J es T W1 → (∀ b, W1.heap.size ≤ b → T b = 0) → es.length < N → YieldAt F (n - 1 - 1 - 1) P l (enc e) W1 fun r W2 => ∃ b, r = .returned (.bool b) ∧ Gives u W.heap.size J Jx (es ++ [e]) T W1 b W2) →
    CallsIn F n P gf (#[.func (.yield l) #[] #[]] ++ lb) W fun e W' => (∃ v, e = .returned v) ∧ ((∃ T', J post T' W') ∨ ∃ es T', es <+: post ∧ Jx es T' W')
def encE4 (e : En) : Array Value := #[.agg #[.string e.1, .int .u64 e.2.1, .bool e.2.2.1, .string e.2.2.2]]
theorem from_each (u : Nat → Prop) (hu0 : ¬ u 0) (t : Nat) (ht : ¬ u t) (T0 : Nat → Nat) (Bl Bk Bs L : Nat) (k : ByteArray) (s : Int) (ns pre post : List Nd) (w : World) (hw : Wk w L k s ns pre post)
    (htg : ∀ nd ∈ ns, T0 nd.b = t) (htL : T0 L = t) (hz0 : ∀ b, w.heap.size ≤ b → T0 b = 0)
    (hBl : w.cell? ⟨Bl, 0, none⟩ = some (.pointer (some ⟨L, 0, none⟩))) (hBk : w.cell? ⟨Bk, 0, none⟩ = some (.string k)) (hBs : w.cell? ⟨Bs, 0, none⟩ = some (.int .u64 s)) :
    SeqEach u Fence.wide 6 Try.prog 88 #[.pointer (some ⟨Bl, 0, none⟩), .pointer (some ⟨Bk, 0, none⟩), .pointer (some ⟨Bs, 0, none⟩)] encE4 (post.map Nd.e) ns.length w T0 := fun l W J Jx hW hJ hJx h0 hY =>
  each_in u hu0 t ht T0 l Bl Bk Bs L k s ns pre post W (hw.under hW) htg htL (fun b hb => hz0 b (Nat.le_trans hW.size hb)) ((hW.cell (p := ⟨Bl, 0, none⟩) (World.block_lt_of_cell? w _ hBl)).trans hBl) ((hW.cell (p := ⟨Bk, 0, none⟩) (World.block_lt_of_cell? w _ hBk)).trans hBk) ((hW.cell (p := ⟨Bs, 0, none⟩) (World.block_lt_of_cell? w _ hBs)).trans hBs) J Jx hJ hJx h0 hY

/-- how a round is left -/
def eachPost (u : Nat → Prop) (B : Nat) (I : List En → (Nat → Nat) → World → Prop) (Ix : Code → List En → (Nat → Nat) → World → Prop) (es : List En) (T : Nat → Nat) (W : World) : Exit → Act → World → Prop
  | .normal, _, W' => ∃ T', I es T' W' ∧ Goes u T W T' W' ∧ (∀ b, W'.heap.size ≤ b → T' b = 0) ∧ KeepsFrom B W W'
  | .ret, _, W' => ∃ T', Ix .ret es T' W' ∧ KeepsFrom B W W'
  | _, _, _ => False

/-- A loop over such an iterator. -/
theorem range_each {F : Fence} {n : Nat} {P : Program} {g : Operand} {ps : Array Tmp} {assign body : Code} {Q : Exit → Act → World → Prop} {a : Act} {w : World}
    (hro : F.round = none) (h1 : 1 ≤ n) {gf : Nat} {lb : Array Value} (hg : a.eval g = .func (.func gf) #[] lb) (hFg : F.fn gf) (eg : ∀ args w, (callFunc gf args).run P w = .ok (.enter gf args) w)
    (u : Nat → Prop) (hu0 : ¬ u 0) (T0 : Nat → Nat) (hz0 : ∀ b, w.heap.size ≤ b → T0 b = 0)
    {enc : En → Array Value} {post : List En} {N : Nat} (hseq : SeqEach u F (n - 1) P gf lb enc post N w T0) (hps : ∀ x, (enc x).size = ps.size)
    (I : List En → (Nat → Nat) → World → Prop) (Ix : Code → List En → (Nat → Nat) → World → Prop) (hI : Lasts w.heap.size I) (hIx : ∀ c, Lasts w.heap.size (Ix c)) (h0 : I [] T0 w)
    (As : En → Act → World → World → Prop) (hAs : ∀ e a' W W', As e a' W W' → Below W.heap.size W W')
    (hassign : ∀ (l : Nat) (e : En) (es : List En) T (W : World) (K : Act → World → Prop), I es T W → (∀ a' W', As e a' W W' → K a' W') →
      assign.wpIn (F.inRound l) (n - 1 - 1 - 1 - 1) P (Exit.then K (fun _ _ _ => False)) { tmps := (ps.zip (enc e)).foldl (fun t (p, v) => t.setIfInBounds p v) a.tmps, defers := [] } W)
    (hbody : ∀ (l : Nat) (e : En) (es : List En) T (a' : Act) (W W' W'' : World), w.heap.size ≤ l → l < W.heap.size → (∃ o : Obj, W'.heap[l]? = some o ∧ o.isCells = false) → I es T W → I es T W'' → (∀ b, W.heap.size ≤ b → T b = 0) → es.length < N → As e a' W W' → W'.grownBy W'' (some l) → body.wpIn (F.inRound l) (n - 1 - 1 - 1 - 1) P (eachPost u w.heap.size I Ix (es ++ [e]) T W'') a' W'')
    (hdone : ∀ (D : Nat) T (W : World), w.heap.size ≤ D → I post T W → W.heap[D]? = some (.deferred (some [])) → Q .normal { a with defers := { target := .collected D, args := #[] } :: a.defers } W)
    (hstop : ∀ (D : Nat) (es : List En) T (W : World), w.heap.size ≤ D → es <+: post → Ix .ret es T W → W.heap[D]? = some (.deferred (some [])) → Code.ret.wpIn F n P Q { a with defers := { target := .collected D, args := #[] } :: a.defers } W) :
    (Code.rangeFunc g ps assign body).wpIn F n P Q a w := by
  refine wpIn_rangeFunc ?_
  intro fn hfn
  rw [hro]
  obtain ⟨rc, hrc⟩ : ∃ rc : LoopState → Option Code → Loop, rc = fun st pe => { state := st, pending := pe, fn, tmps := a.tmps, params := ps, assign, body, defers := w.heap.size } := ⟨_, rfl⟩
  obtain ⟨W1, hW1⟩ : ∃ W1, (w.alloc (.deferred (some []))).alloc (.loop (rc .ready none)) = W1 := ⟨_, rfl⟩
  have hs1 : W1.heap.size = w.heap.size + 2 := by rw [← hW1]; simp
  have hb1 : Below w.heap.size w W1 := by rw [← hW1]; exact ((Below.refl _ w).alloc (Nat.le_refl _) _).alloc (by simp) _
  have hL1 : W1.heap[w.heap.size + 1]? = some (.loop (rc .ready none)) := by
    rw [← hW1]; have := World.alloc_heap_new (w.alloc (.deferred (some []))) (.loop (rc .ready none)); rwa [World.size_alloc] at this
  have hD1 : W1.heap[w.heap.size]? = some (.deferred (some [])) := by
    rw [← hW1]; exact (Below.heap_alloc _ _ _ (by simp)).trans (World.alloc_heap_new w _)
  refine ⟨w.heap.size + 1, [{ target := .collected w.heap.size, args := #[] }], W1, { target := .fn (.func gf) lb, args := #[.func (.yield (w.heap.size + 1)) #[] #[]] }, W1, gf,
    #[.func (.yield (w.heap.size + 1)) #[] #[]] ++ lb, W1, ?_, ?_, ?_, ?_, fun _ => h1, ?_⟩
  · rw [← hW1, hrc]; exact run_enterLoop_outer _ _ _ _ _
  · simp only [resolve, hg]
    simp [go_sem]
  · intro f' hf'; simp [Target.leads] at hf'; subst hf'; exact hFg
  · simp [invoke, go_sem, eg]
  · refine (hseq (w.heap.size + 1) W1
      (fun es T W => I es T W ∧ W.heap[w.heap.size + 1]? = some (.loop (rc .ready none)) ∧ W.heap[w.heap.size]? = some (.deferred (some [])) ∧ T (w.heap.size + 1) = 0)
      (fun es T W => Ix .ret es T W ∧ W.heap[w.heap.size + 1]? = some (.loop (rc .done (some .ret))) ∧ W.heap[w.heap.size]? = some (.deferred (some []))) hb1 ?_ ?_ ?_ ?_).mono ?_
    · rintro es T A C row ⟨h2, h3, h4, h5⟩ hgr hr
      have hk : ∀ b, b < W1.heap.size → ∀ o, A.heap[b]? = some o → C.heap[b]? = some o := fun b hb o ho => (hgr.block b (Array.getElem?_eq_some_iff.1 ho).1 (fun e => by have := (hr b e.symm).1; omega)).trans ho
      exact ⟨hI es T A C row h2 hgr (fun r e => ⟨by have := (hr r e).1; omega, (hr r e).2⟩), hk _ (by omega) _ h3, hk _ (by omega) _ h4, h5⟩
    · rintro es T A C row ⟨h2, h3, h4⟩ hgr hr
      have hk : ∀ b, b < W1.heap.size → ∀ o, A.heap[b]? = some o → C.heap[b]? = some o := fun b hb o ho => (hgr.block b (Array.getElem?_eq_some_iff.1 ho).1 (fun e => by have := (hr b e.symm).1; omega)).trans ho
      exact ⟨hIx _ es T A C row h2 hgr (fun r e => ⟨by have := (hr r e).1; omega, (hr r e).2⟩), hk _ (by omega) _ h3, hk _ (by omega) _ h4⟩
    · exact ⟨hI [] T0 w W1 none h0 ⟨hb1.os, hb1.tape, hb1.output, hb1.size, fun b hb _ => hb1.block b hb⟩ (fun r e => by cases e), hL1, hD1, hz0 _ (by omega)⟩
    · rintro es e T W ⟨hi, hl, hd, hTl⟩ hzW hN
      have hlt : w.heap.size + 1 < W.heap.size := (Array.getElem?_eq_some_iff.1 hl).1
      have hy := run_yield (P := P) (args := enc e) hl (by rw [hrc]; exact hps e)
      rw [hrc] at hy
      refine ⟨fn, _, assign, body, hy, roundIn_of_wpIn hfn (hassign _ e es T W _ hi fun a' W' has => ?_)⟩
      have hb2 := hAs e a' W W' has
      have hl' : W'.heap[w.heap.size + 1]? = some (.loop (rc .ready none)) := (hb2.block _ hlt).trans hl
      have hd' : W'.heap[w.heap.size]? = some (.deferred (some [])) := (hb2.block _ (by omega)).trans hd
      refine ⟨_, run_beginRound hl' (by rw [hrc]), ?_⟩
      have hlt' : w.heap.size + 1 < W'.heap.size := (Array.getElem?_eq_some_iff.1 hl').1
      have hi' : I es T W' := hI es T W W' none hi ⟨hb2.os, hb2.tape, hb2.output, hb2.size, fun b hb _ => hb2.block b hb⟩ (fun r e => by cases e)
      have hi'' : I es T (W'.putObj (w.heap.size + 1) (.loop { rc .ready none with state := .busy })) := hI es T W' _ (some (w.heap.size + 1)) hi' (grownBy_putObj' _ _ _) (fun r e => by cases e; exact ⟨by omega, _, hl', rfl⟩)
      refine wpIn_mono (hbody (w.heap.size + 1) e es T a' W W' _ (by omega) hlt ⟨_, hl', rfl⟩ hi hi'' hzW hN has (grownBy_putObj' _ _ _)) ?_
      rintro ex a3 W3 hp
      have hlb : (W'.putObj (w.heap.size + 1) (.loop { rc .ready none with state := .busy })).heap[w.heap.size + 1]? = some (.loop { rc .ready none with state := .busy }) := World.putObj_heap_same hlt'
      have hdb : (W'.putObj (w.heap.size + 1) (.loop { rc .ready none with state := .busy })).heap[w.heap.size]? = some (.deferred (some [])) := (World.putObj_heap_other (by omega)).trans hd'
      have hoth : ∀ b, b ≠ w.heap.size + 1 → (W'.putObj (w.heap.size + 1) (.loop { rc .ready none with state := .busy })).heap[b]? = W'.heap[b]? := fun b hb => World.putObj_heap_other hb
      have hsz : (W'.putObj (w.heap.size + 1) (.loop { rc .ready none with state := .busy })).heap.size = W'.heap.size := by simp
      have hos : (W'.putObj (w.heap.size + 1) (.loop { rc .ready none with state := .busy })).os = W'.os ∧ (W'.putObj (w.heap.size + 1) (.loop { rc .ready none with state := .busy })).tape = W'.tape ∧ (W'.putObj (w.heap.size + 1) (.loop { rc .ready none with state := .busy })).output = W'.output := ⟨rfl, rfl, rfl⟩
      generalize W'.putObj (w.heap.size + 1) (.loop { rc .ready none with state := .busy }) = Wb at *
      cases ex with
      | normal =>
        obtain ⟨T3, p1, p2, p3, p4⟩ := hp
        have hl3 : W3.heap[w.heap.size + 1]? = some (.loop { rc .ready none with state := .busy }) := p4.same _ _ (by omega) hlb rfl
        have hd3 : W3.heap[w.heap.size]? = some (.deferred (some [])) := p4.same _ _ (Nat.le_refl _) hdb rfl
        have hr3 := run_endRound (P := P) none hl3
        have hlt3 : w.heap.size + 1 < W3.heap.size := (Array.getElem?_eq_some_iff.1 hl3).1
        have hTl3 : T3 (w.heap.size + 1) = 0 := (p2.tag _ (by omega) (by rw [hTl]; exact hu0)).trans hTl
        have hs4 := p4.size
        have hs2 := hb2.size
        refine ⟨_, _, hr3, true, rfl, T3, ⟨by simp; omega, fun kk o hB hk ho => ?_⟩, fun _ => ⟨⟨hI _ T3 W3 _ (some (w.heap.size + 1)) p1 (grownBy_putObj' _ _ _) (fun r e => by cases e; exact ⟨by omega, _, hl3, rfl⟩), ?_, ?_, hTl3⟩, ⟨?_, ?_, ?_, by simp; omega, fun b hb hu => ?_, fun b hb hu => ?_, fun b hb h00 => ?_⟩, fun b hb => p3 b (by simpa using hb)⟩, (fun h => by cases h)⟩
        · rw [World.putObj_heap_other (by omega)]
          exact p4.same kk o (by omega) ((hoth kk (by omega)).trans ((hb2.block kk (Array.getElem?_eq_some_iff.1 hk).1).trans hk)) ho
        · rw [World.putObj_heap_same hlt3, hrc]; rfl
        · rw [World.putObj_heap_other (by omega)]; exact hd3
        · show W3.os = W.os
          rw [p2.os, hos.1, hb2.os]
        · show W3.tape = W.tape
          rw [p2.tape, hos.2.1, hb2.tape]
        · show W3.output = W.output
          rw [p2.output, hos.2.2, hb2.output]
        · by_cases hbl : b = w.heap.size + 1
          · subst hbl
            rw [World.putObj_heap_same hlt3, hl, hrc]; rfl
          · rw [World.putObj_heap_other hbl, p2.block b (by omega) hu, hoth b hbl]
            exact hb2.block b hb
        · exact p2.tag b (by omega) hu
        · exact p3 b (by simpa using hb)
      | ret =>
        obtain ⟨T3, p1, p4⟩ := hp
        have hl3 : W3.heap[w.heap.size + 1]? = some (.loop { rc .ready none with state := .busy }) := p4.same _ _ (by omega) hlb rfl
        have hd3 : W3.heap[w.heap.size]? = some (.deferred (some [])) := p4.same _ _ (Nat.le_refl _) hdb rfl
        have hr3 := run_endRound (P := P) (some .ret) hl3
        have hlt3 : w.heap.size + 1 < W3.heap.size := (Array.getElem?_eq_some_iff.1 hl3).1
        have hs4 := p4.size
        have hs2 := hb2.size
        refine ⟨_, _, hr3, false, rfl, T3, ⟨by simp; omega, fun kk o hB hk ho => ?_⟩, (fun h => by cases h), fun _ => ⟨hIx _ _ T3 W3 _ (some (w.heap.size + 1)) p1 (grownBy_putObj' _ _ _) (fun r e => by cases e; exact ⟨by omega, _, hl3, rfl⟩), ?_, ?_⟩⟩
        · rw [World.putObj_heap_other (by omega)]
          exact p4.same kk o (by omega) ((hoth kk (by omega)).trans ((hb2.block kk (Array.getElem?_eq_some_iff.1 hk).1).trans hk)) ho
        · rw [World.putObj_heap_same hlt3, hrc]; rfl
        · rw [World.putObj_heap_other (by omega)]; exact hd3
      | exit id => exact hp.elim
      | goto t => exact hp.elim
      | panic ch => exact hp.elim
      | outgrown => exact hp.elim
    · rintro e W2 ⟨⟨v, rfl⟩, (⟨T', hi, hl, hd, _⟩ | ⟨es, T', hpre, hix, hl, hd⟩)⟩
      · refine ⟨none, _, by have := run_endLoop (P := P) hl (by rw [hrc]; simp); rw [hrc] at this; exact this, hdone _ T' _ (Nat.le_refl _) (hI _ T' W2 _ (some (w.heap.size + 1)) hi (grownBy_putObj' _ _ _) (fun r e => by cases e; exact ⟨by omega, _, hl, rfl⟩)) ((World.putObj_heap_other (by omega)).trans hd)⟩
      · refine ⟨some .ret, _, by have := run_endLoop (P := P) hl (by rw [hrc]; simp); rw [hrc] at this; exact this, hstop _ es T' _ (Nat.le_refl _) hpre (hIx _ _ T' W2 _ (some (w.heap.size + 1)) hix (grownBy_putObj' _ _ _) (fun r e => by cases e; exact ⟨by omega, _, hl, rfl⟩)) ((World.putObj_heap_other (by omega)).trans hd)⟩
end Sk
end Go.Proofs.Ytcioaoanhmpdkaa
