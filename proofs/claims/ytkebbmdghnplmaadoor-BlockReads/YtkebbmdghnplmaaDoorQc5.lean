import Derived.Test.YtkebbmdghnplmaaDoorQc3
namespace Go.Proofs.YtkebbmdghnplmaaDoor
namespace Qb
open Go.RowKit Go.Shelf CMath Byt Laws Irw Crw Cod Qe
set_option linter.unusedVariables false
set_option linter.unusedSimpArgs false
set_option maxRecDepth 100000
attribute [local go_sem] Oper.semAt_some

def encE (e : En) : Array Value := #[.agg #[.string e.1, .int .u64 e.2.1, .bool e.2.2.1, .string e.2.2.2]]
theorem map_pre {α β : Type} (f : α → β) {l m : List α} (h : l <+: m) : l.map f <+: m.map f := by
  obtain ⟨t, rfl⟩ := h
  exact ⟨t.map f, by simp⟩
theorem roundIn_in {F : Fence} {n : Nat} {P : Program} {l : Nat} {f : FuncId} {tmps : Array Value} {assign body : Code} {w : World} {R : Ending → World → Prop} (l' : Nat) (h : RoundIn F n P l f tmps assign body w R) : RoundIn (F.inRound l') n P l f tmps assign body w R := h
set_option maxHeartbeats 4000000 in
theorem all_in (u : Nat → Prop) (hu0 : ¬ u 0) (n : Nat) (hn : 3 ≤ n) (T0 : Nat → Nat) (l Bk K o : Nat) (eb pb : List Nat) (W : World)
    (hk : BlkAt u T0 W K o eb pb) (hz0 : ∀ b, W.heap.size ≤ b → T0 b = 0)
    (hBk : W.cell? ⟨Bk, 0, none⟩ = some (.pointer (some ⟨K, o, none⟩)))
    (J Jx : List En → (Nat → Nat) → World → Prop) (hJ : Lasts W.heap.size J) (hJx : Lasts W.heap.size Jx) (h0 : J [] T0 W)
    (hY : ∀ (es : List En) (e : En) T W1, J es T W1 → (∀ b, W1.heap.size ≤ b → T b = 0) → es ++ [e] <+: (wkp eb 0).map Prod.snd → YieldAt Fence.wide (n - 1 - 1 - 1) Tryd.prog l (encE e) W1 fun r W2 => ∃ b, r = .returned (.bool b) ∧ Gives u W.heap.size J Jx (es ++ [e]) T W1 b W2) :
    CallsIn Fence.wide n Tryd.prog 79 #[.func (.yield l) #[] #[], .pointer (some ⟨Bk, 0, none⟩)] W fun e W' => (∃ v, e = .returned v) ∧ ((∃ T', J ((wkp eb 0).map Prod.snd) T' W') ∨ ∃ es T', es <+: (wkp eb 0).map Prod.snd ∧ Jx es T' W') := by
  have HK : Hid (BlkAt u T0 W K o eb pb) := hk
  have HY : Hid (∀ (es : List En) (e : En) T W1, J es T W1 → (∀ b, W1.heap.size ≤ b → T b = 0) → es ++ [e] <+: (wkp eb 0).map Prod.snd → YieldAt Fence.wide (n - 1 - 1 - 1) Tryd.prog l (encE e) W1 fun r W2 => ∃ b, r = .returned (.bool b) ∧ Gives u W.heap.size J Jx (es ++ [e]) T W1 b W2) := hY
  have HJ : Hid (Lasts W.heap.size J ∧ Lasts W.heap.size Jx) := ⟨hJ, hJx⟩
  have H0 : Hid (J [] T0 W) := h0
  have HT : Hid (¬ u 0 ∧ ∀ b, W.heap.size ≤ b → T0 b = 0) := ⟨hu0, hz0⟩
  clear hY hJ hJx h0 hu0 hz0 hk
  refine callsIn_of_wp_marks Tryd.func79 rfl trivial ?_ rfl
  simp only [Tryd.ntmps79, List.size_toArray, List.length_cons, List.length_nil, Nat.reduceAdd, Nat.reduceSub, Array.replicate_succ, Array.replicate_zero, List.push_toArray, List.append_toArray, List.nil_append, List.cons_append]
  have hfR : Fence.wide.fn 36 := trivial
  have hb1 : Below W.heap.size W (W.alloc (.cells #[.func (.yield l) #[] #[]] 129)) := (Below.refl _ _).alloc (Nat.le_refl _) _
  have g1 : (W.alloc (.cells #[.func (.yield l) #[] #[]] 129)).heap[W.heap.size]? = some (.cells #[.func (.yield l) #[] #[]] 129) := World.alloc_heap_new _ _
  have l1 := (hb1.cell (p := ⟨Bk, 0, none⟩) (World.block_lt_of_cell? W _ hBk)).trans hBk
  have s1 : (W.alloc (.cells #[.func (.yield l) #[] #[]] 129)).heap.size = W.heap.size + 1 := by simp
  generalize hW1 : W.alloc (.cells #[.func (.yield l) #[] #[]] 129) = W1 at *
  gi_wp2_with fail
  try rw [hW1]
  clear hW1
  refine ⟨fun _ => by omega, ?_⟩
  refine (callsIn_wide.2 (walk_any W1 K o 0)).mono ?_
  rintro e W3 ⟨rfl, hb3, hs3, c3a, c3b⟩
  dsimp only
  rw [s1] at hs3 c3a c3b ⊢
  have hb13 : Below W.heap.size W W3 := hb1.trans (hb3.mono (by omega))
  have HB3 : Hid (Below W.heap.size W W3) := hb13
  have HG3 : Hid (W3.heap[W.heap.size]? = some (.cells #[.func (.yield l) #[] #[]] 129)) := (hb3.block _ (by omega)).trans g1
  have HZ : Hid (∀ b, W3.heap.size ≤ b → T0 b = 0) := fun b hb => HT.out.2 b (by omega)
  have HSQ : Hid (SeqE u Fence.wide (n - 1) (n - 1 - 1) Tryd.prog 69 #[.pointer (some ⟨W.heap.size + 1, 0, none⟩), .pointer (some ⟨W.heap.size + 1 + 1, 0, none⟩)] encP (wkp eb 0) W3 T0) := walk_seq u HT.out.1 (n - 1) (by omega) _ _ _ K o 0 eb pb W3 (Nat.zero_le _) (HK.out.below hb13) HZ.out c3a c3b (by rw [HT.out.2 _ (by omega)]; exact HT.out.1) (by rw [HT.out.2 _ (by omega)]; exact HT.out.1)
  have qs3 : W.heap.size + 3 = W3.heap.size := by omega
  have HQ3 : Hid (W.heap.size + 3 = W3.heap.size) := qs3
  clear hb1 g1 l1 s1 hb3 hs3 c3a c3b hb13 qs3
  gi_wp2
  refine range_e rfl (by omega) (gf := 69) (lb := #[.pointer (some ⟨W.heap.size + 1, 0, none⟩), .pointer (some ⟨W.heap.size + 1 + 1, 0, none⟩)]) rfl trivial (enters_of Tryd.func69 (by kernel_rfl) rfl)
    u HT.out.1 T0 HZ.out HSQ.out (fun _ => rfl)
    (fun es T Wc => J (es.map Prod.snd) T Wc ∧ T W.heap.size = 0 ∧ Wc.heap[W.heap.size]? = some (.cells #[.func (.yield l) #[] #[]] 129)) (fun c es T Wc => c = .ret ∧ Jx (es.map Prod.snd) T Wc)
    (fun es T A C row h hg hr => ⟨HJ.out.1 _ T A C row h.1 hg (fun r e => ⟨by have := (hr r e).1; have := HQ3.out; omega, (hr r e).2⟩), h.2.1, (hg.block _ (Array.getElem?_eq_some_iff.1 h.2.2).1 (fun e => by have := (hr _ e.symm).1; have := HQ3.out; omega)).trans h.2.2⟩)
    (fun c es T A C row h hg hr => ⟨h.1, HJ.out.2 _ T A C row h.2 hg (fun r e => ⟨by have := (hr r e).1; have := HQ3.out; omega, (hr r e).2⟩)⟩)
    ⟨HJ.out.1 [] T0 W W3 none H0.out ⟨HB3.out.os, HB3.out.tape, HB3.out.output, HB3.out.size, fun b hb _ => HB3.out.block b hb⟩ (fun r e => by cases e), HT.out.2 _ (Nat.le_refl _), HG3.out⟩
    (fun e a' Wc W' => W' = Wc.alloc (.cells #[.string e.2.1, .int .u64 e.2.2.1, .bool e.2.2.2.1, .string e.2.2.2.2] 30) ∧ a' = { tmps := #[.func (.yield l) #[] #[], .pointer (some ⟨Bk, 0, none⟩), .pointer (some ⟨W.heap.size, 0, none⟩), undef, .pointer (some ⟨Wc.heap.size, 0, none⟩), .pointer (some ⟨K, o, none⟩), .func (.func 69) #[] #[.pointer (some ⟨W.heap.size + 1, 0, none⟩), .pointer (some ⟨W.heap.size + 1 + 1, 0, none⟩)], .int .i64 (e.1 : Int), .agg #[.string e.2.1, .int .u64 e.2.2.1, .bool e.2.2.2.1, .string e.2.2.2.2], undef, undef, undef, undef], defers := [] })
    (fun e a' Wc W' h => by rw [h.1]; exact (Below.refl _ _).alloc (Nat.le_refl _) _) ?assign ?body ?done ?stop
  case assign =>
    rintro l_ ⟨ep, ek, es_, ed, ev⟩ es T Wc Kc hi hK
    simp only [encP]
    gi_wp2
    try exact hK _ _ ⟨rfl, rfl⟩
  case body =>
    rintro l_ ⟨ep, ek, es_, ed, ev⟩ es T a' Wc W' Wb hl1 hl2 ⟨ob, ho, hoc⟩ _ ⟨hj, htY, hgY⟩ hz hN9 ⟨rfl, rfl⟩ hg
    dsimp only at *
    have e0 : Wb.heap[Wc.heap.size]? = some (.cells #[.string ek, .int .u64 es_, .bool ed, .string ev] 30) := (hg.block _ (by simp) (fun e => by cases e; omega)).trans (World.alloc_heap_new _ _)
    have hcl : Wc.heap.size < Wb.heap.size := (Array.getElem?_eq_some_iff.1 e0).1
    have c0 : Wb.cell? ⟨Wc.heap.size, 0, none⟩ = some (.string ek) := by rw [cell_of_obj e0]; rfl
    have c1 : Wb.cell? ⟨Wc.heap.size, 1, none⟩ = some (.int .u64 es_) := by rw [cell_of_obj e0]; rfl
    have c2 : Wb.cell? ⟨Wc.heap.size, 2, none⟩ = some (.bool ed) := by rw [cell_of_obj e0]; rfl
    have c3 : Wb.cell? ⟨Wc.heap.size, 3, none⟩ = some (.string ev) := by rw [cell_of_obj e0]; rfl
    have y0 : Wb.cell? ⟨W.heap.size, 0, none⟩ = some (.func (.yield l) #[] #[]) := by rw [cell_of_obj hgY]; rfl
    have hzB : ∀ b, Wb.heap.size ≤ b → T b = 0 := fun b hb => hz b (by have := hg.size; simp at this; omega)
    have hpre : es.map Prod.snd ++ [(ek, es_, ed, ev)] <+: (wkp eb 0).map Prod.snd := by
      have := map_pre Prod.snd hN9
      rw [List.map_append, List.map_singleton] at this
      exact this
    obtain ⟨fn, tm, asg, bod, hy, hR⟩ := HY.out _ (ek, es_, ed, ev) T Wb hj hzB hpre
    have HIN : Hid (T W.heap.size = 0 ∧ Wb.heap[W.heap.size]? = some (.cells #[.func (.yield l) #[] #[]] 129)) := ⟨htY, hgY⟩
    have HMP : Hid ((es ++ [(ep, ek, es_, ed, ev)]).map Prod.snd = es.map Prod.snd ++ [(ek, es_, ed, ev)]) := by show _ = _; rw [List.map_append]; rfl
    simp only [encE] at hy
    clear hj htY hgY hzB hpre hz hN9 hg ho hoc e0
    gi_wp2
    refine ⟨fun _ => by omega, ?_⟩
    refine (roundIn_in l_ hR).mono ?_
    rintro r W2 ⟨bo, rfl, hj2⟩
    have HJ2 : Hid (Gives u W.heap.size J Jx (es.map Prod.snd ++ [(ek, es_, ed, ev)]) T Wb bo W2) := hj2
    clear hj2 hR hy
    cases bo with
    | true =>
      gi_wp2
      obtain ⟨T2, q4, q5, _⟩ := HJ2.out
      obtain ⟨q1, q2, q3⟩ := q5 rfl
      have hlt := (Array.getElem?_eq_some_iff.1 HIN.out.2).1
      have hu : ¬ u (T W.heap.size) := by rw [HIN.out.1]; exact HT.out.1
      exact ⟨T2, ⟨by rw [HMP.out]; exact q1, (q2.tag _ hlt hu).trans HIN.out.1, (q2.block _ hlt hu).trans HIN.out.2⟩, q2, q3, ⟨q4.size, fun k o hB hk ho => q4.same k o (by have := HQ3.out; omega) hk ho⟩⟩
    | false =>
      gi_wp2
      obtain ⟨T2, q4, _, q5⟩ := HJ2.out
      exact ⟨T2, ⟨rfl, by rw [HMP.out]; exact q5 rfl⟩, ⟨q4.size, fun k o hB hk ho => q4.same k o (by have := HQ3.out; omega) hk ho⟩⟩
  case done =>
    rintro D T Wc hD ⟨hj, _, _⟩ hDd
    gi_wp2
    refine ⟨by simp, .inl ⟨_, _, rfl, run_takeDeferred hDd, ?_⟩⟩
    have hgp := grownBy_putObj' Wc D (.deferred none)
    exact ⟨_, results_none rfl _ _ _, ⟨_, rfl⟩, .inl ⟨T, HJ.out.1 _ T Wc _ (some D) hj hgp (fun r e => by cases e; exact ⟨by have := HQ3.out; omega, _, hDd, rfl⟩)⟩⟩
  case stop =>
    rintro D c es T Wc hD hpre ⟨rfl, hj⟩ hDd
    have hpre2 := map_pre Prod.snd hpre
    gi_wp2
    refine ⟨by simp, .inl ⟨_, _, rfl, run_takeDeferred hDd, ?_⟩⟩
    have hgp := grownBy_putObj' Wc D (.deferred none)
    exact ⟨_, results_none rfl _ _ _, ⟨_, rfl⟩, .inr ⟨_, T, hpre2, HJ.out.2 _ T Wc _ (some D) hj hgp (fun r e => by cases e; exact ⟨by have := HQ3.out; omega, _, hDd, rfl⟩)⟩⟩
theorem all_any (w : World) (K o : Nat) :
    Calls Tryd.prog 43 #[.pointer (some ⟨K, o, none⟩)] w fun e w' => e = .returned (.func (.func 79) #[] #[.pointer (some ⟨w.heap.size, 0, none⟩)]) ∧ Below w.heap.size w w' ∧ w'.heap.size = w.heap.size + 1 ∧ w'.cell? ⟨w.heap.size, 0, none⟩ = some (.pointer (some ⟨K, o, none⟩)) := by
  have hmf : ∀ (fn : Fn) (first cap : Array Value) (w : World), (Instr.makeFunc fn first cap).run Tryd.prog w = .ok (.func fn first cap) w := fun _ _ _ _ => rfl
  go_enter Tryd.func43, Tryd.ntmps43
  go_wp2
  go_ret
  exact ⟨rfl, (Below.refl _ _).alloc (Nat.le_refl _) _, by simp, by simp⟩
theorem all_seq (u : Nat → Prop) (hu0 : ¬ u 0) (n : Nat) (hn : 3 ≤ n) (T0 : Nat → Nat) (Bk K o : Nat) (eb pb : List Nat) (w : World)
    (hk : BlkAt u T0 w K o eb pb) (hz0 : ∀ b, w.heap.size ≤ b → T0 b = 0) (hBk : w.cell? ⟨Bk, 0, none⟩ = some (.pointer (some ⟨K, o, none⟩))) :
    SeqE u Fence.wide n (n - 1 - 1 - 1) Tryd.prog 79 #[.pointer (some ⟨Bk, 0, none⟩)] encE ((wkp eb 0).map Prod.snd) w T0 := fun l W J Jx hW hJ hJx h0 hY =>
  all_in u hu0 n hn T0 l Bk K o eb pb W (hk.below hW) (fun b hb => hz0 b (Nat.le_trans hW.size hb)) ((hW.cell (p := ⟨Bk, 0, none⟩) (World.block_lt_of_cell? w _ hBk)).trans hBk) J Jx hJ hJx h0 hY
end Qb
end Go.Proofs.YtkebbmdghnplmaaDoor
