import Derived.Test.YtnhhalabmmcemaaDoorQc3
import Derived.Test.YtnhhalabmmcemaaDoorEAp
namespace Go.Proofs.YtnhhalabmmcemaaDoor
namespace Qb
open Go.RowKit Go.Shelf CMath Byt Laws Irw Crw Cod Qe
set_option linter.unusedVariables false
set_option linter.unusedSimpArgs false
set_option maxRecDepth 100000
attribute [local go_sem] Oper.semAt_some

def encE (e : En) : Array Value := #[.agg #[.string e.1, .int .u64 e.2.1, .bool e.2.2.1, .string e.2.2.2]]
theorem map_pre {α β : Type} (f : α → β) {l m : List α} (h : l <+: m) : l.map f <+: m.map f := by
  obtain ⟨t, rfl⟩ := h
  exact ⟨t.map f, by simp⟩
theorem roundIn_in {F : Fence} {n : Nat} {P : Program} {l : Nat} {f : FuncId} {tmps : Array Value} {assign body : Code} {w : World} {R : Ending → World → Prop} (l' : Nat) (h : RoundIn F n P l f tmps assign body w R) : RoundIn (F.inRound l') n P l f tmps assign body w R := h
set_option maxHeartbeats 4000000 in
theorem all_in (u : Nat → Prop) (hu0 : ¬ u 0) (n : Nat) (hn : 3 ≤ n) (T0 : Nat → Nat) (l Bk K o : Nat) (eb pb : List Nat) (W : World)
    (hk : BlkAt u T0 W K o eb pb) (hz0 : ∀ b, W.heap.size ≤ b → T0 b = 0)
    (hBk : W.cell? ⟨Bk, 0, none⟩ = some (.pointer (some ⟨K, o, none⟩)))
    (J Jx : List En → (Nat → Nat) → World → Prop) (hJ : Lasts W.heap.size J) (hJx : Lasts W.heap.size Jx) (h0 : J [] T0 W)
    (hY : ∀ (es : List En) (e : En) T W1, J es T W1 → (∀ b, W1.heap.size ≤ b → T b = 0) → es ++ [e] <+: (wkp eb 0).map Prod.snd → YieldAt Fence.wide (n - 1 - 1 - 1) Tryd.prog l (encE e) W1 fun r W2 => ∃ b, r = .returned (.bool b) ∧ Gives u W.heap.size J Jx (es ++ [e]) T W1 b W2) :
    CallsIn Fence.wide n Tryd.prog 71 #[.func (.yield l) #[] #[], .pointer (some ⟨Bk, 0, none⟩)] W fun e W' => (∃ v, e = .returned v) ∧ ((∃ T', J ((wkp eb 0).map Prod.snd) T' W') ∨ ∃ es T', es <+: (wkp eb 0).map Prod.snd ∧ Jx es T' W') := by
  have HK : Hid (BlkAt u T0 W K o eb pb) := hk
  have HY : Hid (∀ (es : List En) (e : En) T W1, J es T W1 → (∀ b, W1.heap.size ≤ b → T b = 0) → es ++ [e] <+: (wkp eb 0).map Prod.snd → YieldAt Fence.wide (n - 1 - 1 - 1) Tryd.prog l (encE e) W1 fun r W2 => ∃ b, r = .returned (.bool b) ∧ Gives u W.heap.size J Jx (es ++ [e]) T W1 b W2) := hY
  have HJ : Hid (Lasts W.heap.size J ∧ Lasts W.heap.size Jx) := ⟨hJ, hJx⟩
  have H0 : Hid (J [] T0 W) := h0
  have HT : Hid (¬ u 0 ∧ ∀ b, W.heap.size ≤ b → T0 b = 0) := ⟨hu0, hz0⟩
  clear hY hJ hJx h0 hu0 hz0 hk
  refine callsIn_of_wp_marks Tryd.func71 rfl trivial ?_ rfl
  simp only [Tryd.ntmps71, List.size_toArray, List.length_cons, List.length_nil, Nat.reduceAdd, Nat.reduceSub, Array.replicate_succ, Array.replicate_zero, List.push_toArray, List.append_toArray, List.nil_append, List.cons_append]
  have hfR : Fence.wide.fn 54 := trivial
  have hb1 : Below W.heap.size W (W.alloc (.cells #[.func (.yield l) #[] #[]] 94)) := (Below.refl _ _).alloc (Nat.le_refl _) _
  have g1 : (W.alloc (.cells #[.func (.yield l) #[] #[]] 94)).heap[W.heap.size]? = some (.cells #[.func (.yield l) #[] #[]] 94) := World.alloc_heap_new _ _
  have l1 := (hb1.cell (p := ⟨Bk, 0, none⟩) (World.block_lt_of_cell? W _ hBk)).trans hBk
  have s1 : (W.alloc (.cells #[.func (.yield l) #[] #[]] 94)).heap.size = W.heap.size + 1 := by simp
  generalize hW1 : W.alloc (.cells #[.func (.yield l) #[] #[]] 94) = W1 at *
  gi_wp2_with fail
  try rw [hW1]
  clear hW1
  refine ⟨fun _ => by omega, ?_⟩
  refine (callsIn_wide.2 (walk_any W1 K o 0)).mono ?_
  rintro e W3 ⟨rfl, hb3, hs3, c3a, c3b⟩
  dsimp only
  rw [s1] at hs3 c3a c3b ⊢
  have hb13 : Below W.heap.size W W3 := hb1.trans (hb3.mono (by omega))
  have HB3 : Hid (Below W.heap.size W W3) := hb13
  have HG3 : Hid (W3.heap[W.heap.size]? = some (.cells #[.func (.yield l) #[] #[]] 94)) := (hb3.block _ (by omega)).trans g1
  have HZ : Hid (∀ b, W3.heap.size ≤ b → T0 b = 0) := fun b hb => HT.out.2 b (by omega)
  have HSQ : Hid (SeqE u Fence.wide (n - 1) (n - 1 - 1) Tryd.prog 74 #[.pointer (some ⟨W.heap.size + 1, 0, none⟩), .pointer (some ⟨W.heap.size + 1 + 1, 0, none⟩)] encP (wkp eb 0) W3 T0) := walk_seq u HT.out.1 (n - 1) (by omega) _ _ _ K o 0 eb pb W3 (Nat.zero_le _) (HK.out.below hb13) HZ.out c3a c3b (by rw [HT.out.2 _ (by omega)]; exact HT.out.1) (by rw [HT.out.2 _ (by omega)]; exact HT.out.1)
  have qs3 : W.heap.size + 3 = W3.heap.size := by omega
  have HQ3 : Hid (W.heap.size + 3 = W3.heap.size) := qs3
  clear hb1 g1 l1 s1 hb3 hs3 c3a c3b hb13 qs3
  gi_wp2
  refine range_e rfl (by omega) (gf := 74) (lb := #[.pointer (some ⟨W.heap.size + 1, 0, none⟩), .pointer (some ⟨W.heap.size + 1 + 1, 0, none⟩)]) rfl trivial (enters_of Tryd.func74 (by kernel_rfl) rfl)
    u HT.out.1 T0 HZ.out HSQ.out (fun _ => rfl)
    (fun es T Wc => J (es.map Prod.snd) T Wc ∧ T W.heap.size = 0 ∧ Wc.heap[W.heap.size]? = some (.cells #[.func (.yield l) #[] #[]] 94)) (fun c es T Wc => c = .ret ∧ Jx (es.map Prod.snd) T Wc)
    (fun es T A C row h hg hr => ⟨HJ.out.1 _ T A C row h.1 hg (fun r e => ⟨by have := (hr r e).1; have := HQ3.out; omega, (hr r e).2⟩), h.2.1, (hg.block _ (Array.getElem?_eq_some_iff.1 h.2.2).1 (fun e => by have := (hr _ e.symm).1; have := HQ3.out; omega)).trans h.2.2⟩)
    (fun c es T A C row h hg hr => ⟨h.1, HJ.out.2 _ T A C row h.2 hg (fun r e => ⟨by have := (hr r e).1; have := HQ3.out; omega, (hr r e).2⟩)⟩)
    ⟨HJ.out.1 [] T0 W W3 none H0.out ⟨HB3.out.os, HB3.out.tape, HB3.out.output, HB3.out.size, fun b hb _ => HB3.out.block b hb⟩ (fun r e => by cases e), HT.out.2 _ (Nat.le_refl _), HG3.out⟩
    (fun e a' Wc W' => W' = Wc.alloc (.cells #[.string e.2.1, .int .u64 e.2.2.1, .bool e.2.2.2.1, .string e.2.2.2.2] 43) ∧ a' = { tmps := #[.func (.yield l) #[] #[], .pointer (some ⟨Bk, 0, none⟩), .pointer (some ⟨W.heap.size, 0, none⟩), undef, .pointer (some ⟨Wc.heap.size, 0, none⟩), .pointer (some ⟨K, o, none⟩), .func (.func 74) #[] #[.pointer (some ⟨W.heap.size + 1, 0, none⟩), .pointer (some ⟨W.heap.size + 1 + 1, 0, none⟩)], .int .i64 (e.1 : Int), .agg #[.string e.2.1, .int .u64 e.2.2.1, .bool e.2.2.2.1, .string e.2.2.2.2], undef, undef, undef, undef], defers := [] })
    (fun e a' Wc W' h => by rw [h.1]; exact (Below.refl _ _).alloc (Nat.le_refl _) _) ?assign ?body ?done ?stop
  case assign =>
    rintro l_ ⟨ep, ek, es_, ed, ev⟩ es T Wc Kc hi hK
    simp only [encP]
    gi_wp2
    try exact hK _ _ ⟨rfl, rfl⟩
  case body =>
    rintro l_ ⟨ep, ek, es_, ed, ev⟩ es T a' Wc W' Wb hl1 hl2 ⟨ob, ho, hoc⟩ _ ⟨hj, htY, hgY⟩ hz hN9 ⟨rfl, rfl⟩ hg
    dsimp only at *
    have e0 : Wb.heap[Wc.heap.size]? = some (.cells #[.string ek, .int .u64 es_, .bool ed, .string ev] 43) := (hg.block _ (by simp) (fun e => by cases e; omega)).trans (World.alloc_heap_new _ _)
    have hcl : Wc.heap.size < Wb.heap.size := (Array.getElem?_eq_some_iff.1 e0).1
    have c0 : Wb.cell? ⟨Wc.heap.size, 0, none⟩ = some (.string ek) := by rw [cell_of_obj e0]; rfl
    have c1 : Wb.cell? ⟨Wc.heap.size, 1, none⟩ = some (.int .u64 es_) := by rw [cell_of_obj e0]; rfl
    have c2 : Wb.cell? ⟨Wc.heap.size, 2, none⟩ = some (.bool ed) := by rw [cell_of_obj e0]; rfl
    have c3 : Wb.cell? ⟨Wc.heap.size, 3, none⟩ = some (.string ev) := by rw [cell_of_obj e0]; rfl
    have y0 : Wb.cell? ⟨W.heap.size, 0, none⟩ = some (.func (.yield l) #[] #[]) := by rw [cell_of_obj hgY]; rfl
    have hzB : ∀ b, Wb.heap.size ≤ b → T b = 0 := fun b hb => hz b (by have := hg.size; simp at this; omega)
    have hpre : es.map Prod.snd ++ [(ek, es_, ed, ev)] <+: (wkp eb 0).map Prod.snd := by
      have := map_pre Prod.snd hN9
      rw [List.map_append, List.map_singleton] at this
      exact this
    obtain ⟨fn, tm, asg, bod, hy, hR⟩ := HY.out _ (ek, es_, ed, ev) T Wb hj hzB hpre
    have HIN : Hid (T W.heap.size = 0 ∧ Wb.heap[W.heap.size]? = some (.cells #[.func (.yield l) #[] #[]] 94)) := ⟨htY, hgY⟩
    have HMP : Hid ((es ++ [(ep, ek, es_, ed, ev)]).map Prod.snd = es.map Prod.snd ++ [(ek, es_, ed, ev)]) := by show _ = _; rw [List.map_append]; rfl
    simp only [encE] at hy
    clear hj htY hgY hzB hpre hz hN9 hg ho hoc e0
    gi_wp2
    refine ⟨fun _ => by omega, ?_⟩
    refine (roundIn_in l_ hR).mono ?_
    rintro r W2 ⟨bo, rfl, hj2⟩
    have HJ2 : Hid (Gives u W.heap.size J Jx (es.map Prod.snd ++ [(ek, es_, ed, ev)]) T Wb bo W2) := hj2
    clear hj2 hR hy
    cases bo with
    | true =>
      gi_wp2
      obtain ⟨T2, q4, q5, _⟩ := HJ2.out
      obtain ⟨q1, q2, q3⟩ := q5 rfl
      have hlt := (Array.getElem?_eq_some_iff.1 HIN.out.2).1
      have hu : ¬ u (T W.heap.size) := by rw [HIN.out.1]; exact HT.out.1
      exact ⟨T2, ⟨by rw [HMP.out]; exact q1, (q2.tag _ hlt hu).trans HIN.out.1, (q2.block _ hlt hu).trans HIN.out.2⟩, q2, q3, ⟨q4.size, fun k o hB hk ho => q4.same k o (by have := HQ3.out; omega) hk ho⟩⟩
    | false =>
      gi_wp2
      obtain ⟨T2, q4, _, q5⟩ := HJ2.out
      exact ⟨T2, ⟨rfl, by rw [HMP.out]; exact q5 rfl⟩, ⟨q4.size, fun k o hB hk ho => q4.same k o (by have := HQ3.out; omega) hk ho⟩⟩
  case done =>
    rintro D T Wc hD ⟨hj, _, _⟩ hDd
    gi_wp2
    refine ⟨by simp, .inl ⟨_, _, rfl, run_takeDeferred hDd, ?_⟩⟩
    have hgp := grownBy_putObj' Wc D (.deferred none)
    exact ⟨_, results_none rfl _ _ _, ⟨_, rfl⟩, .inl ⟨T, HJ.out.1 _ T Wc _ (some D) hj hgp (fun r e => by cases e; exact ⟨by have := HQ3.out; omega, _, hDd, rfl⟩)⟩⟩
  case stop =>
    rintro D c es T Wc hD hpre ⟨rfl, hj⟩ hDd
    have hpre2 := map_pre Prod.snd hpre
    gi_wp2
    refine ⟨by simp, .inl ⟨_, _, rfl, run_takeDeferred hDd, ?_⟩⟩
    have hgp := grownBy_putObj' Wc D (.deferred none)
    exact ⟨_, results_none rfl _ _ _, ⟨_, rfl⟩, .inr ⟨_, T, hpre2, HJ.out.2 _ T Wc _ (some D) hj hgp (fun r e => by cases e; exact ⟨by have := HQ3.out; omega, _, hDd, rfl⟩)⟩⟩
theorem all_any (w : World) (K o : Nat) :
    Calls Tryd.prog 50 #[.pointer (some ⟨K, o, none⟩)] w fun e w' => e = .returned (.func (.func 71) #[] #[.pointer (some ⟨w.heap.size, 0, none⟩)]) ∧ Below w.heap.size w w' ∧ w'.heap.size = w.heap.size + 1 ∧ w'.cell? ⟨w.heap.size, 0, none⟩ = some (.pointer (some ⟨K, o, none⟩)) := by
  have hmf : ∀ (fn : Fn) (first cap : Array Value) (w : World), (Instr.makeFunc fn first cap).run Tryd.prog w = .ok (.func fn first cap) w := fun _ _ _ _ => rfl
  go_enter Tryd.func50, Tryd.ntmps50
  go_wp2
  go_ret
  exact ⟨rfl, (Below.refl _ _).alloc (Nat.le_refl _) _, by simp, by simp⟩
theorem all_seq (u : Nat → Prop) (hu0 : ¬ u 0) (n : Nat) (hn : 3 ≤ n) (T0 : Nat → Nat) (Bk K o : Nat) (eb pb : List Nat) (w : World)
    (hk : BlkAt u T0 w K o eb pb) (hz0 : ∀ b, w.heap.size ≤ b → T0 b = 0) (hBk : w.cell? ⟨Bk, 0, none⟩ = some (.pointer (some ⟨K, o, none⟩))) :
    SeqE u Fence.wide n (n - 1 - 1 - 1) Tryd.prog 71 #[.pointer (some ⟨Bk, 0, none⟩)] encE ((wkp eb 0).map Prod.snd) w T0 := fun l W J Jx hW hJ hJx h0 hY =>
  all_in u hu0 n hn T0 l Bk K o eb pb W (hk.below hW) (fun b hb => hz0 b (Nat.le_trans hW.size hb)) ((hW.cell (p := ⟨Bk, 0, none⟩) (World.block_lt_of_cell? w _ hBk)).trans hBk) J Jx hJ hJx h0 hY
end Qb
end Go.Proofs.YtnhhalabmmcemaaDoor
namespace Go.Proofs.YtnhhalabmmcemaaDoor
namespace Qb
open Go.RowKit Go.Shelf CMath Byt Laws Irw Crw Cod Qe
set_option linter.unusedVariables false
set_option linter.unusedSimpArgs false
set_option maxRecDepth 100000
attribute [local go_sem] Oper.semAt_some

/-- A block as it lies, in blocks from base on. -/
abbrev BlkF (base : Nat) (w : World) (K o : Nat) (eb pb : List Nat) : Prop := BlkAt (fun x => x < base) id w K o eb pb
theorem BlkAt.z {u : Nat → Prop} {T : Nat → Nat} {w : World} {K o : Nat} {eb pb : List Nat} (h : BlkAt u T w K o eb pb) : BlkZ w K o eb pb := by
  obtain ⟨a, c, h1, h2, h3, h4, _⟩ := h.ent
  obtain ⟨a', c', k1, k2, k3, k4, _⟩ := h.pla
  exact ⟨h.lt, fun z => z, ⟨a, c, h1, h2, h3, h4, fun _ _ _ _ z => z⟩, ⟨a', c', k1, k2, k3, k4, fun _ _ _ _ z => z⟩⟩
/-- What Open leaves. -/
def OpIs (l : List Nat) (w : World) (e : Ending) (w' : World) : Prop := Below w.heap.size w w' ∧
  match opn l with
  | none => e = .returned (.tuple #[.pointer none, .int .i64 91])
  | some x => ∃ M, e = .returned (.tuple #[.pointer (some ⟨M, 3, none⟩), .int .i64 0]) ∧ BlkF w.heap.size w' M 3 (pushes x.1 st0 x.2).b (pushes x.1 st0 x.2).p
theorem OpIs.no {l : List Nat} {w w' : World} (h : opn l = none) (hb : Below w.heap.size w w') : OpIs l w (.returned (.tuple #[.pointer none, .int .i64 91])) w' := ⟨hb, by rw [h]⟩
theorem OpIs.yes {l : List Nat} {w w' : World} {x : Nat × List En} {M : Nat} (h : opn l = some x) (hb : Below w.heap.size w w') (hk : BlkF w.heap.size w' M 3 (pushes x.1 st0 x.2).b (pushes x.1 st0 x.2).p) : OpIs l w (.returned (.tuple #[.pointer (some ⟨M, 3, none⟩), .int .i64 0])) w' := ⟨hb, by rw [h]; exact ⟨M, rfl, hk⟩⟩

/-- where the loop of Open stands -/
structure Oi (w : World) (M B6 : Nat) (r : Int) (es : List (Nat × En)) (T : Nat → Nat) (W : World) : Prop where
  ma : MakerAt 1 T W M r (pushes (Rn r) st0 (es.map Prod.snd))
  ch : chain ⟨#[]⟩ (es.map Prod.snd)
  bx : W.cell? ⟨B6, 0, none⟩ = some (.pointer (some ⟨M, 0, none⟩))
  tb : T B6 = 0
  r0 : W.cell? ⟨w.heap.size, 0, none⟩ = some (.pointer none)
  r1 : W.cell? ⟨w.heap.size + 1, 0, none⟩ = some (.int .i64 0)
  f0 : W.frozen? ⟨w.heap.size, 0, none⟩ = false
  f1 : W.frozen? ⟨w.heap.size + 1, 0, none⟩ = false
  t0 : T w.heap.size = 0
  t1 : T (w.heap.size + 1) = 0
  bl : Below w.heap.size w W
  hi : ∀ b, W.heap.size ≤ b → T b = 0
  fr : ∀ b, b < w.heap.size → T b = 0
  nc : NC T W
theorem makerAt_grown {t : Nat} {T : Nat → Nat} {A C : World} {row : Option Nat} {M : Nat} {r : Int} {S : St} (p : MakerAt t T A M r S) (hg : A.grownBy C row) (hr : ∀ x, row = some x → ∃ o : Obj, A.heap[x]? = some o ∧ o.isCells = false) : MakerAt t T C M r S := by
  have key : ∀ {b j : Nat} {v : Value}, A.cell? ⟨b, j, none⟩ = some v → C.heap[b]? = A.heap[b]? := fun {b j v} h => hg.block b (World.block_lt_of_cell? A _ h) (fun e => by
    obtain ⟨o, h1, h2⟩ := hr b e.symm
    obtain ⟨o', h3, h4⟩ := cells_of h
    rw [h1] at h3; cases h3; rw [h2] at h4; cases h4)
  obtain ⟨v3, h3, o3⟩ := p.c3
  obtain ⟨v4, h4, o4⟩ := p.c4
  have own : ∀ {s : Nat} {v : Value} {l : List Nat}, OwnB s T A v l → OwnB s T C v l := fun {s v l} h => by
    refine ⟨⟨⟨h.own.1.1, ?_⟩, h.own.2⟩, h.byte⟩
    rcases h.own.1.2 with h1 | ⟨g, cap, cur, hv, hb, hh, hrest⟩
    · exact .inl h1
    · refine .inr ⟨g, cap, cur, hv, hb, ?_, hrest⟩
      rw [hg.block g (Array.getElem?_eq_some_iff.1 hh).1 (fun e => by
        obtain ⟨o, h1, h2⟩ := hr g e.symm
        rw [h1] at hh; cases hh; cases h2)]
      exact hh
  have k0 := key p.c0
  exact ⟨Nat.lt_of_lt_of_le p.lt hg.size, p.tag, (World.cell?_of_block (a := ⟨M, 0, none⟩) k0).trans p.c0, (World.cell?_of_block (a := ⟨M, 1, none⟩) k0).trans p.c1, (World.cell?_of_block (a := ⟨M, 2, none⟩) k0).trans p.c2, ⟨v3, (World.cell?_of_block (a := ⟨M, 3, none⟩) k0).trans h3, own o3⟩, ⟨v4, (World.cell?_of_block (a := ⟨M, 4, none⟩) k0).trans h4, own o4⟩, fun j => (World.frozen?_of_block (a := ⟨M, j, none⟩) k0).trans (p.fz j), p.last⟩
theorem cell_grown' {A C : World} {row : Option Nat} (hg : A.grownBy C row) (hr : ∀ x, row = some x → ∃ o : Obj, A.heap[x]? = some o ∧ o.isCells = false) {b j : Nat} {v : Value} (h : A.cell? ⟨b, j, none⟩ = some v) : C.heap[b]? = A.heap[b]? := hg.block b (World.block_lt_of_cell? A _ h) (fun e => by
    obtain ⟨o, h1, h2⟩ := hr b e.symm
    obtain ⟨o', h3, h4⟩ := cells_of h
    rw [h1] at h3; cases h3; rw [h2] at h4; cases h4)
theorem Oi.lasts {w : World} {M B6 B : Nat} {r : Int} (hB : w.heap.size ≤ B) : Lasts B (Oi w M B6 r) := by
  rintro es T A C row h hg hr
  have hr2 : ∀ x, row = some x → ∃ o : Obj, A.heap[x]? = some o ∧ o.isCells = false := fun x e => (hr x e).2
  have k0 := cell_grown' hg hr2 h.r0
  have k1 := cell_grown' hg hr2 h.r1
  exact ⟨makerAt_grown h.ma hg hr2, h.ch, (World.cell?_of_block (a := ⟨B6, 0, none⟩) (cell_grown' hg hr2 h.bx)).trans h.bx, h.tb, (World.cell?_of_block (a := ⟨w.heap.size, 0, none⟩) k0).trans h.r0, (World.cell?_of_block (a := ⟨w.heap.size + 1, 0, none⟩) k1).trans h.r1, (World.frozen?_of_block (a := ⟨w.heap.size, 0, none⟩) k0).trans h.f0, (World.frozen?_of_block (a := ⟨w.heap.size + 1, 0, none⟩) k1).trans h.f1, h.t0, h.t1, below_grown (B := 0) h.bl hg (Nat.le_refl _) (fun x e => Nat.le_trans hB (hr x e).1), fun b hb => h.hi b (Nat.le_trans hg.size hb), h.fr, h.nc.grown h.hi hg hr2⟩
/-- and where it has been left -/
structure Ox (w : World) (es : List (Nat × En)) (W : World) : Prop where
  no : ∃ es' x, es = es' ++ [x] ∧ adds (lastE ⟨#[]⟩ (es'.map Prod.snd)) x.2 ≠ 0
  r0 : W.cell? ⟨w.heap.size, 0, none⟩ = some (.pointer none)
  r1 : W.cell? ⟨w.heap.size + 1, 0, none⟩ = some (.int .i64 91)
  bl : Below w.heap.size w W
theorem Ox.lasts {w : World} {B : Nat} (hB : w.heap.size ≤ B) : Lasts B (fun es (_ : Nat → Nat) W => Ox w es W) := by
  rintro es T A C row h hg hr
  have hr2 : ∀ x, row = some x → ∃ o : Obj, A.heap[x]? = some o ∧ o.isCells = false := fun x e => (hr x e).2
  exact ⟨h.no, (World.cell?_of_block (a := ⟨w.heap.size, 0, none⟩) (cell_grown' hg hr2 h.r0)).trans h.r0, (World.cell?_of_block (a := ⟨w.heap.size + 1, 0, none⟩) (cell_grown' hg hr2 h.r1)).trans h.r1, below_grown (B := 0) h.bl hg (Nat.le_refl _) (fun x e => Nat.le_trans hB (hr x e).1)⟩

set_option maxHeartbeats 1000000 in
theorem open_in (a : Option Addr) (cap N : Nat) (l : List Nat) (w : World) (ht : Tab w) (ha : IsB w a l) (hN : N = l.length) (hcap : N ≤ cap) (hc12 : cap ≤ 9223372036854775807) (hl : l.length ≤ 4000000) (hc0 : a = none → cap = 0) :
    CallsIn Fence.wide 7 Tryd.prog 70 #[.slice a N cap] w fun e w' => OpIs l w e w' := by
  have HA : Hid (IsB w a l ∧ N = l.length ∧ N ≤ cap ∧ (cap ≤ 9223372036854775807 ∧ N ≤ 1000000000000) ∧ (a = none → cap = 0)) := ⟨ha, hN, hcap, ⟨hc12, by omega⟩, hc0⟩
  have HT : Hid (Tab w) := ht
  have HL : Hid (l.length ≤ 4000000) := hl
  clear ha hN hcap hc12 hc0 ht hl
  have g1 : ((w.alloc (.cells #[.pointer none] 69)).alloc (.cells #[.int .i64 0] 35)).heap[w.heap.size]? = some (.cells #[.pointer none] 69) := (Below.heap_alloc _ _ _ (by simp)).trans (World.alloc_heap_new _ _)
  have g2 : ((w.alloc (.cells #[.pointer none] 69)).alloc (.cells #[.int .i64 0] 35)).heap[w.heap.size + 1]? = some (.cells #[.int .i64 0] 35) := by
    have := World.alloc_heap_new (w.alloc (.cells #[.pointer none] 69)) (.cells #[.int .i64 0] 35)
    rwa [World.size_alloc] at this
  have hb2 : Below w.heap.size w ((w.alloc (.cells #[.pointer none] 69)).alloc (.cells #[.int .i64 0] 35)) := ((Below.refl _ _).alloc (Nat.le_refl _) _).alloc (by simp) _
  have hs2 : ((w.alloc (.cells #[.pointer none] 69)).alloc (.cells #[.int .i64 0] 35)).heap.size = w.heap.size + 2 := by simp
  refine callsIn_of_wp_marks Tryd.func70 rfl trivial ?_ rfl
  simp only [Tryd.ntmps70, List.size_toArray, List.length_cons, List.length_nil, Nat.reduceAdd, Nat.reduceSub, Array.replicate_succ, Array.replicate_zero, List.push_toArray, List.append_toArray, List.nil_append, List.cons_append]
  have hf1 : Fence.wide.fn 86 := trivial
  have hf2 : Fence.wide.fn 87 := trivial
  have hf3 : Fence.wide.fn 54 := trivial
  have hf4 : Fence.wide.fn 33 := trivial
  have hf5 : Fence.wide.fn 57 := trivial
  have hf6 : Fence.wide.fn 38 := trivial
  have hf7 : Fence.wide.fn 24 := trivial
  gi_wp2_with fail
  generalize ((w.alloc (.cells #[.pointer none] 69)).alloc (.cells #[.int .i64 0] 35)) = w2 at *
  refine (callsIn_wide.2 (split_any a cap N l w2 (HA.out.1.below hb2) HA.out.2.1 HA.out.2.2.1 HA.out.2.2.2.1)).mono ?_
  rintro e w3 ⟨hb3, hsp⟩
  have q1 := (hb3.block _ (by omega)).trans g1
  have q2 := (hb3.block _ (by omega)).trans g2
  have hb23 : Below w.heap.size w w3 := hb2.trans (hb3.mono (by omega))
  cases hs : spl l with
  | none =>
    rw [hs] at hsp
    dsimp only at hsp
    subst hsp
    have HO : Hid (opn l = none) := by show _ = _; rw [opn_spl, hs]
    have HB3 : Hid (Below w.heap.size w w3) := hb23
    have c0 : w3.cell? ⟨w.heap.size, 0, none⟩ = some (.pointer none) := by rw [cell_of_obj q1]; rfl
    have c1 : w3.cell? ⟨w.heap.size + 1, 0, none⟩ = some (.int .i64 0) := by rw [cell_of_obj q2]; rfl
    have f0 : w3.frozen? ⟨w.heap.size, 0, none⟩ = false := froz_of_obj q1
    have f1 : w3.frozen? ⟨w.heap.size + 1, 0, none⟩ = false := froz_of_obj q2
    clear hs hb3 hb23 hb2 g1 g2 q1 q2
    dsimp only
    gi_wp2
    refine leaves_marks (B0 := w.heap.size) [] _ (by simp) (by simp) (fun w' hb hk => ?_)
    have d1 : ((w3.setCell ⟨w.heap.size, 0, none⟩ (.pointer none)).setCell ⟨w.heap.size + 1, 0, none⟩ (.int .i64 91)).cell? ⟨w.heap.size + 1, 0, none⟩ = some (.int .i64 91) := World.cell?_setCell_same _ _ _ ((World.cell?_setCell_other _ _ _ _ (by intro h; have := congrArg Addr.block h; simp at this)).trans c1)
    have d0 : ((w3.setCell ⟨w.heap.size, 0, none⟩ (.pointer none)).setCell ⟨w.heap.size + 1, 0, none⟩ (.int .i64 91)).cell? ⟨w.heap.size, 0, none⟩ = some (.pointer none) := (World.cell?_setCell_other _ _ _ _ (by intro h; have := congrArg Addr.block h; simp at this)).trans (World.cell?_setCell_same _ _ _ c0)
    have e0 : w'.cell? ⟨w.heap.size, 0, none⟩ = some (.pointer none) := (World.cell?_of_block (a := ⟨w.heap.size, 0, none⟩) (hk _ (by simp))).trans d0
    have e1 : w'.cell? ⟨w.heap.size + 1, 0, none⟩ = some (.int .i64 91) := (World.cell?_of_block (a := ⟨w.heap.size + 1, 0, none⟩) (hk _ (by simp))).trans d1
    refine ⟨.tuple #[.pointer none, .int .i64 91], ?_, OpIs.no HO.out (((HB3.out.setCell (p := ⟨w.heap.size, 0, none⟩) (by simp) _).setCell (p := ⟨w.heap.size + 1, 0, none⟩) (by simp) _).trans hb)⟩
    clear hk hb d0 d1
    simp [results, Tryd.results70, go_sem, e0, e1]
  | some p =>
    rw [hs] at hsp
    dsimp only at hsp
    rw [hs2] at hsp
    obtain ⟨rfl, hk⟩ := hsp
    have HS2 : Hid (w2.heap.size = w.heap.size + 2) := hs2
    have HB3 : Hid (Below w.heap.size w w3) := hb23
    have HQ : Hid (w3.heap[w.heap.size]? = some (.cells #[.pointer none] 69) ∧ w3.heap[w.heap.size + 1]? = some (.cells #[.int .i64 0] 35)) := ⟨q1, q2⟩
    clear hs2 hb2 hb3 hb23 g1 g2 q1 q2
    have hpl := spl_le hs
    have HO : Hid (opn l = opn.opn2 l p) := by show _ = _; rw [opn_spl, hs]
    have HBY : Hid (∀ x ∈ l.take p, x < 256) := fun x hx => HA.out.1.2 x (List.mem_of_mem_take hx)
    have HEB : Hid ((l.take p).length ≤ 4000000 ∧ ((l.drop p).take (l.length - 8 - p)).length ≤ 4000000) := ⟨by rw [List.length_take]; have := HL.out; omega, by rw [List.length_take, List.length_drop]; have := HL.out; omega⟩
    unfold opn.opn2 at HO
    clear hs hpl
    generalize l.take p = eb at *
    generalize (l.drop p).take (l.length - 8 - p) = pb at *
    have HR : Hid (Calls Tryd.prog 87 #[.pointer (some ⟨w.heap.size + 2, 0, none⟩)] w3 fun e w' => e = .returned (.int .i64 ((rst eb pb : Nat) : Int)) ∧ Below w3.heap.size w3 w') := restart_any w3 _ 0 eb pb hk (by have := HEB.out.2; omega)
    have HRL : Hid (rst eb pb ≤ 9223372036854775807) := rst_le HBY.out (by have := HEB.out.1; omega)
    generalize rst eb pb = R at *
    have HK3 : Hid (BlkZ w3 (w.heap.size + 2) 0 eb pb) := hk
    clear hk
    dsimp only
    gi_wp2_with (gi_at_call 87; go_loud (refine (callsIn_wide.2 HR.out).mono ?_; rintro e w4 ⟨rfl, hb4⟩))
    refine (callsIn_wide.2 (newMaker_any 1 (fun _ => 0) w4 (R : Int))).mono ?_
    rintro e w5 ⟨rfl, hmk, hb5, hs5⟩
    dsimp only
    gi_wp2_with fail
    have hb6 : Below w5.heap.size w5 (w5.alloc (.cells #[.pointer (some ⟨w4.heap.size, 0, none⟩)] 76)) := (Below.refl _ _).alloc (Nat.le_refl _) _
    have g6 : (w5.alloc (.cells #[.pointer (some ⟨w4.heap.size, 0, none⟩)] 76)).heap[w4.heap.size + 1]? = some (.cells #[.pointer (some ⟨w4.heap.size, 0, none⟩)] 76) := by
      have := World.alloc_heap_new w5 (.cells #[.pointer (some ⟨w4.heap.size, 0, none⟩)] 76)
      rwa [hs5] at this
    have hs6 : (w5.alloc (.cells #[.pointer (some ⟨w4.heap.size, 0, none⟩)] 76)).heap.size = w4.heap.size + 2 := by simp [hs5]
    generalize (w5.alloc (.cells #[.pointer (some ⟨w4.heap.size, 0, none⟩)] 76)) = w6 at *
    refine (callsIn_wide.2 (walk_any w6 (w.heap.size + 2) 0 0)).mono ?_
    rintro e w7 ⟨rfl, hb7, hs7, c7a, c7b⟩
    dsimp only
    have s5 := hb5.size
    have s4 := hb4.size
    have hb57 : Below w5.heap.size w5 w7 := hb6.trans (hb7.mono (by omega))
    have hb37 : Below w3.heap.size w3 w7 := hb4.trans ((hb5.mono s4).trans (hb57.mono (by omega)))
    have g67 := (hb7.block _ (by omega)).trans g6
    rw [hs6] at hs7 c7a c7b ⊢
    have k3 := HK3.out.lt
    have b3 := HB3.out.size
    have H0 : Hid (Oi w w4.heap.size (w4.heap.size + 1) (R : Int) [] (upd (fun _ => 0) w4.heap.size 1) w7) := by
      have r0 := (hb37.block _ (by omega)).trans HQ.out.1
      have r1 := (hb37.block _ (by omega)).trans HQ.out.2
      refine ⟨hmk.below hb57, trivial, by rw [cell_of_obj g67]; rfl, upd_other _ _ (by omega), by rw [cell_of_obj r0]; rfl, by rw [cell_of_obj r1]; rfl, froz_of_obj r0, froz_of_obj r1, upd_other _ _ (by omega), upd_other _ _ (by omega), HB3.out.trans (hb37.mono b3), fun b hb => upd_other _ _ (by omega), fun b hb => upd_other _ _ (by omega), fun b o h ho => ?_⟩
      by_cases hbM : b = w4.heap.size
      · subst hbM
        obtain ⟨o', h1, h2⟩ := cells_of (hmk.below hb57).c0
        rw [h] at h1; cases h1; rw [ho] at h2; cases h2
      · exact upd_other _ _ hbM
    have HZ : Hid (∀ b, w7.heap.size ≤ b → upd (fun _ => 0) w4.heap.size 1 b = 0) := H0.out.hi
    have hM0 : ¬ Mk 1 0 := by unfold Mk; omega
    have HM0 : Hid (¬ Mk 1 0) := hM0
    have HBK : Hid (BlkAt (Mk 1) (upd (fun _ => 0) w4.heap.size 1) w7 (w.heap.size + 2) 0 eb pb) := BlkAt.below (BlkAt.up HK3.out (fun b hb => by rw [upd_other _ _ (by omega)]; exact hM0)) hb37
    have HSQ : Hid (SeqE (Mk 1) Fence.wide 6 5 Tryd.prog 74 #[.pointer (some ⟨w4.heap.size + 2, 0, none⟩), .pointer (some ⟨w4.heap.size + 2 + 1, 0, none⟩)] encP (wkp eb 0) w7 (upd (fun _ => 0) w4.heap.size 1)) := walk_seq (Mk 1) hM0 6 (by decide) _ _ _ (w.heap.size + 2) 0 0 eb pb w7 (Nat.zero_le _) HBK.out HZ.out c7a c7b (by rw [upd_other _ _ (by omega)]; exact hM0) (by rw [upd_other _ _ (by omega)]; exact hM0)
    have qs7 : w.heap.size ≤ w7.heap.size := by omega
    have HQ7 : Hid (w.heap.size + 2 < w7.heap.size) := by show _ < _; omega
    clear hb4 hb5 hb6 hb7 hb57 hb37 g6 g67 c7a c7b hs5 hs6 hs7 s5 s4 hmk hM0 HQ HBK HR k3 b3
    gi_wp2
    refine range_e rfl (by decide) (gf := 74) (lb := #[.pointer (some ⟨w4.heap.size + 2, 0, none⟩), .pointer (some ⟨w4.heap.size + 2 + 1, 0, none⟩)]) rfl trivial (enters_of Tryd.func74 (by kernel_rfl) rfl)
      (Mk 1) HM0.out (upd (fun _ => 0) w4.heap.size 1) HZ.out HSQ.out (fun _ => rfl)
      (fun es T W => es <+: wkp eb 0 ∧ Oi w w4.heap.size (w4.heap.size + 1) (R : Int) es T W) (fun c es T W => c = .ret ∧ Ox w es W)
      (fun es T A C row h hg hr => ⟨h.1, Oi.lasts qs7 es T A C row h.2 hg hr⟩) (fun c es T A C row h hg hr => ⟨h.1, Ox.lasts qs7 es T A C row h.2 hg hr⟩) ⟨List.nil_prefix, H0.out⟩
      (fun e a' Wc W' => W' = Wc.alloc (.cells #[.string e.2.1, .int .u64 e.2.2.1, .bool e.2.2.2.1, .string e.2.2.2.2] 43) ∧ a' = { tmps := #[.slice a N cap, undef, .pointer (some ⟨w.heap.size, 0, none⟩), .pointer (some ⟨w.heap.size + 1, 0, none⟩), .pointer (some ⟨w.heap.size + 2, 0, none⟩), .bool true, .pointer (some ⟨w4.heap.size + 1, 0, none⟩), undef, .pointer (some ⟨Wc.heap.size, 0, none⟩), .tuple #[.pointer (some ⟨w.heap.size + 2, 0, none⟩), .bool true], .slice a N cap, .tuple #[.pointer (some ⟨w.heap.size + 2, 0, none⟩), .bool true], .pointer (some ⟨w.heap.size + 2, 0, none⟩), .bool true, .bool true, .bool false, .pointer (some ⟨w.heap.size + 2, 0, none⟩), .int .i64 (R : Int), .pointer (some ⟨w4.heap.size, 0, none⟩), .pointer (some ⟨w.heap.size + 2, 0, none⟩), .func (.func 74) #[] #[.pointer (some ⟨w4.heap.size + 2, 0, none⟩), .pointer (some ⟨w4.heap.size + 2 + 1, 0, none⟩)], .int .i64 (e.1 : Int), .agg #[.string e.2.1, .int .u64 e.2.2.1, .bool e.2.2.2.1, .string e.2.2.2.2], undef, undef, undef, undef, undef, undef, undef, undef, undef, undef, undef, undef], defers := [] })
      (fun e a' Wc W' h => by rw [h.1]; exact (Below.refl _ _).alloc (Nat.le_refl _) _) ?assign ?body ?done ?stop
    case assign =>
      rintro l_ ⟨ep, ek, es_, ed, ev⟩ es T Wc Kc hi hK
      simp only [encP]
      gi_wp2
      try exact hK _ _ ⟨rfl, rfl⟩
    case body =>
      rintro l_ ⟨ep, ek, es_, ed, ev⟩ es T a' Wc W' Wb hl1 hl2 ⟨ob, ho, hoc⟩ _ ⟨hpre, hoi⟩ hz hN9 ⟨rfl, rfl⟩ hg
      dsimp only at *
      have hmem := wkp_mem HBY.out (x := (ep, ek, es_, ed, ev)) (hN9.subset (by simp))
      obtain ⟨s9, rfl⟩ : ∃ s : Nat, es_ = (s : Int) := ⟨es_.toNat, by have := hmem.2.2; simp only at this; omega⟩
      have e0 : Wb.heap[Wc.heap.size]? = some (.cells #[.string ek, .int .u64 (s9 : Int), .bool ed, .string ev] 43) := (hg.block _ (by simp) (fun e => by cases e; omega)).trans (World.alloc_heap_new _ _)
      have hcl : Wc.heap.size < Wb.heap.size := (Array.getElem?_eq_some_iff.1 e0).1
      have c0 : Wb.cell? ⟨Wc.heap.size, 0, none⟩ = some (.string ek) := by rw [cell_of_obj e0]; rfl
      have c1 : Wb.cell? ⟨Wc.heap.size, 1, none⟩ = some (.int .u64 (s9 : Int)) := by rw [cell_of_obj e0]; rfl
      have c2 : Wb.cell? ⟨Wc.heap.size, 2, none⟩ = some (.bool ed) := by rw [cell_of_obj e0]; rfl
      have c3 : Wb.cell? ⟨Wc.heap.size, 3, none⟩ = some (.string ev) := by rw [cell_of_obj e0]; rfl
      have b6 := hoi.bx
      have hlen : es.length ≤ 4000000 := by
        have h1 := hN9.length_le
        have h2 := pos_wk_le eb HBY.out
        have := HEB.out.1
        simp at h1
        omega
      have hok : ∀ e ∈ es.map Prod.snd, Ok e ∧ 0 ≤ e.2.1 := fun e he => ⟨chain_ok hoi.ch e he, by
        obtain ⟨x, hx, rfl⟩ := List.mem_map.1 he
        exact (wkp_mem HBY.out (hpre.subset hx)).2.2⟩
      have hbl := pushes_len (Rn (R : Int)) (es.map Prod.snd) hok
      have hpl := pushes_plen (Rn (R : Int)) (es.map Prod.snd) st0
      have hnl := pushes_n (Rn (R : Int)) (es.map Prod.snd) st0
      rw [List.length_map] at hbl hpl hnl
      have z1 : st0.p.length = 0 := rfl
      have z2 : st0.n = 0 := rfl
      have HADD : Hid (Calls Tryd.prog 57 #[.pointer (some ⟨w4.heap.size, 0, none⟩), .agg #[.string ek, .int .u64 (s9 : Int), .bool ed, .string ev]] Wb fun e w' => AddIs 1 T Wb w4.heap.size (R : Int) (pushes (Rn (R : Int)) st0 (es.map Prod.snd)) (ek, (s9 : Int), ed, ev) e w') := add_any 1 T Wb w4.heap.size (R : Int) _ ek s9 ed ev hoi.ma hoi.hi (by omega) (by have := hmem.1; simp only at this; omega) (by have := hmem.2.1; simp only at this; omega) (by omega) (by omega) (by omega) ⟨by omega, by have := HRL.out; omega⟩
      have hls : (pushes (Rn (R : Int)) st0 (es.map Prod.snd)).last = lastE ⟨#[]⟩ (es.map Prod.snd) := pushes_lastE _ _ _
      have HLS : Hid ((pushes (Rn (R : Int)) st0 (es.map Prod.snd)).last = lastE ⟨#[]⟩ (es.map Prod.snd)) := hls
      have HOI : Hid (Oi w w4.heap.size (w4.heap.size + 1) (R : Int) es T Wb) := hoi
      have HN9 : Hid (es ++ [(ep, ek, (s9 : Int), ed, ev)] <+: wkp eb 0) := hN9
      unfold AddIs at HADD
      rw [hls] at HADD
      generalize hAD : adds (lastE ⟨#[]⟩ (es.map Prod.snd)) (ek, (s9 : Int), ed, ev) = ad at *
      have HAD : Hid (adds (lastE ⟨#[]⟩ (es.map Prod.snd)) (ek, (s9 : Int), ed, ev) = ad) := hAD
      clear hoi hpre hz hg ho hoc hN9 hbl hpl hnl hok hls hAD hmem hlen e0 z1 z2
      by_cases had : ad = 0
      · subst had
        have HADD2 : Hid (Calls Tryd.prog 57 #[.pointer (some ⟨w4.heap.size, 0, none⟩), .agg #[.string ek, .int .u64 (s9 : Int), .bool ed, .string ev]] Wb fun e w' => e = .returned (.int .i64 0) ∧ ∃ T', MakerAt 1 T' w' w4.heap.size (R : Int) (push (Rn (R : Int)) (pushes (Rn (R : Int)) st0 (es.map Prod.snd)) (ek, (s9 : Int), ed, ev)) ∧ Goes (Mk 1) T Wb T' w') := HADD.out.mono fun e w' h => by
          obtain ⟨T', h1, h2, h3⟩ := h
          rw [if_pos rfl] at h2
          exact ⟨h1, T', h2, h3⟩
        clear HADD
        gi_wp2_with (gi_at_call 57; go_loud (refine (CallsIn.inRound l_ (callsIn_wide.2 HADD2.out)).mono ?_; rintro r W7 ⟨rfl, hj2⟩; have HJ2 : Hid (∃ T', MakerAt 1 T' W7 w4.heap.size (R : Int) (push (Rn (R : Int)) (pushes (Rn (R : Int)) st0 (es.map Prod.snd)) (ek, (s9 : Int), ed, ev)) ∧ Goes (Mk 1) T Wb T' W7) := hj2; clear hj2))
        obtain ⟨T', p1, p2⟩ := HJ2.out
        have p3 := goes_rt p2 HOI.out.nc
        have ho := HOI.out
        have hk : ∀ {b j : Nat} {v : Value}, T b = 0 → Wb.cell? ⟨b, j, none⟩ = some v → W7.cell? ⟨b, j, none⟩ = some v := fun {b j v} h0 h => (p3.cell (World.block_lt_of_cell? Wb _ h) (by rw [h0]; exact HM0.out)).trans h
        have hf : ∀ {b : Nat}, b < Wb.heap.size → T b = 0 → W7.frozen? ⟨b, 0, none⟩ = Wb.frozen? ⟨b, 0, none⟩ := fun {b} hb h0 => World.frozen?_of_block (a := ⟨b, 0, none⟩) (p3.block b hb (by rw [h0]; exact HM0.out))
        have htag : ∀ {b : Nat}, b < Wb.heap.size → T b = 0 → rt T' W7 b = 0 := fun {b} hb h0 => (p3.tag b hb (by rw [h0]; exact HM0.out)).trans h0
        have l0 := World.block_lt_of_cell? Wb _ ho.r0
        have l1 := World.block_lt_of_cell? Wb _ ho.r1
        refine ⟨rt T' W7, ⟨HN9.out, ?_⟩, p3, fun b hb => p3.high b hb (ho.hi b (Nat.le_trans p3.size hb)), keeps_of p3 ho.nc HM0.out _⟩
        refine ⟨?_, ?_, hk ho.tb ho.bx, htag (World.block_lt_of_cell? Wb _ ho.bx) ho.tb, hk ho.t0 ho.r0, hk ho.t1 ho.r1, (hf l0 ho.t0).trans ho.f0, (hf l1 ho.t1).trans ho.f1, htag l0 ho.t0, htag l1 ho.t1, ?_, fun b hb => p3.high b hb (ho.hi b (Nat.le_trans p3.size hb)), fun b hb => htag (Nat.lt_of_lt_of_le hb ho.bl.size) (ho.fr b hb), nc_rt _ _⟩
        · rw [List.map_append, List.map_singleton, pushes_snoc]; exact p1.rt
        · rw [List.map_append, List.map_singleton]; exact chain_snoc ho.ch HAD.out
        · exact ho.bl.trans ⟨p3.os, p3.tape, p3.output, p3.size, fun b hb => p3.block b (Nat.lt_of_lt_of_le hb ho.bl.size) (by rw [ho.fr b hb]; exact HM0.out)⟩
      · have HADD2 : Hid (Calls Tryd.prog 57 #[.pointer (some ⟨w4.heap.size, 0, none⟩), .agg #[.string ek, .int .u64 (s9 : Int), .bool ed, .string ev]] Wb fun e w' => e = .returned (.int .i64 ad) ∧ ∃ T', Goes (Mk 1) T Wb T' w') := HADD.out.mono fun e w' h => by
          obtain ⟨T', h1, h2, h3⟩ := h
          exact ⟨h1, T', h3⟩
        clear HADD
        have r0 := HOI.out.r0
        have r1 := HOI.out.r1
        have f0 := HOI.out.f0
        have f1 := HOI.out.f1
        have HNO : Hid (ad ≠ 0) := had
        gi_wp2_with (gi_at_call 57; go_loud (refine (CallsIn.inRound l_ (callsIn_wide.2 HADD2.out)).mono ?_; rintro r W7 ⟨rfl, hj2⟩; have HJ2 : Hid (∃ T', Goes (Mk 1) T Wb T' W7) := hj2; clear hj2; have r0' : W7.cell? ⟨w.heap.size, 0, none⟩ = some (.pointer none) := (by obtain ⟨T', p⟩ := HJ2.out; exact (p.cell (World.block_lt_of_cell? Wb _ r0) (by rw [HOI.out.t0]; exact HM0.out)).trans r0); have r1' : W7.cell? ⟨w.heap.size + 1, 0, none⟩ = some (.int .i64 0) := (by obtain ⟨T', p⟩ := HJ2.out; exact (p.cell (World.block_lt_of_cell? Wb _ r1) (by rw [HOI.out.t1]; exact HM0.out)).trans r1); have f0' : W7.frozen? ⟨w.heap.size, 0, none⟩ = false := (by obtain ⟨T', p⟩ := HJ2.out; exact (World.frozen?_of_block (a := ⟨w.heap.size, 0, none⟩) (p.block _ (World.block_lt_of_cell? Wb _ r0) (by rw [HOI.out.t0]; exact HM0.out))).trans f0); have f1' : W7.frozen? ⟨w.heap.size + 1, 0, none⟩ = false := (by obtain ⟨T', p⟩ := HJ2.out; exact (World.frozen?_of_block (a := ⟨w.heap.size + 1, 0, none⟩) (p.block _ (World.block_lt_of_cell? Wb _ r1) (by rw [HOI.out.t1]; exact HM0.out))).trans f1)))
        obtain ⟨T', p⟩ := HJ2.out
        have ho := HOI.out
        refine ⟨T', ⟨rfl, ⟨⟨es, _, rfl, by rw [HAD.out]; exact HNO.out⟩, ?_, ?_, ?_⟩⟩, ((keeps_of p ho.nc HM0.out w7.heap.size).trans ((KeepsOthers.setCell _ _ _).from _)).trans ((KeepsOthers.setCell _ _ _).from _)⟩
        · exact (World.cell?_setCell_other _ _ _ _ (by intro h; have := congrArg Addr.block h; simp at this)).trans (World.cell?_setCell_same _ _ _ r0')
        · exact World.cell?_setCell_same _ _ _ ((World.cell?_setCell_other _ _ _ _ (by intro h; have := congrArg Addr.block h; simp at this)).trans r1')
        · refine (Below.setCell (p := ⟨w.heap.size, 0, none⟩) ?_ (by simp) _).setCell (p := ⟨w.heap.size + 1, 0, none⟩) (by simp) _
          exact ho.bl.trans ⟨p.os, p.tape, p.output, p.size, fun b hb => p.block b (Nat.lt_of_lt_of_le hb ho.bl.size) (by rw [ho.fr b hb]; exact HM0.out)⟩
    case done =>
      rintro D T W' hD ⟨hpre, hoi⟩ hDd
      have hok : ∀ e ∈ (wkp eb 0).map Prod.snd, Ok e ∧ 0 ≤ e.2.1 := fun e he => ⟨chain_ok hoi.ch e he, by
        obtain ⟨x, hx, rfl⟩ := List.mem_map.1 he
        exact (wkp_mem HBY.out hx).2.2⟩
      have hlen : (wkp eb 0).length ≤ 4000000 := by
        have h2 := pos_wk_le eb HBY.out
        have := HEB.out.1
        omega
      have hbl := pushes_len (Rn (R : Int)) ((wkp eb 0).map Prod.snd) hok
      have hpl := pushes_plen (Rn (R : Int)) ((wkp eb 0).map Prod.snd) st0
      rw [List.length_map] at hbl hpl
      have z1 : st0.p.length = 0 := rfl
      have hch := hoi.ch
      have hRn : Rn (R : Int) = max R 1 := by unfold Rn; rw [Int.toNat_natCast]
      have HO2 : Hid (opn l = open Classical in if blk (pushes (Rn (R : Int)) st0 ((wkp eb 0).map Prod.snd)) = l then some (Rn (R : Int), (wkp eb 0).map Prod.snd) else none) := by
        show _ = _
        rw [HO.out]
        unfold opn.opn3
        rw [hRn, wkp_snd] at *
        by_cases h : blk (pushes (max R 1) st0 ((wk eb []).map Prod.fst)) = l
        · rw [if_pos ⟨hch, h⟩, if_pos h]
        · rw [if_neg (fun z => h z.2), if_neg h]
      have HBC : Hid (Calls Tryd.prog 38 #[.pointer (some ⟨w4.heap.size, 0, none⟩)] W' fun e w' => ∃ v, e = .returned v ∧ Byt.Own 5 W'.heap.size w' v (blk (pushes (Rn (R : Int)) st0 ((wkp eb 0).map Prod.snd))) ∧ Below W'.heap.size W' w') := bytes_any 1 T W' w4.heap.size (R : Int) _ hoi.ma (HT.out.below hoi.bl HT.out.lt) (by omega) (by omega)
      have HBN : Hid ((pushes (Rn (R : Int)) st0 ((wkp eb 0).map Prod.snd)).b.length ≤ 1000000000000 ∧ (pushes (Rn (R : Int)) st0 ((wkp eb 0).map Prod.snd)).p.length ≤ 1000000000000) := ⟨by omega, by omega⟩
      have HOI : Hid (Oi w w4.heap.size (w4.heap.size + 1) (R : Int) (wkp eb 0) T W') := hoi
      have b6 := hoi.bx
      clear hoi hpre hok hlen hbl hpl z1 hch hRn
      obtain ⟨S, hS⟩ : ∃ S, S = pushes (Rn (R : Int)) st0 ((wkp eb 0).map Prod.snd) := ⟨_, rfl⟩
      have HSS : Hid (S = pushes (Rn (R : Int)) st0 ((wkp eb 0).map Prod.snd)) := hS
      rw [← hS] at HBC HO2 HBN
      clear hS
      dsimp only
      gi_wp2_with (gi_at_call 38; go_loud (refine (callsIn_wide.2 HBC.out).mono ?_; rintro e w8 ⟨v, rfl, hown, hb8⟩; obtain ⟨g8, c8, rfl, hg8, hg8l, hlc8, hi8⟩ := hown.isB; have HI8 : Hid (IsB w8 (some ⟨g8, 0, none⟩) (blk S)) := hi8; have HB8 : Hid (Below W'.heap.size W' w8) := hb8; clear hown hg8 hg8l hlc8 hi8 hb8))
      have HBW8 : Hid (Below w.heap.size w w8) := HOI.out.bl.trans (HB8.out.mono HOI.out.bl.size)
      refine (callsIn_wide.2 (equal_any (some ⟨g8, 0, none⟩) a _ _ N cap (blk S) l w8 HI8.out (HA.out.1.below HBW8.out) rfl HA.out.2.1 (by simp) HA.out.2.2.2.2)).mono ?_
      rintro e w9 ⟨rfl, hw⟩
      have hw2 := hw.symm
      clear hw
      subst hw2
      dsimp only
      have r0 := (HB8.out.cell (p := ⟨w.heap.size, 0, none⟩) (World.block_lt_of_cell? W' _ HOI.out.r0)).trans HOI.out.r0
      have r1 := (HB8.out.cell (p := ⟨w.heap.size + 1, 0, none⟩) (World.block_lt_of_cell? W' _ HOI.out.r1)).trans HOI.out.r1
      have f0 := (World.frozen?_of_block (a := ⟨w.heap.size, 0, none⟩) (HB8.out.block _ (World.block_lt_of_cell? W' _ HOI.out.r0))).trans HOI.out.f0
      have f1 := (World.frozen?_of_block (a := ⟨w.heap.size + 1, 0, none⟩) (HB8.out.block _ (World.block_lt_of_cell? W' _ HOI.out.r1))).trans HOI.out.f1
      have b68 := (HB8.out.cell (p := ⟨w4.heap.size + 1, 0, none⟩) (World.block_lt_of_cell? W' _ HOI.out.bx)).trans HOI.out.bx
      have HD8 : Hid (w8.heap[D]? = some (.deferred (some []))) := (HB8.out.block D (Array.getElem?_eq_some_iff.1 hDd).1).trans hDd
      have HND : Hid (w.heap.size ∉ [D] ∧ w.heap.size + 1 ∉ [D] ∧ D ≠ w.heap.size ∧ D ≠ w.heap.size + 1) := by
        have q0 := cells_of r0
        have q1 := cells_of r1
        have hd := HD8.out
        have n0 : D ≠ w.heap.size := by
          intro h; rw [← h] at q0
          obtain ⟨o, h1, h2⟩ := q0; rw [hd] at h1; cases h1; cases h2
        have n1 : D ≠ w.heap.size + 1 := by
          intro h; rw [← h] at q1
          obtain ⟨o, h1, h2⟩ := q1; rw [hd] at h1; cases h1; cases h2
        exact ⟨by simpa using fun h => n0 h.symm, by simpa using fun h => n1 h.symm, n0, n1⟩
      have fin : ∀ (p v : Value) (w' : World), Below w.heap.size ((w8.setCell ⟨w.heap.size, 0, none⟩ p).setCell ⟨w.heap.size + 1, 0, none⟩ v) w' → (∀ b, b ∉ [D] → w'.heap[b]? = ((w8.setCell ⟨w.heap.size, 0, none⟩ p).setCell ⟨w.heap.size + 1, 0, none⟩ v).heap[b]?) → w'.cell? ⟨w.heap.size, 0, none⟩ = some p ∧ w'.cell? ⟨w.heap.size + 1, 0, none⟩ = some v ∧ Below w.heap.size w w' := fun p v w' hb hk => by
        refine ⟨(World.cell?_of_block (a := ⟨w.heap.size, 0, none⟩) (hk _ HND.out.1)).trans ?_, (World.cell?_of_block (a := ⟨w.heap.size + 1, 0, none⟩) (hk _ HND.out.2.1)).trans ?_, ((HBW8.out.setCell (p := ⟨w.heap.size, 0, none⟩) (by simp) _).setCell (p := ⟨w.heap.size + 1, 0, none⟩) (by simp) _).trans hb⟩
        · exact (World.cell?_setCell_other _ _ _ _ (by intro h; have := congrArg Addr.block h; simp at this)).trans (World.cell?_setCell_same _ _ _ r0)
        · exact World.cell?_setCell_same _ _ _ ((World.cell?_setCell_other _ _ _ _ (by intro h; have := congrArg Addr.block h; simp at this)).trans r1)
      have FIN : Hid _ := fin
      have marks : ∀ (p v : Value), ∀ E ∈ [D], w.heap.size ≤ E ∧ ((w8.setCell ⟨w.heap.size, 0, none⟩ p).setCell ⟨w.heap.size + 1, 0, none⟩ v).heap[E]? = some (.deferred (some [])) := fun p v E hE => by
        rw [List.mem_singleton.1 hE]
        exact ⟨by omega, (Below.heap_setCell _ _ _ D (by simpa using HND.out.2.2.2)).trans ((Below.heap_setCell _ _ _ D (by simpa using HND.out.2.2.1)).trans HD8.out)⟩
      have MARKS : Hid _ := marks
      clear fin marks
      by_cases hq : blk S = l
      · have HQ : Hid (opn l = some (Rn (R : Int), (wkp eb 0).map Prod.snd)) := by show _ = _; rw [HO2.out, if_pos hq]
        have hqd : decide (blk S = l) = true := decide_eq_true hq
        rw [hqd]
        clear hqd hq
        gi_wp2
        refine leaves_marks (B0 := w.heap.size) [D] _ (MARKS.out _ _) (by simp) (fun w' hb hk => ?_)
        obtain ⟨e0, e1, hbw⟩ := FIN.out _ _ w' hb hk
        refine ⟨.tuple #[.pointer (some ⟨w4.heap.size, 3, none⟩), .int .i64 0], ?_, OpIs.yes HQ.out hbw ?_⟩
        · clear hk hb
          simp [results, Tryd.results70, go_sem, e0, e1]
        · dsimp only
          rw [← HSS.out]
          have ho := HOI.out
          have hma := ho.ma
          rw [← HSS.out] at hma
          have hlow : ∀ b, T b ≠ 0 → ¬ b < w.heap.size := fun b h1 h2 => h1 (ho.fr b h2)
          have same : ∀ b, T b ≠ 0 → b < W'.heap.size → (∃ o : Obj, W'.heap[b]? = some o ∧ o.isCells = true) → w'.heap[b]? = W'.heap[b]? := fun b hb0 hbl hbc => by
            have nD : b ∉ [D] := by
              intro h
              rw [List.mem_singleton.1 h] at hbc
              obtain ⟨o, h1, h2⟩ := hbc
              rw [hDd] at h1; cases h1; cases h2
            have n0 : b ≠ w.heap.size := by rintro rfl; exact hb0 ho.t0
            have n1 : b ≠ w.heap.size + 1 := by rintro rfl; exact hb0 ho.t1
            exact (hk b nD).trans ((Below.heap_setCell _ _ _ b n1).trans ((Below.heap_setCell _ _ _ b n0).trans (HB8.out.block b hbl)))
          have sM := same w4.heap.size (by rw [hma.tag]; omega) hma.lt (cells_of hma.c0)
          have part : ∀ (t j : Nat) (x : List Nat), t ≠ 0 → x.length ≤ 1000000000000 → (∃ v, W'.cell? ⟨w4.heap.size, j, none⟩ = some v ∧ OwnB t T W' v x) → ∃ a c, w'.cell? ⟨w4.heap.size, j, none⟩ = some (.slice a x.length c) ∧ IsB w' a x ∧ x.length ≤ c ∧ (c ≤ 9223372036854775807 ∧ x.length ≤ 1000000000000) ∧ ∀ b off, a = some ⟨b, off, none⟩ → x ≠ [] → ¬ (id b < w.heap.size) := fun t j x ht hx h => by
            obtain ⟨v, h1, h2⟩ := h
            obtain ⟨a, c, rfl, h3, h4, _, h5, h6⟩ := h2.form
            refine ⟨a, c, (World.cell?_of_block (a := ⟨w4.heap.size, j, none⟩) sM).trans h1, ⟨fun hne => ?_, h3.2⟩, h4, ⟨h5, hx⟩, fun b off e hne => ?_⟩
            · obtain ⟨b, off, e, hr⟩ := h3.1 hne
              have h7 := h6 b off e
              refine ⟨b, off, e, hr.keep (same b (by rw [h7.2.1]; exact ht) h7.2.2 ?_) (Nat.le_trans HB8.out.size ?_)⟩
              · rcases h2.own.1.2 with ⟨q, _⟩ | ⟨g', cap', cur', q, _, q2, _⟩
                · rw [e] at q; cases q
                · rw [e] at q; cases q; exact ⟨_, q2, rfl⟩
              · have := hb.size; simpa using this
            · have h7 := h6 b off e
              exact hlow b (by rw [h7.2.1]; exact ht)
          exact ⟨by have := World.block_lt_of_cell? w' ⟨w4.heap.size, 0, none⟩ ((World.cell?_of_block (a := ⟨w4.heap.size, 0, none⟩) sM).trans hma.c0); exact this, hlow w4.heap.size (by rw [hma.tag]; omega), part 2 3 S.b (by omega) HBN.out.1 hma.c3, part 3 4 S.p (by omega) HBN.out.2 hma.c4⟩
      · have HQ : Hid (opn l = none) := by show _ = _; rw [HO2.out, if_neg hq]
        have hqd : decide (blk S = l) = false := decide_eq_false hq
        rw [hqd]
        clear hqd hq
        gi_wp2
        refine leaves_marks (B0 := w.heap.size) [D] _ (MARKS.out _ _) (by simp) (fun w' hb hk => ?_)
        obtain ⟨e0, e1, hbw⟩ := FIN.out _ _ w' hb hk
        refine ⟨.tuple #[.pointer none, .int .i64 91], ?_, OpIs.no HQ.out hbw⟩
        clear hk hb
        simp [results, Tryd.results70, go_sem, e0, e1]
    case stop =>
      rintro D c es T W' hD hpre ⟨rfl, hox⟩ hDd
      obtain ⟨es', x, rfl, hno⟩ := hox.no
      have HNO : Hid (opn l = none) := by
        show _ = _
        rw [HO.out]
        unfold opn.opn3
        rw [if_neg]
        rintro ⟨hc, _⟩
        rw [← wkp_snd] at hc
        refine no_chain (l := es'.map Prod.snd) (e := x.2) ?_ hno hc
        obtain ⟨t, ht⟩ := hpre
        exact ⟨t.map Prod.snd, by rw [← ht]; simp⟩
      have HOX : Hid (Ox w (es' ++ [x]) W') := hox
      clear hox hno hpre
      dsimp only
      gi_wp2
      refine leaves_marks (B0 := w.heap.size) [D] _ (by
        intro E hE
        rw [List.mem_singleton.1 hE]
        exact ⟨by omega, hDd⟩) (by simp) (fun w' hb hk => ?_)
      have q0 := cells_of HOX.out.r0
      have q1 := cells_of HOX.out.r1
      have n0 : w.heap.size ∉ [D] := by
        intro h; rw [List.mem_singleton.1 h] at q0
        obtain ⟨o, h1, h2⟩ := q0; rw [hDd] at h1; cases h1; cases h2
      have n1 : w.heap.size + 1 ∉ [D] := by
        intro h; rw [List.mem_singleton.1 h] at q1
        obtain ⟨o, h1, h2⟩ := q1; rw [hDd] at h1; cases h1; cases h2
      have e0 : w'.cell? ⟨w.heap.size, 0, none⟩ = some (.pointer none) := (World.cell?_of_block (a := ⟨w.heap.size, 0, none⟩) (hk _ n0)).trans HOX.out.r0
      have e1 : w'.cell? ⟨w.heap.size + 1, 0, none⟩ = some (.int .i64 91) := (World.cell?_of_block (a := ⟨w.heap.size + 1, 0, none⟩) (hk _ n1)).trans HOX.out.r1
      refine ⟨.tuple #[.pointer none, .int .i64 91], ?_, OpIs.no HNO.out (HOX.out.bl.trans hb)⟩
      clear hk hb
      simp [results, Tryd.results70, go_sem, e0, e1]
theorem open_any (a : Option Addr) (cap N : Nat) (l : List Nat) (w : World) (ht : Tab w) (ha : IsB w a l) (hN : N = l.length) (hcap : N ≤ cap) (hc12 : cap ≤ 9223372036854775807) (hl : l.length ≤ 4000000) (hc0 : a = none → cap = 0) :
    Calls Tryd.prog 70 #[.slice a N cap] w fun e w' => OpIs l w e w' := callsIn_wide.1 (open_in a cap N l w ht ha hN hcap hc12 hl hc0)
end Qb
end Go.Proofs.YtnhhalabmmcemaaDoor
namespace Go.Proofs.YtnhhalabmmcemaaDoor
namespace Qb
open Go.RowKit Go.Shelf CMath Byt Laws Irw Crw Cod Qe
set_option linter.unusedVariables false
set_option linter.unusedSimpArgs false
set_option maxRecDepth 100000
attribute [local go_sem] Oper.semAt_some

abbrev IsE := @Erw.IsE
abbrev OwnE := @Erw.OwnE
theorem wpListIn_appE {F : Fence} {n : Nat} {P : Program} (w : World) {ops : Array Oper} {rest : List Oper} {o : Oper} {a : Act} {Q : Exit → Act → World → Prop} (hgd : o.guard = none) (s x : Operand) (t : TypeId)
    (ho : o.op = .call { callee := .builtin .append, args := #[s, x], argTypes := #[t, t] })
    (i : TypeInfo) (ht : P.underlying t = some (.slice 43)) (hi : P.info? 43 = some i) (hz : i.zero = some (.agg #[.string ⟨#[]⟩, .int .u64 0, .bool false, .string ⟨#[]⟩])) (hsize : i.size = 4) (hby : i.bytes = 48)
    (g : Nat) (T : Nat → Nat) (v : Value) (l : List En) (hs : a.eval s = v) (hown : OwnE g T w v l) (ao : Option Addr) (m c : Nat) (r : List En) (hx : a.eval x = .slice ao m c) (hm : m = r.length) (hn : ao = none → c = 0) (hr : IsE w ao r) (h40 : l.length + r.length ≤ 2932031007402)
    (h : ∀ a' c' T' w', OwnE g T' w' (.slice a' (l.length + r.length) c') (l ++ r) → Goes (· = g) T w T' w' → wpListIn F n P ops Q rest (a.put o.dst (.slice a' (l.length + r.length) c')) w') : wpListIn F n P ops Q (o :: rest) a w := by
  refine wpListIn_plain hgd fun K hK' => ?_
  obtain ⟨v', T', w', hrun, h2, h3, h4, h5⟩ := Erw.run_appE (P := P) w t o.type i ht hi hz hsize hby g T v l hown ao m c r hm hn hr h40
  obtain ⟨a', c', rfl, _⟩ := h2.form
  rw [List.length_append] at h2 hrun
  unfold Oper.wpIn
  refine ⟨?_, ?_⟩
  · simp [Oper.about, ho, resolve, Target.leads, Sem.run_pure]
  · rw [Oper.semAt_plain F _ _ (by rw [ho]; intro c hc'; cases hc')]
    simp [execOp, ho, resolve, invoke, builtin, hs, hx, hrun, Result.andThen]
    exact hK' _ _ (h a' c' T' w' h2 h3)
theorem ownE_rt {t : Nat} {T : Nat → Nat} {w : World} {v : Value} {l : List En} (h : OwnE t T w v l) : OwnE t (rt T w) w v l := by
  refine ⟨h.1, fun g hv => ?_⟩
  rcases h.1.2 with ⟨h1, _⟩ | ⟨g', cap, cur, hv', _, hh, _⟩
  · rw [h1] at hv; cases hv
  · rw [hv'] at hv
    cases hv
    rw [rt_cells hh rfl]
    exact h.2 _ (by rw [hv']; rfl)
theorem ownE_grown {t : Nat} {T : Nat → Nat} {A C : World} {row : Option Nat} {v : Value} {l : List En} (h : OwnE t T A v l) (hg : A.grownBy C row) (hr : ∀ x, row = some x → ∃ o : Obj, A.heap[x]? = some o ∧ o.isCells = false) : OwnE t T C v l := by
  refine ⟨⟨h.1.1, ?_⟩, h.2⟩
  rcases h.1.2 with h1 | ⟨g, cap, cur, hv, hb, hh, hrest⟩
  · exact .inl h1
  · refine .inr ⟨g, cap, cur, hv, hb, ?_, hrest⟩
    rw [hg.block g (Array.getElem?_eq_some_iff.1 hh).1 (fun e => by
      obtain ⟨o, h1, h2⟩ := hr g e.symm
      rw [h1] at hh; cases hh; cases h2)]
    exact hh
theorem isE_new9 {w : World} {x : En} {u : TypeId} : IsE (w.alloc (.cells #[.string x.1, .int .u64 x.2.1, .bool x.2.2.1, .string x.2.2.2] u)) (some ⟨w.heap.size, 0, none⟩) [x] := by
  refine Erw.IsE.of ⟨by simp, fun i z hz => ?_⟩
  cases i with
  | zero => simp at hz; subst hz; refine ⟨?_, ?_, ?_, ?_⟩ <;> (rw [World.cell?_alloc_at _ _ _ _ rfl]; rfl)
  | succ i => simp at hz
theorem undSeq : Tryd.prog.underlying 65 = some (.func #[94] #[] false) := by kernel_rfl
theorem fun_eq (d fn : Nat) (caps : Array Value) (w : World) : (Op.equalIn (d + 1) 65 (.func (.func fn) #[] caps) .nilFunc).run Tryd.prog w = .ok false w := by
  simp [Op.equalIn, run_underlying undSeq]
theorem fun_nil (fn : Nat) (caps : Array Value) (w : World) : (binOp .eql 65 (.func (.func fn) #[] caps) .nilFunc).run Tryd.prog w = .ok (.bool false) w := by
  have h := fun_eq 9999 fn caps w
  simp only [binOp]
  simp [Op.equal, Op.maxDepth, h]

def uG (x : Nat) : Prop := x = 7 ∨ x = 8
/-- where the loop of given stands -/
structure Gi (w : World) (nn : Int) (es : List En) (T : Nat → Nat) (W : World) : Prop where
  n : W.cell? ⟨w.heap.size, 0, none⟩ = some (.int .i64 nn)
  tn : T w.heap.size = 0
  l : ∃ v, W.cell? ⟨w.heap.size + 1, 0, none⟩ = some v ∧ OwnE 7 T W v es
  fl : W.frozen? ⟨w.heap.size + 1, 0, none⟩ = false
  tl : T (w.heap.size + 1) = 8
  bl : Below w.heap.size w W
  hi : ∀ b, W.heap.size ≤ b → T b = 0
  fr : ∀ b, b < w.heap.size → T b = 0
  nc : NC T W
theorem Gi.lasts {w : World} {B : Nat} {nn : Int} (hB : w.heap.size ≤ B) : Lasts B (Gi w nn) := by
  rintro es T A C row h hg hr
  have hr2 : ∀ x, row = some x → ∃ o : Obj, A.heap[x]? = some o ∧ o.isCells = false := fun x e => (hr x e).2
  obtain ⟨v, h1, h2⟩ := h.l
  have k0 := cell_grown' hg hr2 h.n
  have k1 := cell_grown' hg hr2 h1
  exact ⟨(World.cell?_of_block (a := ⟨w.heap.size, 0, none⟩) k0).trans h.n, h.tn, ⟨v, (World.cell?_of_block (a := ⟨w.heap.size + 1, 0, none⟩) k1).trans h1, ownE_grown h2 hg hr2⟩, (World.frozen?_of_block (a := ⟨w.heap.size + 1, 0, none⟩) k1).trans h.fl, h.tl, below_grown (B := 0) h.bl hg (Nat.le_refl _) (fun x e => Nat.le_trans hB (hr x e).1), fun b hb => h.hi b (Nat.le_trans hg.size hb), h.fr, h.nc.grown h.hi hg hr2⟩
/-- What given gives. -/
def gv (nn : Int) (l : List En) : List En := if nn < 0 then l else l.take nn.toNat
def GvIs (w : World) (l : List En) (e : Ending) (w' : World) : Prop := ∃ a c, e = .returned (.slice a l.length c) ∧ IsE w' a l ∧ l.length ≤ c ∧ (a = none → c = 0) ∧ (∀ b off, a = some ⟨b, off, none⟩ → w.heap.size ≤ b) ∧ Below w.heap.size w w'

theorem gi_fin {w W' : World} {nn : Int} {es : List En} {T : Nat → Nat} {v : Value} {D B : Nat} (h : Gi w nn es T W') (lc : W'.cell? ⟨w.heap.size + 1, 0, none⟩ = some v) (lo : OwnE 7 T W' v es) (hD : B ≤ D) (hDd : W'.heap[D]? = some (.deferred (some []))) :
    ∀ w', Below w.heap.size W' w' → (∀ b, b ∉ [D] → w'.heap[b]? = W'.heap[b]?) → GvIs w es (.returned v) w' := by
  intro w' hb hk
  obtain ⟨a, c, rfl, hi, hc, hn⟩ := lo.form
  have blk : ∀ g, a = some ⟨g, 0, none⟩ → T g = 7 ∧ w'.heap[g]? = W'.heap[g]? := fun g e => by
    refine ⟨lo.2 g (by rw [e]; rfl), hk g ?_⟩
    intro hm
    rw [List.mem_singleton.1 hm] at e
    rcases lo.1.2 with ⟨q, _⟩ | ⟨g', cap', cur', q, _, q2, _⟩
    · rw [e] at q; cases q
    · rw [e] at q; cases q; rw [hDd] at q2; cases q2
  have off0 : ∀ b off, a = some ⟨b, off, none⟩ → off = 0 := fun b off e => by
    rcases lo.1.2 with ⟨q, _⟩ | ⟨g', cap', cur', q, _⟩
    · rw [e] at q; cases q
    · rw [e] at q; cases q; rfl
  refine ⟨a, c, rfl, fun hne => ?_, hc, hn, fun b off e => ?_, h.bl.trans hb⟩
  · obtain ⟨b, off, e, hr⟩ := hi hne
    have := off0 b off e
    subst this
    exact ⟨b, 0, e, Nat.lt_of_lt_of_le hr.1 hb.size, fun i x hx => by
      obtain ⟨q1, q2, q3, q4⟩ := hr.2 i x hx
      have hb' := (blk b e).2
      exact ⟨(World.cell?_of_block (a := ⟨b, 0 + i * 4, none⟩) hb').trans q1, (World.cell?_of_block (a := ⟨b, 0 + i * 4 + 1, none⟩) hb').trans q2, (World.cell?_of_block (a := ⟨b, 0 + i * 4 + 2, none⟩) hb').trans q3, (World.cell?_of_block (a := ⟨b, 0 + i * 4 + 3, none⟩) hb').trans q4⟩⟩
  · have := off0 b off e
    subst this
    rcases Nat.lt_or_ge b w.heap.size with hlt | hge
    · have := (blk b e).1
      rw [h.fr b hlt] at this
      cases this
    · exact hge
end Qb
end Go.Proofs.YtnhhalabmmcemaaDoor
