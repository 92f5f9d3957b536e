import Derived.Test.YtnhhalabmmcemaaDoorTaN
namespace Go.Proofs.YtnhhalabmmcemaaDoor
namespace Tbl
open Go.RowKit Go.Shelf CMath Byt Laws Irw Crw Cod Qb Qe
set_option linter.unusedVariables false
set_option linter.unusedSimpArgs false
set_option maxRecDepth 100000
attribute [local go_sem] Oper.semAt_some

/-- The parts of a table as they lie. -/
def PsAt (R : Nat) (T : Nat → Nat) (w : World) : List (ByteArray × Nat) → List (List En) → Prop
  | [], [] => True
  | p :: ps, cs :: css => p.1 = lastE ⟨#[]⟩ cs ∧ (∃ r, 1 ≤ r ∧ pushes r st0 cs = pushes R st0 cs ∧ BlkAt (· ≠ 0) T w p.2 3 (pushes r st0 cs).b (pushes r st0 cs).p) ∧ PsAt R T w ps css
  | _, _ => False
theorem PsAt.imp {R : Nat} {T T' : Nat → Nat} {w w' : World} (hb : ∀ K eb pb, BlkAt (· ≠ 0) T w K 3 eb pb → BlkAt (· ≠ 0) T' w' K 3 eb pb) : ∀ (ps : List (ByteArray × Nat)) (css : List (List En)), PsAt R T w ps css → PsAt R T' w' ps css
  | [], [], _ => trivial
  | p :: ps, cs :: css, h => ⟨h.1, (by obtain ⟨r, h1, h2, h3⟩ := h.2.1; exact ⟨r, h1, h2, hb _ _ _ h3⟩), PsAt.imp hb ps css h.2.2⟩
  | [], _ :: _, h => h.elim
  | _ :: _, [], h => h.elim
theorem PsAt.goes {R : Nat} {u : Nat → Prop} {T T' : Nat → Nat} {w w' : World} {ps : List (ByteArray × Nat)} {css : List (List En)} (h : PsAt R T w ps css) (hg : Goes u T w T' w') (h0 : ¬ u 0) : PsAt R T' w' ps css :=
  PsAt.imp (fun K eb pb hb => hb.goes (hg.mono (fun x hx z => h0 (by rw [z] at hx; exact hx)))) ps css h
theorem PsAt.app {R : Nat} {T : Nat → Nat} {w : World} {K : Nat} {cs : List En} {r : Nat} : ∀ (ps : List (ByteArray × Nat)) (css : List (List En)), PsAt R T w ps css → 1 ≤ r → pushes r st0 cs = pushes R st0 cs → BlkAt (· ≠ 0) T w K 3 (pushes r st0 cs).b (pushes r st0 cs).p → PsAt R T w (ps ++ [(lastE ⟨#[]⟩ cs, K)]) (css ++ [cs])
  | [], [], _, h1, h2, h3 => ⟨rfl, ⟨r, h1, h2, h3⟩, trivial⟩
  | p :: ps, c :: css, h, h1, h2, h3 => ⟨h.1, h.2.1, PsAt.app ps css h.2.2 h1 h2 h3⟩
  | [], _ :: _, h, _, _, _ => h.elim
  | _ :: _, [], h, _, _, _ => h.elim
theorem PsAt.len {R : Nat} {T : Nat → Nat} {w : World} : ∀ (ps : List (ByteArray × Nat)) (css : List (List En)), PsAt R T w ps css → ps.length = css.length
  | [], [], _ => rfl
  | p :: ps, c :: css, h => by simp [PsAt.len ps css h.2.2]
  | [], _ :: _, h => h.elim
  | _ :: _, [], h => h.elim
theorem TbO.goes {t : Nat} {u : Nat → Prop} {T T' : Nat → Nat} {w w' : World} {B : Nat} {ps : List (ByteArray × Nat)} {F : List Nat} {m : Mt} (h : TbO t T w B ps F m) (hg : Goes u T w T' w') (h0 : ¬ u 0) (h1 : ¬ u t) (h2 : ¬ u (t + 1)) : TbO t T' w' B ps F m := by
  obtain ⟨pv, fa, fc, hob, hpv, hfi, hft⟩ := h.ob
  have lB := (Array.getElem?_eq_some_iff.1 hob).1
  have hB : ¬ u (T B) := by rw [h.tB]; exact h1
  refine ⟨⟨pv, fa, fc, (hg.block B lB hB).trans hob, hpv.goes hg h2, (isB_goes hfi hg (fun b off e hne => by rw [hft b off e hne]; exact h0)).1, fun b off e hne => ?_⟩, (hg.tag B lB hB).trans h.tB⟩
  obtain ⟨b', off', e', hr⟩ := hfi.1 hne
  rw [e] at e'; cases e'
  have := hft b off e hne
  exact (hg.tag b hr.1 (by rw [this]; exact h0)).trans this
theorem isB_grown2 {A C : World} {row : Option Nat} (hg : A.grownBy C row) (hr : ∀ x, row = some x → ∃ o : Obj, A.heap[x]? = some o ∧ o.isCells = false) {a : Option Addr} {l : List Nat} (h : IsB A a l) : IsB C a l := by
  refine ⟨fun hne => ?_, h.2⟩
  obtain ⟨b, off, e, hrow⟩ := h.1 hne
  obtain ⟨y, hy⟩ : ∃ y, l[0]? = some y := by
    cases l with
    | nil => exact absurd rfl hne
    | cons y l => exact ⟨y, rfl⟩
  exact ⟨b, off, e, hrow.keep (cell_grown' hg hr (hrow.2 0 y hy)) hg.size⟩
theorem TbO.grown {t : Nat} {T : Nat → Nat} {A C : World} {row : Option Nat} {B : Nat} {ps : List (ByteArray × Nat)} {F : List Nat} {m : Mt} (h : TbO t T A B ps F m) (hg : A.grownBy C row) (hr : ∀ x, row = some x → ∃ o : Obj, A.heap[x]? = some o ∧ o.isCells = false) : TbO t T C B ps F m := by
  obtain ⟨pv, fa, fc, hob, hpv, hfi, hft⟩ := h.ob
  exact ⟨⟨pv, fa, fc, obj_grown hg hr hob, ownK_keep hpv (fun g cs ty h1 h2 => ⟨obj_grown hg hr h1, h2⟩), isB_grown2 hg hr hfi, hft⟩, h.tB⟩
theorem PsAt.grown {R : Nat} {T : Nat → Nat} {A C : World} {row : Option Nat} {ps : List (ByteArray × Nat)} {css : List (List En)} (h : PsAt R T A ps css) (hg : A.grownBy C row) (hr : ∀ x, row = some x → ∃ o : Obj, A.heap[x]? = some o ∧ o.isCells = false) : PsAt R T C ps css :=
  PsAt.imp (fun K eb pb hb => blkAt_keep hb hg.size (fun g ob h1 h2 h3 => ⟨(hg.block g (Array.getElem?_eq_some_iff.1 h1).1 (fun e => by
    obtain ⟨o, k1, k2⟩ := hr g e.symm
    rw [k1] at h1; cases h1; rw [k2] at h2; cases h2)).trans h1, h3⟩)) ps css h
def uq (t : Nat) (x : Nat) : Prop := x = t ∨ x = t + 1 ∨ x = 6
/-- What stands while the blocks are read. -/
structure Rq (w4 : World) (T0 : Nat → Nat) (t B Bx Bb Bp g R : Nat) (F : List Nat) (css : List (List En)) (j : Nat) (T : Nat → Nat) (W : World) : Prop where
  tb : ∃ ps, TbO t T W B ps F (mtF (css.take j).flatten) ∧ PsAt R T W ps (css.take j)
  bx : W.heap[Bx]? = some (.cells #[.pointer (some ⟨B, 0, none⟩)] 34)
  bb : ∃ o c, W.heap[Bb]? = some (.cells #[.slice (some ⟨g, o, none⟩) (laidOf R (css.drop j)).length c] 25) ∧ IsB W (some ⟨g, o, none⟩) (laidOf R (css.drop j)) ∧ (laidOf R (css.drop j)).length ≤ c ∧ c ≤ 9223372036854775807
  bp : W.heap[Bp]? = some (.cells #[.int .i64 ((laidOf R (css.take j)).length : Int)] 3)
  go : Goes (uq t) T0 w4 T W
  tX : T Bx = 0
  tb6 : T Bb = 6
  tp6 : T Bp = 6
  hi : ∀ b, W.heap.size ≤ b → T b = 0
  nc : NC T W
  t5 : ∀ b, T b ≠ 5
theorem Rq.lasts {w4 : World} {T0 : Nat → Nat} {t B Bx Bb Bp g R : Nat} {F : List Nat} {css : List (List En)} {α : Type} {N : Nat} (hN : w4.heap.size ≤ N) : Lasts N (fun (es : List α) T W => Rq w4 T0 t B Bx Bb Bp g R F css es.length T W) := by
  rintro es T A C row h hg hr
  have hr2 : ∀ x, row = some x → ∃ o : Obj, A.heap[x]? = some o ∧ o.isCells = false := fun x e => (hr x e).2
  obtain ⟨ps, h1, h2⟩ := h.tb
  obtain ⟨o, c, k1, k2, k3⟩ := h.bb
  exact ⟨⟨ps, h1.grown hg hr2, h2.grown hg hr2⟩, obj_grown hg hr2 h.bx, ⟨o, c, obj_grown hg hr2 k1, isB_grown2 hg hr2 k2, k3⟩, obj_grown hg hr2 h.bp, goes_grown h.go hg (fun x e => Nat.le_trans hN (hr x e).1), h.tX, h.tb6, h.tp6, fun b hb => h.hi b (Nat.le_trans hg.size hb), h.nc.grown h.hi hg hr2, h.t5⟩

end Tbl
end Go.Proofs.YtnhhalabmmcemaaDoor
namespace Go.Proofs.YtnhhalabmmcemaaDoor
namespace Tbl
open Go.RowKit Go.Shelf CMath Byt Laws Irw Crw Cod Qb Qe
set_option linter.unusedVariables false
set_option linter.unusedSimpArgs false
set_option maxRecDepth 100000
attribute [local go_sem] Oper.semAt_some

theorem ixs_at (R : Nat) : ∀ (css : List (List En)) (p j : Nat) (cs : List En), css[j]? = some cs → (ixs R p css)[j]? = some (lastE ⟨#[]⟩ cs, 0, false, ixV (p + (laidOf R (css.take j)).length) (blk (pushes R st0 cs)).length)
  | [], p, j, cs, h => by simp at h
  | c :: css, p, 0, cs, h => by simp at h; subst h; simp [ixs, laidOf]
  | c :: css, p, j + 1, cs, h => by
    have := ixs_at R css (p + (blk (pushes R st0 c)).length) j cs (by simpa using h)
    rw [ixs, List.getElem?_cons_succ, this, List.take_succ_cons, laid_cons, List.length_append, Nat.add_assoc]
theorem laid_drop {R : Nat} {css : List (List En)} {j : Nat} {cs : List En} (h : css[j]? = some cs) : laidOf R (css.drop j) = blk (pushes R st0 cs) ++ laidOf R (css.drop (j + 1)) := by
  obtain ⟨hl, rfl⟩ := List.getElem?_eq_some_iff.1 h
  rw [List.drop_eq_getElem_cons hl, laid_cons]
theorem laid_take {R : Nat} {css : List (List En)} {j : Nat} {cs : List En} (h : css[j]? = some cs) : laidOf R (css.take (j + 1)) = laidOf R (css.take j) ++ blk (pushes R st0 cs) := by
  rw [List.take_add_one, h]
  exact laid_snoc R cs (css.take j)
theorem flat_take {css : List (List En)} {j : Nat} {cs : List En} (h : css[j]? = some cs) : (css.take (j + 1)).flatten = (css.take j).flatten ++ cs := by
  rw [List.take_add_one, h]
  simp
theorem flat_pre {css : List (List En)} {j : Nat} {cs : List En} (h : css[j]? = some cs) : ∃ m, css.flatten = (css.take j).flatten ++ (cs ++ m) := by
  obtain ⟨hl, rfl⟩ := List.getElem?_eq_some_iff.1 h
  refine ⟨(css.drop (j + 1)).flatten, ?_⟩
  have e : css = css.take j ++ css.drop j := (List.take_append_drop j css).symm
  rw [List.drop_eq_getElem_cons hl] at e
  have := congrArg List.flatten e
  rw [List.flatten_append, List.flatten_cons] at this
  exact this
theorem TbO.rt {t : Nat} {T : Nat → Nat} {w : World} {B : Nat} {ps : List (ByteArray × Nat)} {F : List Nat} {m : Mt} (h : TbO t T w B ps F m) : TbO t (Qb.rt T w) w B ps F m := by
  obtain ⟨pv, fa, fc, hob, hpv, hfi, hft⟩ := h.ob
  refine ⟨⟨pv, fa, fc, hob, ownK_keep hpv (fun g cs ty h1 h2 => ⟨h1, (rt_cells h1 rfl).trans h2⟩), hfi, fun b off e hne => ?_⟩, (rt_cells hob rfl).trans h.tB⟩
  have := hft b off e hne
  unfold Qb.rt
  split
  · rfl
  · exact this
theorem PsAt.rt {R : Nat} {T : Nat → Nat} {w : World} {ps : List (ByteArray × Nat)} {css : List (List En)} (h : PsAt R T w ps css) : PsAt R (Qb.rt T w) w ps css :=
  PsAt.imp (fun K eb pb hb => blkAt_keep hb (Nat.le_refl _) (fun g ob h1 h2 h3 => ⟨h1, (rt_cells h1 h2).trans h3⟩)) ps css h
theorem TbO.below {t : Nat} {T : Nat → Nat} {w w' : World} {B : Nat} {ps : List (ByteArray × Nat)} {F : List Nat} {m : Mt} (h : TbO t T w B ps F m) (hb : Below w.heap.size w w') : TbO t T w' B ps F m := h.goes (Goes.below (t := fun _ => False) hb) (fun z => z) (fun z => z) (fun z => z)
theorem rq_next {w4 : World} {T0 T1 T2 : Nat → Nat} {t B Bx Bb Bp g R : Nat} {F : List Nat} {css : List (List En)} {j : Nat} {cs : List En} {Wb W2 W5 W6 : World} {ps : List (ByteArray × Nat)} {r o1 c1 N : Nat} (ht : 10 ≤ t) (hgT : T0 g = 0 ∧ g < w4.heap.size)
    (h : Rq w4 T0 t B Bx Bb Bp g R F css j T1 Wb) (hps : PsAt R T1 Wb ps (css.take j)) (hcs : css[j]? = some cs) (hob : Wb.heap[Bb]? = some (.cells #[.slice (some ⟨g, o1, none⟩) (laidOf R (css.drop j)).length c1] 25)) (hoi : IsB Wb (some ⟨g, o1, none⟩) (laidOf R (css.drop j))) (hoc : (laidOf R (css.drop j)).length ≤ c1 ∧ c1 ≤ 9223372036854775807)
    (hb2 : Below Wb.heap.size Wb W2) (hr1 : 1 ≤ r) (hrr : pushes r st0 cs = pushes R st0 cs) (hT2 : ∃ K, TbO t T2 W5 B (ps ++ [(lastE ⟨#[]⟩ cs, K)]) F (mtF ((css.take j).flatten ++ cs)) ∧ BlkAt (· ≠ 0) T2 W5 K 3 (pushes r st0 cs).b (pushes r st0 cs).p ∧ Goes (fun x => x = t ∨ x = t + 1) T1 W2 T2 W5 ∧ NC T2 W5 ∧ Hi T2 W5 ∧ (∀ b, T2 b ≠ 5))
    (hb6 : Below W5.heap.size W5 W6) :
    ∃ T', Rq w4 T0 t B Bx Bb Bp g R F css (j + 1) T' ((W6.setCell ⟨Bp, 0, none⟩ (.int .i64 ((laidOf R (css.take (j + 1))).length : Int))).setCell ⟨Bb, 0, none⟩ (.slice (some ⟨g, cutO c1 (blk (pushes R st0 cs)).length o1, none⟩) (laidOf R (css.drop (j + 1))).length (c1 - (blk (pushes R st0 cs)).length))) ∧ Goes (uq t) T1 Wb T' ((W6.setCell ⟨Bp, 0, none⟩ (.int .i64 ((laidOf R (css.take (j + 1))).length : Int))).setCell ⟨Bb, 0, none⟩ (.slice (some ⟨g, cutO c1 (blk (pushes R st0 cs)).length o1, none⟩) (laidOf R (css.drop (j + 1))).length (c1 - (blk (pushes R st0 cs)).length))) ∧ (∀ b, ((W6.setCell ⟨Bp, 0, none⟩ (.int .i64 ((laidOf R (css.take (j + 1))).length : Int))).setCell ⟨Bb, 0, none⟩ (.slice (some ⟨g, cutO c1 (blk (pushes R st0 cs)).length o1, none⟩) (laidOf R (css.drop (j + 1))).length (c1 - (blk (pushes R st0 cs)).length))).heap.size ≤ b → T' b = 0) ∧ KeepsFrom N Wb ((W6.setCell ⟨Bp, 0, none⟩ (.int .i64 ((laidOf R (css.take (j + 1))).length : Int))).setCell ⟨Bb, 0, none⟩ (.slice (some ⟨g, cutO c1 (blk (pushes R st0 cs)).length o1, none⟩) (laidOf R (css.drop (j + 1))).length (c1 - (blk (pushes R st0 cs)).length))) := by
  obtain ⟨K, htb, hbk, hgR, hnc, hhi, ht5⟩ := hT2
  have hu0 : ¬ uq t 0 := by unfold uq; omega
  have lX := (Array.getElem?_eq_some_iff.1 h.bx).1
  have lb := (Array.getElem?_eq_some_iff.1 hob).1
  have lp := (Array.getElem?_eq_some_iff.1 h.bp).1
  have hbp : Bb ≠ Bp := fun e => by rw [e, h.bp] at hob; simp at hob
  have gA : Goes (fun x => x = t ∨ x = t + 1) T1 Wb T2 W6 := ((Goes.below hb2).trans hgR).trans (Goes.below hb6)
  have tb2 : T2 Bb = 6 := (gA.tag Bb lb (by rw [h.tb6]; omega)).trans h.tb6
  have tp2 : T2 Bp = 6 := (gA.tag Bp lp (by rw [h.tp6]; omega)).trans h.tp6
  have ob6 : W6.heap[Bb]? = _ := (gA.block Bb lb (by rw [h.tb6]; omega)).trans hob
  have op6 : W6.heap[Bp]? = _ := (gA.block Bp lp (by rw [h.tp6]; omega)).trans h.bp
  have g6 : Goes (· = 6) T2 W6 T2 ((W6.setCell ⟨Bp, 0, none⟩ (.int .i64 ((laidOf R (css.take (j + 1))).length : Int))).setCell ⟨Bb, 0, none⟩ (.slice (some ⟨g, cutO c1 (blk (pushes R st0 cs)).length o1, none⟩) (laidOf R (css.drop (j + 1))).length (c1 - (blk (pushes R st0 cs)).length))) := (Goes.setCell tp2).trans (Goes.setCell tb2)
  have ob9 : ((W6.setCell ⟨Bp, 0, none⟩ (.int .i64 ((laidOf R (css.take (j + 1))).length : Int))).setCell ⟨Bb, 0, none⟩ (.slice (some ⟨g, cutO c1 (blk (pushes R st0 cs)).length o1, none⟩) (laidOf R (css.drop (j + 1))).length (c1 - (blk (pushes R st0 cs)).length))).heap[Bb]? = some (.cells #[.slice (some ⟨g, cutO c1 (blk (pushes R st0 cs)).length o1, none⟩) (laidOf R (css.drop (j + 1))).length (c1 - (blk (pushes R st0 cs)).length)] 25) := obj_set (cs := #[_]) ((Below.heap_setCell _ _ _ _ hbp).trans ob6)
  have op9 : ((W6.setCell ⟨Bp, 0, none⟩ (.int .i64 ((laidOf R (css.take (j + 1))).length : Int))).setCell ⟨Bb, 0, none⟩ (.slice (some ⟨g, cutO c1 (blk (pushes R st0 cs)).length o1, none⟩) (laidOf R (css.drop (j + 1))).length (c1 - (blk (pushes R st0 cs)).length))).heap[Bp]? = some (.cells #[.int .i64 ((laidOf R (css.take (j + 1))).length : Int)] 3) := (Below.heap_setCell _ _ _ _ (fun e => hbp e.symm)).trans (obj_set (cs := #[_]) op6)
  generalize ((W6.setCell ⟨Bp, 0, none⟩ (.int .i64 ((laidOf R (css.take (j + 1))).length : Int))).setCell ⟨Bb, 0, none⟩ (.slice (some ⟨g, cutO c1 (blk (pushes R st0 cs)).length o1, none⟩) (laidOf R (css.drop (j + 1))).length (c1 - (blk (pushes R st0 cs)).length))) = W9 at *
  have hgo : Goes (uq t) T1 Wb T2 W9 := (gA.mono (fun x hx => by rcases hx with h | h <;> simp [uq, h])).trans (g6.mono (fun x hx => by simp [uq, hx]))
  have p3 := goes_rt hgo h.nc
  have oX9 := (hgo.block Bx lX (by rw [h.tX]; exact hu0)).trans h.bx
  have hld := laid_drop (R := R) hcs
  have hTg : T1 g = 0 := (h.go.tag g hgT.2 (by rw [hgT.1]; exact hu0)).trans hgT.1
  refine ⟨Qb.rt T2 W9, ⟨⟨ps ++ [(lastE ⟨#[]⟩ cs, K)], ?_, ?_⟩, oX9, ⟨_, _, ob9, ?_, ?_⟩, op9, h.go.trans p3, ?_, (rt_cells ob9 rfl).trans tb2, (rt_cells op9 rfl).trans tp2, fun b hb => p3.high b hb (h.hi b (Nat.le_trans p3.size hb)), nc_rt _ _, fun b => ?_⟩, p3, fun b hb => p3.high b hb (h.hi b (Nat.le_trans p3.size hb)), keeps_of p3 h.nc hu0 _⟩
  · rw [flat_take hcs]
    exact ((htb.below hb6).goes g6 (by omega) (by omega) (by omega)).rt
  · have e : css.take (j + 1) = css.take j ++ [cs] := by rw [List.take_add_one, hcs]; rfl
    rw [e]
    refine PsAt.rt (PsAt.app _ _ (hps.goes hgo hu0) hr1 hrr ?_)
    exact (hbk.below hb6).goes (g6.mono (fun x hx => by show x ≠ 0; omega))
  · have h1 := cut_isB (n := (blk (pushes R st0 cs)).length) hoi hoc.1
    rw [hld, List.drop_left] at h1
    refine (isB_goes h1 hgo (fun b off e hne => ?_)).1
    cases e
    rw [hTg]; exact hu0
  · rw [hld, List.length_append] at hoc
    omega
  · exact (rt_cells oX9 rfl).trans ((hgo.tag Bx lX (by rw [h.tX]; exact hu0)).trans h.tX)
  · unfold Qb.rt
    split
    · omega
    · exact ht5 b
theorem chain_nil {l : List En} {a : ByteArray} (h : chain a l) : chain ⟨#[]⟩ l := by
  cases l with
  | nil => exact trivial
  | cons e l =>
    refine ⟨?_, h.2⟩
    have hf := (adds_ok h.1).1
    have hk := (fault_ok hf).k1
    unfold adds
    rw [if_neg (by rw [hf]; simp), if_pos]
    cases hd : e.1.data.toList with
    | nil => rw [ByteArray.size, ← Array.length_toList, hd] at hk; simp at hk
    | cons x xs => rfl
theorem laid_split (R : Nat) (css : List (List En)) (j : Nat) : (laidOf R css).length = (laidOf R (css.take j)).length + (laidOf R (css.drop j)).length := by
  have : laidOf R css = laidOf R (css.take j) ++ laidOf R (css.drop j) := by
    unfold laidOf
    rw [← List.flatten_append, ← List.map_append, List.take_append_drop]
  rw [this, List.length_append]
/-- The boxes that a round reads. -/
structure Ro (Bx Bb Bp N B g o1 L c1 p : Nat) (ek ev : ByteArray) (W : World) : Prop where
  bx : W.heap[Bx]? = some (.cells #[.pointer (some ⟨B, 0, none⟩)] 34)
  bb : W.heap[Bb]? = some (.cells #[.slice (some ⟨g, o1, none⟩) L c1] 25)
  bp : W.heap[Bp]? = some (.cells #[.int .i64 (p : Int)] 3)
  ev : W.heap[N]? = some (.cells #[.string ek, .int .u64 0, .bool false, .string ev] 43)
theorem Ro.goes {Bx Bb Bp N B g o1 L c1 p : Nat} {ek ev : ByteArray} {W W' : World} {u : Nat → Prop} {T T' : Nat → Nat} (h : Ro Bx Bb Bp N B g o1 L c1 p ek ev W) (hg : Goes u T W T' W') (h1 : ¬ u (T Bx)) (h2 : ¬ u (T Bb)) (h3 : ¬ u (T Bp)) (h4 : ¬ u (T N)) : Ro Bx Bb Bp N B g o1 L c1 p ek ev W' :=
  ⟨(hg.block _ (Array.getElem?_eq_some_iff.1 h.bx).1 h1).trans h.bx, (hg.block _ (Array.getElem?_eq_some_iff.1 h.bb).1 h2).trans h.bb, (hg.block _ (Array.getElem?_eq_some_iff.1 h.bp).1 h3).trans h.bp, (hg.block _ (Array.getElem?_eq_some_iff.1 h.ev).1 h4).trans h.ev⟩
theorem Ro.below {Bx Bb Bp N B g o1 L c1 p : Nat} {ek ev : ByteArray} {W W' : World} (h : Ro Bx Bb Bp N B g o1 L c1 p ek ev W) (hb : Below W.heap.size W W') : Ro Bx Bb Bp N B g o1 L c1 p ek ev W' :=
  h.goes (T := fun _ => 0) (T' := fun _ => 0) (Goes.below (t := fun _ => False) hb) (fun z => z) (fun z => z) (fun z => z) (fun z => z)
theorem Ro.all {Bx Bb Bp N B g o1 L c1 p : Nat} {ek ev : ByteArray} {W : World} (h : Ro Bx Bb Bp N B g o1 L c1 p ek ev W) : W.cell? ⟨Bx, 0, none⟩ = some (.pointer (some ⟨B, 0, none⟩)) ∧ W.cell? ⟨Bb, 0, none⟩ = some (.slice (some ⟨g, o1, none⟩) L c1) ∧ W.cell? ⟨Bp, 0, none⟩ = some (.int .i64 (p : Int)) ∧ W.cell? ⟨N, 0, none⟩ = some (.string ek) ∧ W.cell? ⟨N, 1, none⟩ = some (.int .u64 0) ∧ W.cell? ⟨N, 2, none⟩ = some (.bool false) ∧ W.cell? ⟨N, 3, none⟩ = some (.string ev) ∧ W.frozen? ⟨Bb, 0, none⟩ = false ∧ W.frozen? ⟨Bp, 0, none⟩ = false :=
  ⟨cell_of h.bx 0, cell_of h.bb 0, cell_of h.bp 0, cell_of h.ev 0, cell_of h.ev 1, cell_of h.ev 2, cell_of h.ev 3, froz_of h.bb 0, froz_of h.bp 0⟩
theorem grownCap_ok (w : World) (n : Nat) (h : n ≤ 1000) : n ≤ grownCap w n 0 5 ∧ grownCap w n 0 5 ≤ 9223372036854775807 :=
  ⟨grownCap_ge w n 0 _, grownCap_le_maxLen w n 0 _ (by unfold maxLen; omega)⟩
theorem und2 : Tryd.prog.underlying 118 = some (.array 2 26) := by kernel_rfl
theorem run_ix2 (p nb : Int) (w : World) : (Instr.index 118 (.agg #[.int .u64 p, .int .u64 nb]) (.int .i64 1)).run Tryd.prog w = .ok (.int .u64 nb) w := by
  simp [Instr.index, asIntOf, run_underlying und2, go_sem, part]
/-- What readBlocks needs. -/
structure RqIn (t : Nat) (T : Nat → Nat) (w : World) (B : Nat) (F : List Nat) (R : Nat) (css : List (List En)) (g o n cap Ki ri : Nat) : Prop where
  tb : TbO t T w B [] F mt0
  hi : Hi T w
  nc : NC T w
  t0 : 10 ≤ t
  t5 : ∀ b, T b ≠ 5
  t6 : ∀ b, T b ≠ 6
  tab : Tab w
  t00 : T 0 = 0
  ix : BlkAt (· ≠ 0) T w Ki 3 (pushes ri st0 (ixs R 0 css)).b (pushes ri st0 (ixs R 0 css)).p
  ib : IsB w (some ⟨g, o, none⟩) (laidOf R css)
  gt : T g = 0
  gl : g < w.heap.size
  hn : n = (laidOf R css).length
  hcap : n ≤ cap ∧ cap ≤ 9223372036854775807
  nl : n ≤ 4000000
  R1 : 1 ≤ R
  ne : ∀ cs ∈ css, cs ≠ []
  ch : chain ⟨#[]⟩ css.flatten
  nn : ∀ e ∈ css.flatten, 0 ≤ e.2.1
  may : ∀ e ∈ css.flatten, BMath.may F (strB e.1) = true
  hF : F.length ≤ 1000000000
  len : css.flatten.length ≤ 100000
  cl : css.length ≤ 100000
def RqIs (t : Nat) (T : Nat → Nat) (w : World) (B : Nat) (F : List Nat) (R : Nat) (css : List (List En)) (e : Ending) (w' : World) : Prop :=
  e = .returned (.tuple #[]) ∧ ∃ T' ps, TbO t T' w' B ps F (mtF css.flatten) ∧ PsAt R T' w' ps css ∧ Goes (fun x => x = t ∨ x = t + 1) T w T' w' ∧ NC T' w' ∧ Hi T' w' ∧ (∀ b, T' b ≠ 5)
theorem TbO.keep {t x : Nat} {T T' : Nat → Nat} {w w' : World} {B : Nat} {ps : List (ByteArray × Nat)} {F : List Nat} {m : Mt} (h : TbO t T w B ps F m) (hs : w.heap.size ≤ w'.heap.size) (hx : x ≠ t ∧ x ≠ t + 1 ∧ x ≠ 0) (hk : ∀ (b : Nat) (ob : Obj), w.heap[b]? = some ob → ob.isCells = true → w'.heap[b]? = some ob ∧ (T b ≠ x → T' b = T b)) : TbO t T' w' B ps F m := by
  obtain ⟨pv, fa, fc, hob, hpv, hfi, hft⟩ := h.ob
  refine ⟨⟨pv, fa, fc, (hk B _ hob rfl).1, ownK_keep hpv (fun g cs ty h1 h2 => ⟨(hk g _ h1 rfl).1, ((hk g _ h1 rfl).2 (by omega)).trans h2⟩), ?_, fun b off e hne => ?_⟩, ((hk B _ hob rfl).2 (by rw [h.tB]; omega)).trans h.tB⟩
  · refine ⟨fun hne => ?_, hfi.2⟩
    obtain ⟨b, off, e, hr⟩ := hfi.1 hne
    obtain ⟨y, hy⟩ : ∃ y, F[0]? = some y := by
      cases hF : F with
      | nil => exact absurd hF hne
      | cons y l => exact ⟨y, rfl⟩
    obtain ⟨ob, ho, hoc⟩ := cells_of (hr.2 0 y hy)
    exact ⟨b, off, e, hr.keep ((hk b ob ho hoc).1.trans ho.symm) hs⟩
  · have h0 := hft b off e hne
    obtain ⟨b', off', e', hr⟩ := hfi.1 hne
    rw [e] at e'; cases e'
    obtain ⟨y, hy⟩ : ∃ y, F[0]? = some y := by
      cases hF : F with
      | nil => exact absurd hF hne
      | cons y l => exact ⟨y, rfl⟩
    obtain ⟨ob, ho, hoc⟩ := cells_of (hr.2 0 y hy)
    exact ((hk b ob ho hoc).2 (by rw [h0]; omega)).trans h0
theorem rq_fin {w4 W1 w w' : World} {T T0 T1 : Nat → Nat} {t B Bx Bb Bp g o n cap Ki ri R D : Nat} {F : List Nat} {css : List (List En)} (H : RqIn t T w B F R css g o n cap Ki ri) (g4 : Goes (fun _ => False) T w T0 w4) (h : Rq w4 T0 t B Bx Bb Bp g R F css css.length T1 W1) (hD : w.heap.size ≤ D) (hDd : W1.heap[D]? = some (.deferred (some []))) (hb : Below w.heap.size W1 w') (hk : ∀ b, b ∉ [D] → w'.heap[b]? = W1.heap[b]?) : RqIs t T w B F R css (.returned (.tuple #[])) w' := by
  have ht := H.t0
  have keep : ∀ (b : Nat) (ob : Obj), W1.heap[b]? = some ob → ob.isCells = true → w'.heap[b]? = some ob := fun b ob h1 h2 => (hk b (by
    intro hm
    rw [List.mem_singleton.1 hm] at h1
    rw [hDd] at h1; cases h1; cases h2)).trans h1
  obtain ⟨ps, htb, hps⟩ := h.tb
  rw [List.take_length] at htb hps
  obtain ⟨Tn, hTn⟩ : ∃ Tn : Nat → Nat, Tn = fun b => if T1 b = 6 then 0 else T1 b := ⟨_, rfl⟩
  have tn : ∀ b, T1 b ≠ 6 → Tn b = T1 b := fun b h => by rw [hTn]; simp [h]
  have tn5 : ∀ b, Tn b ≠ 5 := fun b => by
    rw [hTn]
    by_cases h6 : T1 b = 6
    · simp [h6]
    · simp [h6]; exact h.t5 b
  have tn0 : ∀ b, T1 b = 0 → Tn b = 0 := fun b h => (tn b (by omega)).trans h
  have rt0 : ∀ b, Tn b = 0 → Qb.rt Tn w' b = 0 := fun b h => by
    unfold Qb.rt
    split
    · rfl
    · exact h
  have hgA : ∀ b, b < w.heap.size → T b ≠ t → T b ≠ t + 1 → w'.heap[b]? = w.heap[b]? ∧ T1 b = T b := fun b h1 h2 h3 => by
    have h6 := H.t6 b
    have e0 : T0 b = T b := g4.tag b h1 (fun z => z)
    have q : ¬ uq t (T0 b) := by rw [e0]; unfold uq; omega
    have lb := Nat.lt_of_lt_of_le h1 g4.size
    exact ⟨(hb.block b h1).trans ((h.go.block b lb q).trans (g4.block b h1 (fun z => z))), (h.go.tag b lb q).trans e0⟩
  have hs1 := h.go.size
  have hs4 := g4.size
  have hsb := hb.size
  have hiA : ∀ b, w'.heap.size ≤ b → T1 b = 0 := fun b hb' => h.hi b (by omega)
  refine ⟨rfl, Qb.rt Tn w', ps, ?_, ?_, ⟨?_, ?_, ?_, ?_, ?_, ?_, ?_⟩, nc_rt _ _, fun b hb' => rt0 b (tn0 b (hiA b hb')), fun b => ?_⟩
  · exact htb.keep (x := 6) hb.size (by omega) (fun b ob h1 h2 => ⟨keep b ob h1 h2, fun h6 => (rt_cells (keep b ob h1 h2) h2).trans (tn b h6)⟩)
  · exact PsAt.imp (fun K eb pb hbk => blkAt_keep hbk hb.size (fun g' ob h1 h2 h3 => ⟨keep g' ob h1 h2, rt0 g' (tn0 g' h3)⟩)) ps css hps
  · exact hb.os.trans (h.go.os.trans g4.os)
  · exact hb.tape.trans (h.go.tape.trans g4.tape)
  · exact hb.output.trans (h.go.output.trans g4.output)
  · omega
  · exact fun b h1 h2 => (hgA b h1 (fun e => h2 (.inl e)) (fun e => h2 (.inr e))).1
  · intro b h1 h2
    obtain ⟨q1, q2⟩ := hgA b h1 (fun e => h2 (.inl e)) (fun e => h2 (.inr e))
    unfold Qb.rt
    split
    · rename_i hx
      obtain ⟨ob, ho, hoc⟩ := hx
      rw [q1] at ho
      exact (H.nc b ob ho hoc).symm
    · exact (tn b (by rw [q2]; exact H.t6 b)).trans q2
  · exact fun b h1 _ => rt0 b (tn0 b (hiA b h1))
  · unfold Qb.rt
    split
    · omega
    · exact tn5 b
set_option maxHeartbeats 4000000 in
theorem readBlocks_in (t : Nat) (T : Nat → Nat) (w : World) (B : Nat) (F : List Nat) (R : Nat) (css : List (List En)) (g o n cap Ki ri : Nat) (H : RqIn t T w B F R css g o n cap Ki ri) :
    CallsIn Fence.wide 20 Tryd.prog 46 #[.pointer (some ⟨B, 0, none⟩), .slice (some ⟨g, o, none⟩) n cap, .pointer (some ⟨Ki, 3, none⟩)] w fun e w' => RqIs t T w B F R css e w' := by
  have HH := Qb.hid H
  clear H
  have hfA : Fence.wide.fn 50 := trivial
  have hfN : Fence.wide.fn 67 := trivial
  have hfU : Fence.wide.fn 68 := trivial
  have hfR : Fence.wide.fn 69 := trivial
  have hfI : Fence.wide.fn 59 := trivial
  have hfD : Fence.wide.fn 48 := trivial
  have hfn : ∀ (x : Nat) (w : World), (binOp .eql 65 (.func (.func 71) #[] #[.pointer (some ⟨x, 0, none⟩)]) .nilFunc).run Tryd.prog w = .ok (.bool false) w := fun x w => fun_nil _ _ _
  refine callsIn_of_wp_marks Tryd.func46 rfl trivial ?_ rfl
  simp only [Tryd.ntmps46, List.size_toArray, List.length_cons, List.length_nil, Nat.reduceAdd, Nat.reduceSub, Array.replicate_succ, Array.replicate_zero, List.push_toArray, List.append_toArray, List.nil_append, List.cons_append]
  gi_wp2_with (gi_at_call 50; go_loud (refine (callsIn_wide.2 (all_any _ Ki 3)).mono ?_; rintro e w4 ⟨rfl, hb4, hs4, c4⟩))
  -- what lies now
  obtain ⟨w3, hw3⟩ : ∃ w3, ((w.alloc (.cells #[.pointer (some ⟨B, 0, none⟩)] 34)).alloc (.cells #[.slice (some ⟨g, o, none⟩) n cap] 25)).alloc (.cells #[.int .i64 0] 3) = w3 := ⟨_, rfl⟩
  have hw3' := hw3
  have b03 : Below w.heap.size w w3 := by rw [← hw3]; exact (((Below.refl _ _).alloc (Nat.le_refl _) _).alloc (by simp) _).alloc (by simp; omega) _
  have s3 : w3.heap.size = w.heap.size + 3 := by rw [← hw3]; simp
  have o3 : w3.heap[w.heap.size]? = some (.cells #[.pointer (some ⟨B, 0, none⟩)] 34) ∧ w3.heap[w.heap.size + 1]? = some (.cells #[.slice (some ⟨g, o, none⟩) n cap] 25) ∧ w3.heap[w.heap.size + 2]? = some (.cells #[.int .i64 0] 3) := by
    rw [← hw3]
    have k1 := World.alloc_heap_new w (.cells #[.pointer (some ⟨B, 0, none⟩)] 34)
    have z1 : (w.alloc (.cells #[.pointer (some ⟨B, 0, none⟩)] 34)).heap.size = w.heap.size + 1 := by simp
    generalize w.alloc (.cells #[.pointer (some ⟨B, 0, none⟩)] 34) = v1 at *
    have k2 := World.alloc_heap_new v1 (.cells #[.slice (some ⟨g, o, none⟩) n cap] 25)
    have b2 : Below v1.heap.size v1 (v1.alloc (.cells #[.slice (some ⟨g, o, none⟩) n cap] 25)) := (Below.refl _ _).alloc (Nat.le_refl _) _
    have z2 : (v1.alloc (.cells #[.slice (some ⟨g, o, none⟩) n cap] 25)).heap.size = w.heap.size + 2 := by simp [z1]
    rw [z1] at k2
    generalize v1.alloc (.cells #[.slice (some ⟨g, o, none⟩) n cap] 25) = v2 at *
    have k3 := World.alloc_heap_new v2 (.cells #[.int .i64 0] 3)
    have b3 : Below v2.heap.size v2 (v2.alloc (.cells #[.int .i64 0] 3)) := (Below.refl _ _).alloc (Nat.le_refl _) _
    rw [z2] at k3
    exact ⟨(b3.block _ (by omega)).trans ((b2.block _ (by omega)).trans k1), (b3.block _ (by omega)).trans k2, k3⟩
  first | rw [hw3] at hb4 hs4 c4 | skip
  clear hw3'
  rw [s3] at c4 hs4
  have b04 : Below w.heap.size w w4 := bl_step b03 hb4
  have hs4' : w4.heap.size = w.heap.size + 4 := by rw [hs4]
  have huq0 : ¬ uq t 0 := by have := HH.out.t0; unfold uq; omega
  obtain ⟨T0, hT0⟩ : ∃ T0, T0 = upd (upd T (w.heap.size + 1) 6) (w.heap.size + 2) 6 := ⟨_, rfl⟩
  have T0o : ∀ b, b ≠ w.heap.size + 1 → b ≠ w.heap.size + 2 → T0 b = T b := fun b h1 h2 => by rw [hT0, upd_other _ _ h2, upd_other _ _ h1]
  have T0b : T0 (w.heap.size + 1) = 6 := by rw [hT0, upd_other _ _ (by omega), upd_same]
  have T0p : T0 (w.heap.size + 2) = 6 := by rw [hT0, upd_same]
  have hT0hi : ∀ b, w4.heap.size ≤ b → T0 b = 0 := fun b hb => by rw [T0o b (by omega) (by omega)]; exact HH.out.hi b (by omega)
  have g04 : Goes (fun _ => False) T w T0 w4 := ⟨b04.os, b04.tape, b04.output, b04.size, fun b hb _ => b04.block b hb, fun b hb _ => T0o b (by omega) (by omega), fun b hb h0 => (T0o b (by omega) (by omega)).trans h0⟩
  have q0 := (hb4.block w.heap.size (by omega)).trans o3.1
  have q1 := (hb4.block (w.heap.size + 1) (by omega)).trans o3.2.1
  have q2 := (hb4.block (w.heap.size + 2) (by omega)).trans o3.2.2
  have HR0 : Hid (Rq w4 T0 t B w.heap.size (w.heap.size + 1) (w.heap.size + 2) g R F css 0 T0 w4) := by
    apply Qb.hid
    refine ⟨⟨[], ?_, trivial⟩, q0, ⟨o, cap, ?_, HH.out.ib.below b04, ?_⟩, q2, Goes.refl _ _ _, ?_, T0b, T0p, hT0hi, fun b ob hbo ho => ?_, fun b => ?_⟩
    · exact HH.out.tb.goes g04 (fun z => z) (fun z => z) (fun z => z)
    · rw [q1, HH.out.hn]; rfl
    · have := HH.out.hcap; have := HH.out.hn; rw [List.drop_zero]; omega
    · rw [T0o _ (by omega) (by omega)]; exact HH.out.hi _ (Nat.le_refl _)
    · by_cases h1 : b = w.heap.size + 1
      · subst h1; rw [q1] at hbo; cases hbo; cases ho
      by_cases h2 : b = w.heap.size + 2
      · subst h2; rw [q2] at hbo; cases hbo; cases ho
      rw [T0o b h1 h2]
      exact HH.out.nc.below HH.out.hi b04 b ob hbo ho
    · by_cases h1 : b = w.heap.size + 1
      · rw [h1, T0b]; omega
      by_cases h2 : b = w.heap.size + 2
      · rw [h2, T0p]; omega
      rw [T0o b h1 h2]
      exact HH.out.t5 b
  have hlb : (laidOf R css).length < 9223372036854775808 := by have := HH.out.hn; have := HH.out.nl; omega
  have hixc := ixs_chain R css 0 ⟨#[]⟩ HH.out.ne HH.out.ch (by omega)
  have hixo : ∀ e ∈ ixs R 0 css, Ok e ∧ 0 ≤ e.2.1 := fun e he => ⟨chain_ok hixc e he, ixs_nn R e css 0 he⟩
  have HSQ : Hid (SeqE (uq t) Fence.wide 19 16 Tryd.prog 71 #[.pointer (some ⟨w.heap.size + 3, 0, none⟩)] encE (ixs R 0 css) w4 T0) := by
    have h := all_seq (uq t) huq0 19 (by decide) T0 (w.heap.size + 3) Ki 3 (pushes ri st0 (ixs R 0 css)).b (pushes ri st0 (ixs R 0 css)).p w4 (BlkAt.mono (HH.out.ix.goes (g04.mono (fun x hx => hx.elim))) (fun x hx => by have := HH.out.t0; unfold uq at hx; show x ≠ 0; omega)) hT0hi c4
    rw [wkp_is hixo] at h
    exact Qb.hid h
  have HG4 := Qb.hid g04
  have HT4 : Hid (Tab w4 ∧ T0 0 = 0) := by
    have := HH.out.tab.lt
    exact Qb.hid ⟨HH.out.tab.below b04 HH.out.tab.lt, by rw [T0o 0 (by omega) (by omega)]; exact HH.out.t00⟩
  have HGT : Hid (T0 g = 0 ∧ g < w4.heap.size) := by
    have := HH.out.gl
    exact Qb.hid ⟨by rw [T0o g (by omega) (by omega)]; exact HH.out.gt, by omega⟩
  have HTO := Qb.hid (And.intro T0o (And.intro T0b T0p))
  have HHI := Qb.hid hT0hi
  clear hb4 hs4 c4 b03 o3 g04 q0 q1 q2 hw3 T0o T0b T0p hT0 hixc hixo hlb
  first | rw [s3] | skip
  refine range_eB rfl (by decide) (gf := 71) (lb := #[.pointer (some ⟨w.heap.size + 3, 0, none⟩)]) rfl trivial (enters_of Tryd.func71 (by kernel_rfl) rfl)
    (uq t) huq0 T0 HHI.out HSQ.out (fun _ => rfl)
    (fun es' T' W => Rq w4 T0 t B w.heap.size (w.heap.size + 1) (w.heap.size + 2) g R F css es'.length T' W) (fun c es' T' W => False)
    (Rq.lasts (Nat.le_refl _)) (fun c es' T' A C row h hg hr => h.elim) HR0.out
    7 (fun e => #[.string e.1, .int .u64 e.2.1, .bool e.2.2.1, .string e.2.2.2]) 43 ?assign ?body ?done ?stop
  case assign =>
    rintro l_ ⟨ek, es_, ed, ev⟩ es' T' Wc Kc hi hK
    simp only [encE]
    gi_wp2
    exact ⟨rfl, by simp only [encE, List.zip_toArray, List.zip_cons_cons, List.zip_nil_right, List.foldl_toArray, List.foldl_cons, List.foldl_nil, List.setIfInBounds_toArray, List.set_cons_succ, List.set_cons_zero]⟩
  case stop => intro D c es' T' W hD hp hx; exact hx.elim
  case done =>
    intro D T1 W1 hD hrq hDd
    have hrq : Rq w4 T0 t B w.heap.size (w.heap.size + 1) (w.heap.size + 2) g R F css css.length T1 W1 := by
      have h := hrq
      rw [ixs_len] at h
      exact h
    obtain ⟨o1, c1, hob1, hoi1, hoc1⟩ := hrq.bb
    have hz0 : (laidOf R (css.drop css.length)).length = 0 := by rw [List.drop_length]; rfl
    rw [hz0] at hob1
    have xb : W1.cell? ⟨w.heap.size + 1, 0, none⟩ = some (.slice (some ⟨g, o1, none⟩) 0 c1) := cell_of hob1 0
    have HRQ := Qb.hid hrq
    have HD : Hid (w.heap.size ≤ D ∧ W1.heap[D]? = some (.deferred (some []))) := Qb.hid ⟨by omega, hDd⟩
    clear hrq hob1 hoi1 hoc1 hz0 hD hDd HSQ HR0
    dsimp only
    gi_wp2_with (gi_at_call 48; go_loud (refine (callsIn_wide.2 (demand_ok _)).mono ?_; rintro e W3 ⟨rfl, hw⟩; have hw2 := hw.symm; clear hw; subst hw2))
    refine leaves_marks (B0 := w.heap.size) [D] _ (fun E hE => ?_) (by simp) (fun w' hb hk => ?_)
    · rw [List.mem_singleton.1 hE]; exact HD.out
    · refine ⟨.tuple #[], ?_, rq_fin HH.out HG4.out HRQ.out HD.out.1 HD.out.2 hb hk⟩
      simp [results, Tryd.results46, go_sem]
  case body =>
    rintro l_ ⟨ek, es_, ed, ev⟩ es' T' a' Wc W' Wb hl1 hl2 ⟨ob, ho, hoc⟩ _ hrq hz hN9 ⟨rfl, rfl⟩ hg _
    simp only [encE] at *
    have hj : (ixs R 0 css)[es'.length]? = some (ek, es_, ed, ev) := by
      obtain ⟨m9, hm9⟩ := hN9
      rw [← hm9, List.append_assoc, List.getElem?_append_right (Nat.le_refl _), Nat.sub_self]
      rfl
    obtain ⟨cs, hcs⟩ : ∃ cs, css[es'.length]? = some cs := by
      have h1 := (List.getElem?_eq_some_iff.1 hj).1
      rw [ixs_len] at h1
      exact ⟨_, List.getElem?_eq_getElem h1⟩
    have hix := ixs_at R css 0 es'.length cs hcs
    rw [hj, Nat.zero_add] at hix
    simp only [Option.some.injEq, Prod.mk.injEq] at hix
    obtain ⟨hek, rfl, rfl, hev⟩ := hix
    obtain ⟨m9, hfl⟩ := flat_pre hcs
    have hlen9 : (es' ++ [(ek, (0 : Int), false, ev)]).length = es'.length + 1 := by simp
    generalize hjj : es'.length = j at *
    have hcm : cs ∈ css := List.mem_of_getElem? hcs
    have hld := laid_drop (R := R) hcs
    have hlt' := laid_take (R := R) hcs
    obtain ⟨ps, htb, hps⟩ := hrq.tb
    obtain ⟨o1, c1, hob1, hoi1, hoc1⟩ := hrq.bb
    have hT0 := HH.out.t0
    have hch9 := HH.out.ch
    rw [hfl] at hch9
    have hcc : chain ⟨#[]⟩ ((css.take j).flatten ++ cs) := by
      rw [← List.append_assoc] at hch9
      exact ((chain_app _ _ _).1 hch9).1
    have hnn9 : ∀ e ∈ cs, 0 ≤ e.2.1 := fun e he => HH.out.nn e (List.mem_flatten.2 ⟨cs, hcm, he⟩)
    have hc0 : chain ⟨#[]⟩ cs := chain_nil ((chain_app _ _ _).1 hcc).2
    have hok9 : ∀ e ∈ cs, Ok e ∧ 0 ≤ e.2.1 := fun e he => ⟨chain_ok hc0 e he, hnn9 e he⟩
    have hfl2 : (css.take j).flatten.length + cs.length ≤ 100000 := by
      have h1 := HH.out.len
      rw [hfl, List.length_append, List.length_append] at h1
      omega
    have hpl1 := pushes_len R cs hok9
    have hpl2 := pushes_plen R cs st0
    have z1 : st0.p.length = 0 := rfl
    obtain ⟨r, hr1, hop, hrr⟩ := opn_mk R cs HH.out.R1 hc0 hnn9 (by omega) (by omega) (by omega)
    have hsp := laid_split R css j
    have hLn := HH.out.hn
    have hnl := HH.out.nl
    have hldl := congrArg List.length hld
    have hltl := congrArg List.length hlt'
    rw [List.length_append] at hldl hltl
    have hen : ev = ixV (laidOf R (css.take j)).length (blk (pushes R st0 cs)).length := hev
    have HNX := Qb.hid (fun (W6 W5 W2 : World) (T2 : Nat → Nat) (hb2 : Below Wb.heap.size Wb W2) hT2 (hb6 : Below W5.heap.size W5 W6) => rq_next (N := w4.heap.size) (W6 := W6) (W5 := W5) (W2 := W2) (T2 := T2) hT0 HGT.out hrq hps hcs hob1 hoi1 hoc1 hb2 hr1 hrr hT2 hb6)
    rw [hltl] at HNX
    have hRO0 : Wb.heap[Wc.heap.size]? = some (.cells #[.string ek, .int .u64 0, .bool false, .string ev] 43) := (hg.block _ (by simp) (fun e => by cases e; omega)).trans (World.alloc_heap_new _ _)
    obtain ⟨lB, hlB⟩ : ∃ lB, blk (pushes R st0 cs) = lB := ⟨_, rfl⟩
    rw [hlB] at hldl hltl hld hen hop HNX
    have hbi : IsB Wb (some ⟨g, o1, none⟩) lB := by
      have h1 := hoi1.take lB.length
      rw [hld, List.take_left] at h1
      exact h1
    obtain ⟨nb, hnb⟩ : ∃ nb, lB.length = nb := ⟨_, rfl⟩
    obtain ⟨p, hp⟩ : ∃ p, (laidOf R (css.take j)).length = p := ⟨_, rfl⟩
    obtain ⟨L, hL⟩ : ∃ L, (laidOf R (css.drop j)).length = L := ⟨_, rfl⟩
    obtain ⟨L2, hL2⟩ : ∃ L2, (laidOf R (css.drop (j + 1))).length = L2 := ⟨_, rfl⟩
    rw [hL] at hob1 hoc1 hsp hldl
    rw [hp] at hsp hen HNX
    rw [hnb] at hen hldl HNX
    rw [hL2] at hldl HNX
    have hL2e : L2 = L - nb := by omega
    rw [hL2e, Int.natCast_add] at HNX
    have hw64 : wrap64 ((p : Int) + (nb : Int)) = (p : Int) + (nb : Int) := by unfold wrap64; omega
    rw [← hw64] at HNX
    clear hw64
    have HRO : Hid (Ro w.heap.size (w.heap.size + 1) (w.heap.size + 1 + 1) Wc.heap.size B g o1 L c1 p ek ev Wb) := Qb.hid ⟨hrq.bx, hob1, by rw [← hp]; exact hrq.bp, hRO0⟩
    have HTW : Hid (Tab Wb) := Qb.hid (HT4.out.1.keep (hrq.go.block 0 HT4.out.1.lt (by rw [HT4.out.2]; exact huq0)) hrq.go.size)
    obtain ⟨x0, xb, xp, d0, d1, d2, d3, fb, fp⟩ := HRO.out.all
    have lN : Wc.heap.size < Wb.heap.size := (Array.getElem?_eq_some_iff.1 hRO0).1
    have lb1 : w.heap.size + 1 < Wb.heap.size := (Array.getElem?_eq_some_iff.1 hob1).1
    obtain ⟨Wv, hWv⟩ : ∃ Wv, Lib.bytesWorld Wb.drew 5 ev = Wv := ⟨_, rfl⟩
    have hcv : (convert 9 25 (.string ev)).run Tryd.prog Wb.drew = .ok (.slice (some ⟨Wb.heap.size, 0, none⟩) ev.size (grownCap Wb.drew ev.size 0 5)) Wv := by
      rw [← hWv]
      exact Lib.run_convert_string_bytes Wb.drew _ _ _ ev Tryd.underlying9 Tryd.underlying25 Tryd.underlying5
    have hbv : Below Wb.heap.size Wb Wv := by rw [← hWv]; exact ((Below.refl _ _).drew).trans (Tsr.conv_below Wb.drew 5 ev)
    have hiv : IsB Wv (some ⟨Wb.heap.size, 0, none⟩) (num p ++ num nb) := by
      have h1 := Tsr.conv_isB Wb.drew 5 ev
      rw [hWv] at h1
      have h2 : strB ev = num p ++ num nb := by rw [hen, ixV, strB_ofB (byte_app (num_byte p) (num_byte nb))]
      rw [h2] at h1
      exact h1
    have hevs : ev.size = (num p ++ num nb).length := by
      have h2 : strB ev = num p ++ num nb := by rw [hen, ixV, strB_ofB (byte_app (num_byte p) (num_byte nb))]
      rw [← h2, strB_length]
    have hn10 := num_le10 (show p < 18446744073709551616 by omega)
    have hn11 := num_le10 (show nb < 18446744073709551616 by omega)
    have hgc := grownCap_ok Wb.drew ev.size (by rw [hevs, List.length_append]; omega)
    obtain ⟨vs, hvs⟩ : ∃ vs, ev.size = vs := ⟨_, rfl⟩
    obtain ⟨vc, hvc⟩ : ∃ vc, grownCap Wb.drew ev.size 0 5 = vc := ⟨_, rfl⟩
    rw [hvc] at hcv hgc
    rw [hvs] at hcv hgc hevs
    have HNU : Hid (Calls Tryd.prog 67 #[.slice (some ⟨Wb.heap.size, 0, none⟩) vs vc] Wv fun e w' => e = .returned (.agg #[.int .u64 (p : Int), .int .u64 (nb : Int)]) ∧ Below Wv.heap.size Wv w') := Qb.hid (numbers_ok (some ⟨Wb.heap.size, 0, none⟩) vc vs (num p ++ num nb) p (num p).length nb (num nb).length Wv hiv (by omega) (by omega) hevs (rd_is p (num nb) (by omega)) (by rw [List.drop_left]; have := rd_is nb [] (by omega); rw [List.append_nil] at this; exact this) (by rw [List.length_append]; omega) (by rw [List.length_append]; omega))
    have xbv : Wv.cell? ⟨w.heap.size + 1, 0, none⟩ = some (.slice (some ⟨g, o1, none⟩) L c1) := (hbv.cell (p := ⟨w.heap.size + 1, 0, none⟩) lb1).trans xb
    have HBV := Qb.hid hbv
    have q9 : nb ≤ L := by omega
    have q10 : L ≤ c1 := hoc1.1
    have q11 : c1 ≤ 9223372036854775807 := hoc1.2
    have HTG : Hid (T' w.heap.size = 0 ∧ T' (w.heap.size + 1) = 6 ∧ T' (w.heap.size + 1 + 1) = 6 ∧ T' Wc.heap.size = 0) := Qb.hid ⟨hrq.tX, hrq.tb6, hrq.tp6, hz _ (Nat.le_refl _)⟩
    have HRK : Hid (∀ W, Below Wb.heap.size Wb W → RkIn t T' W B ps F (css.take j).flatten cs r (some ⟨g, o1, none⟩) nb nb lB) := by
      apply Qb.hid
      intro W hW
      have hT : Tab Wb := HTW.out
      have h00 : T' 0 = 0 := (hrq.go.tag 0 HT4.out.1.lt (by rw [HT4.out.2]; exact huq0)).trans HT4.out.2
      have hpl9 := PsAt.len _ _ hps
      have hcl := HH.out.cl
      exact ⟨htb.below hW, fun b hb => hrq.hi b (Nat.le_trans hW.size hb), hrq.nc.below hrq.hi hW, hT0, hrq.t5, hT.below hW hT.lt, h00, hbi.below hW, hnb.symm, ⟨Nat.le_refl _, by omega⟩, by omega, by simp, hop, hcc, HH.out.ne cs hcm, hnn9, fun e he => HH.out.may e (List.mem_flatten.2 ⟨cs, hcm, he⟩), HH.out.hF, by omega, by rw [hpl9, List.length_take]; omega⟩
    have HIE : Hid (∀ W, Calls Tryd.prog 59 #[.string ek, .int .i64 (p : Int), .int .i64 (nb : Int)] W fun e w' => e = .returned (.agg #[.string ek, .int .u64 0, .bool false, .string ev]) ∧ Below W.heap.size W w') := by
      apply Qb.hid
      intro W
      rw [hen]
      exact indexEntry_any ek p nb W (by omega) (by omega)
    have HHE : Hid ((mtF ((css.take j).flatten ++ cs)).hi = ek) := by
      apply Qb.hid
      rw [mtF_hi, lastE_app, hek]
      exact lastE_any (HH.out.ne cs hcm) _ _
    have HRQ := Qb.hid hrq
    have HTB := Qb.hid htb
    have HBI := Qb.hid hbi
    have HOP := Qb.hid hop
    have HQQ := Qb.hid (And.intro hcc (And.intro hnn9 (And.intro hfl2 (And.intro hcm (And.intro hnb (And.intro hen (And.intro hek hlen9)))))))
    have HLS := Qb.hid (And.intro hldl (And.intro hsp (And.intro hLn hnl)))
    clear hrq hps htb hob1 hoi1 hoc1 hbi hop hch9 hcc hnn9 hc0 hok9 hfl2 hpl1 hpl2 z1 hsp hLn hnl hldl hltl hld hlt' hg ho hoc hz hN9 hj hfl hcs hbv hiv hevs hn10 hn11 hgc hWv hRO0 hek hev hen HSQ HR0 hvs hvc HHI
    simp only [List.zip_toArray, List.zip_cons_cons, List.zip_nil_right, List.foldl_toArray, List.foldl_cons, List.foldl_nil, List.setIfInBounds_toArray, List.set_cons_succ, List.set_cons_zero]
    have hix1 : ∀ W, (Instr.index 118 (.agg #[.int .u64 (p : Int), .int .u64 (nb : Int)]) (.int .i64 1)).run Tryd.prog W = .ok (.int .u64 (nb : Int)) W := fun W => run_ix2 _ _ W
    gi_wp2_with (fail)
    gi_region_with (first
      | (gi_at_call 67; go_loud (refine (CallsIn.inRound l_ (callsIn_wide.2 HNU.out)).mono ?_; rintro e W2 ⟨rfl, hb2'⟩; have HB2 : Hid (Below Wb.heap.size Wb W2) := Qb.hid (bl_step HBV.out hb2'); have xb2 := (HRO.out.below HB2.out).all.2.1; clear hb2'))
      | (gi_at_call 68; go_loud (refine (CallsIn.inRound l_ (callsIn_wide.2 (cut_v g o1 L c1 nb _ q10 q11 q9))).mono ?_; rintro e W3 ⟨rfl, n3, rfl⟩)))
    all_goals (
      have HB3 : Hid (Below Wb.heap.size Wb (W2.drewN n3)) := Qb.hid (below_drewN HB2.out n3)
      clear hcv xbv xb2 x0 xb xp d0 d1 d2 d3 fb fp lN lb1 HNU HBV hix1
      generalize W2.drewN n3 = W3 at *
      have HRO3 := Qb.hid (HRO.out.below HB3.out)
      have x0 := HRO3.out.all.1
      gi_wp2_with (gi_at_call 69; go_loud (refine (CallsIn.inRound l_ (callsIn_wide.2 (readBlock_any _ _ _ _ _ _ _ _ _ _ _ _ _ (HRK.out _ HB3.out)))).mono ?_; rintro e W5 ⟨rfl, T2, K, hk1, hk2, hk3, hk4, hk5, hk6⟩; have HK := Qb.hid (And.intro hk1 (And.intro hk2 (And.intro hk3 (And.intro hk4 (And.intro hk5 hk6))))); clear hk1 hk2 hk3 hk4 hk5 hk6))
      have HRO5 : Hid (Ro w.heap.size (w.heap.size + 1) (w.heap.size + 1 + 1) Wc.heap.size B g o1 L c1 p ek ev W5) := Qb.hid (HRO3.out.goes HK.out.2.2.1 (by rw [HTG.out.1]; omega) (by rw [HTG.out.2.1]; omega) (by rw [HTG.out.2.2.1]; omega) (by rw [HTG.out.2.2.2]; omega))
      obtain ⟨y0, yb, yp, e0, e1, e2, e3, fb, fp⟩ := HRO5.out.all
      have yB : W5.cell? ⟨B, 7, none⟩ = some (.string ek) := by
        obtain ⟨pv, fa, fc, hob, _⟩ := HK.out.1.ob
        have h7 := cell_of hob 7
        rw [← HHE.out]
        exact h7
      have hne9 := Rnd.Und.non W5
      have U0 := Rnd.Und.cell y0
      have Up := Rnd.Und.cell yp
      have UB := Rnd.Und.cell yB
      have V0 := Rnd.Und.cell e0
      have V1 := Rnd.Und.cell e1
      have V2 := Rnd.Und.cell e2
      have V3 := Rnd.Und.cell e3
      clear x0
      refine Rnd.wpIn_region_und l_ (by kernel_rfl) (by kernel_rfl) (by kernel_rfl) ?_
      repeat (gi_big_quiet_step ((first
        | (gi_at_call 59; exact Rnd.Und.call (callsIn_wide.2 (HIE.out _)))
        | (gi_at_call 48; exact Rnd.Und.call (callsIn_wide.2 ((demand_ok _).mono fun e w' h => ⟨h.1, by rw [h.2]; exact Below.refl _ _⟩))))))
      refine wpQuietIn_nil ?_
      intro W6 hb6
      have HB6 := Qb.hid hb6
      clear hb6 U0 Up UB V0 V1 V2 V3 hne9 y0 yb yp e0 e1 e2 e3 fb fp yB
      obtain ⟨y0, yb, yp, e0, e1, e2, e3, fb, fp⟩ := (HRO5.out.below HB6.out).all
      gi_wp2
      obtain ⟨T9, k1, k2, k3, k4⟩ := HNX.out W6 W5 W3 T2 HB3.out ⟨K, HK.out⟩ HB6.out
      exact ⟨T9, by dsimp only; rw [hlen9]; exact k1, k2, k3, k4⟩)
theorem readBlocks_any (t : Nat) (T : Nat → Nat) (w : World) (B : Nat) (F : List Nat) (R : Nat) (css : List (List En)) (g o n cap Ki ri : Nat) (H : RqIn t T w B F R css g o n cap Ki ri) :
    Calls Tryd.prog 46 #[.pointer (some ⟨B, 0, none⟩), .slice (some ⟨g, o, none⟩) n cap, .pointer (some ⟨Ki, 3, none⟩)] w fun e w' => RqIs t T w B F R css e w' := callsIn_wide.1 (readBlocks_in t T w B F R css g o n cap Ki ri H)

end Tbl
end Go.Proofs.YtnhhalabmmcemaaDoor
