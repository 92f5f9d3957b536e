import Derived.Test.YtkebbmdghnplmaaDoorQe1
namespace Go.Proofs.YtkebbmdghnplmaaDoor
namespace Qe
open Go.RowKit Go.Shelf Laws Irw
set_option linter.unusedVariables false
set_option maxRecDepth 100000
set_option linter.unusedSimpArgs false
variable {α : Type}

/-- A loop over such an iterator: the body is told of its own record (a loop within it wants that). -/
theorem range_eH {F : Fence} {n : Nat} {P : Program} {g : Operand} {ps : Array Tmp} {assign body : Code} {Q : Exit → Act → World → Prop} {a : Act} {w : World}
    (hro : F.round = none) (h1 : 1 ≤ n) {gf : Nat} {lb : Array Value} (hg : a.eval g = .func (.func gf) #[] lb) (hFg : F.fn gf) (eg : ∀ args w, (callFunc gf args).run P w = .ok (.enter gf args) w)
    (u : Nat → Prop) (hu0 : ¬ u 0) (T0 : Nat → Nat) (hz0 : ∀ b, w.heap.size ≤ b → T0 b = 0)
    {enc : α → Array Value} {post : List α} {m : Nat} (hseq : SeqE u F (n - 1) m P gf lb enc post w T0) (hps : ∀ x, (enc x).size = ps.size)
    (I : List α → (Nat → Nat) → World → Prop) (Ix : Code → List α → (Nat → Nat) → World → Prop) (hI : Lasts w.heap.size I) (hIx : ∀ c, Lasts w.heap.size (Ix c)) (h0 : I [] T0 w)
    (As : α → Act → World → World → Prop) (hAs : ∀ e a' W W', As e a' W W' → Below W.heap.size W W')
    (hassign : ∀ (l : Nat) (e : α) (es : List α) T (W : World) (K : Act → World → Prop), I es T W → (∀ a' W', As e a' W W' → K a' W') →
      assign.wpIn (F.inRound l) m P (Exit.then K (fun _ _ _ => False)) { tmps := (ps.zip (enc e)).foldl (fun t (p, v) => t.setIfInBounds p v) a.tmps, defers := [] } W)
    (hbody : ∀ (l : Nat) (e : α) (es : List α) T (a' : Act) (W W' W'' : World), w.heap.size ≤ l → l < W.heap.size → (∃ o : Obj, W'.heap[l]? = some o ∧ o.isCells = false) → I es T W → I es T W'' → (∀ b, W.heap.size ≤ b → T b = 0) → es ++ [e] <+: post → As e a' W W' → W'.grownBy W'' (some l) → (∃ r, W''.heap[l]? = some (.loop r)) → body.wpIn (F.inRound l) m P (eachPostE u w.heap.size I Ix (es ++ [e]) T W'') a' W'')
    (hdone : ∀ (D : Nat) T (W : World), w.heap.size ≤ D → I post T W → W.heap[D]? = some (.deferred (some [])) → Q .normal { a with defers := { target := .collected D, args := #[] } :: a.defers } W)
    (hstop : ∀ (D : Nat) (c : Code) (es : List α) T (W : World), w.heap.size ≤ D → es <+: post → Ix c es T W → W.heap[D]? = some (.deferred (some [])) → c.wpIn F n P Q { a with defers := { target := .collected D, args := #[] } :: a.defers } W) :
    (Code.rangeFunc g ps assign body).wpIn F n P Q a w := by
  refine wpIn_rangeFunc ?_
  intro fn hfn
  rw [hro]
  obtain ⟨rc, hrc⟩ : ∃ rc : LoopState → Option Code → Loop, rc = fun st pe => { state := st, pending := pe, fn, tmps := a.tmps, params := ps, assign, body, defers := w.heap.size } := ⟨_, rfl⟩
  obtain ⟨W1, hW1⟩ : ∃ W1, (w.alloc (.deferred (some []))).alloc (.loop (rc .ready none)) = W1 := ⟨_, rfl⟩
  have hs1 : W1.heap.size = w.heap.size + 2 := by rw [← hW1]; simp
  have hb1 : Below w.heap.size w W1 := by rw [← hW1]; exact ((Below.refl _ w).alloc (Nat.le_refl _) _).alloc (by simp) _
  have hL1 : W1.heap[w.heap.size + 1]? = some (.loop (rc .ready none)) := by
    rw [← hW1]; have := World.alloc_heap_new (w.alloc (.deferred (some []))) (.loop (rc .ready none)); rwa [World.size_alloc] at this
  have hD1 : W1.heap[w.heap.size]? = some (.deferred (some [])) := by
    rw [← hW1]; exact (Below.heap_alloc _ _ _ (by simp)).trans (World.alloc_heap_new w _)
  refine ⟨w.heap.size + 1, [{ target := .collected w.heap.size, args := #[] }], W1, { target := .fn (.func gf) lb, args := #[.func (.yield (w.heap.size + 1)) #[] #[]] }, W1, gf,
    #[.func (.yield (w.heap.size + 1)) #[] #[]] ++ lb, W1, ?_, ?_, ?_, ?_, fun _ => h1, ?_⟩
  · rw [← hW1, hrc]; exact run_enterLoop_outer _ _ _ _ _
  · simp only [resolve, hg]
    simp [go_sem]
  · intro f' hf'; simp [Target.leads] at hf'; subst hf'; exact hFg
  · simp [invoke, go_sem, eg]
  · refine (hseq (w.heap.size + 1) W1
      (fun es T W => I es T W ∧ W.heap[w.heap.size + 1]? = some (.loop (rc .ready none)) ∧ W.heap[w.heap.size]? = some (.deferred (some [])) ∧ T (w.heap.size + 1) = 0)
      (fun es T W => ∃ c, Ix c es T W ∧ W.heap[w.heap.size + 1]? = some (.loop (rc .done (some c))) ∧ W.heap[w.heap.size]? = some (.deferred (some []))) hb1 ?_ ?_ ?_ ?_).mono ?_
    · rintro es T A C row ⟨h2, h3, h4, h5⟩ hgr hr
      have hk : ∀ b, b < W1.heap.size → ∀ o, A.heap[b]? = some o → C.heap[b]? = some o := fun b hb o ho => (hgr.block b (Array.getElem?_eq_some_iff.1 ho).1 (fun e => by have := (hr b e.symm).1; omega)).trans ho
      exact ⟨hI es T A C row h2 hgr (fun r e => ⟨by have := (hr r e).1; omega, (hr r e).2⟩), hk _ (by omega) _ h3, hk _ (by omega) _ h4, h5⟩
    · rintro es T A C row ⟨c, h2, h3, h4⟩ hgr hr
      have hk : ∀ b, b < W1.heap.size → ∀ o, A.heap[b]? = some o → C.heap[b]? = some o := fun b hb o ho => (hgr.block b (Array.getElem?_eq_some_iff.1 ho).1 (fun e => by have := (hr b e.symm).1; omega)).trans ho
      exact ⟨c, hIx _ es T A C row h2 hgr (fun r e => ⟨by have := (hr r e).1; omega, (hr r e).2⟩), hk _ (by omega) _ h3, hk _ (by omega) _ h4⟩
    · exact ⟨hI [] T0 w W1 none h0 ⟨hb1.os, hb1.tape, hb1.output, hb1.size, fun b hb _ => hb1.block b hb⟩ (fun r e => by cases e), hL1, hD1, hz0 _ (by omega)⟩
    · rintro es e T W ⟨hi, hl, hd, hTl⟩ hzW hN
      have hlt : w.heap.size + 1 < W.heap.size := (Array.getElem?_eq_some_iff.1 hl).1
      have hy := run_yield (P := P) (args := enc e) hl (by rw [hrc]; exact hps e)
      rw [hrc] at hy
      refine ⟨fn, _, assign, body, hy, roundIn_of_wpIn hfn (hassign _ e es T W _ hi fun a' W' has => ?_)⟩
      have hb2 := hAs e a' W W' has
      have hl' : W'.heap[w.heap.size + 1]? = some (.loop (rc .ready none)) := (hb2.block _ hlt).trans hl
      have hd' : W'.heap[w.heap.size]? = some (.deferred (some [])) := (hb2.block _ (by omega)).trans hd
      refine ⟨_, run_beginRound hl' (by rw [hrc]), ?_⟩
      have hlt' : w.heap.size + 1 < W'.heap.size := (Array.getElem?_eq_some_iff.1 hl').1
      have hi' : I es T W' := hI es T W W' none hi ⟨hb2.os, hb2.tape, hb2.output, hb2.size, fun b hb _ => hb2.block b hb⟩ (fun r e => by cases e)
      have hi'' : I es T (W'.putObj (w.heap.size + 1) (.loop { rc .ready none with state := .busy })) := hI es T W' _ (some (w.heap.size + 1)) hi' (grownBy_putObj' _ _ _) (fun r e => by cases e; exact ⟨by omega, _, hl', rfl⟩)
      refine wpIn_mono (hbody (w.heap.size + 1) e es T a' W W' _ (by omega) hlt ⟨_, hl', rfl⟩ hi hi'' hzW hN has (grownBy_putObj' _ _ _) ⟨_, World.putObj_heap_same hlt'⟩) ?_
      rintro ex a3 W3 hp
      have hlb : (W'.putObj (w.heap.size + 1) (.loop { rc .ready none with state := .busy })).heap[w.heap.size + 1]? = some (.loop { rc .ready none with state := .busy }) := World.putObj_heap_same hlt'
      have hdb : (W'.putObj (w.heap.size + 1) (.loop { rc .ready none with state := .busy })).heap[w.heap.size]? = some (.deferred (some [])) := (World.putObj_heap_other (by omega)).trans hd'
      have hoth : ∀ b, b ≠ w.heap.size + 1 → (W'.putObj (w.heap.size + 1) (.loop { rc .ready none with state := .busy })).heap[b]? = W'.heap[b]? := fun b hb => World.putObj_heap_other hb
      have hsz : (W'.putObj (w.heap.size + 1) (.loop { rc .ready none with state := .busy })).heap.size = W'.heap.size := by simp
      have hos : (W'.putObj (w.heap.size + 1) (.loop { rc .ready none with state := .busy })).os = W'.os ∧ (W'.putObj (w.heap.size + 1) (.loop { rc .ready none with state := .busy })).tape = W'.tape ∧ (W'.putObj (w.heap.size + 1) (.loop { rc .ready none with state := .busy })).output = W'.output := ⟨rfl, rfl, rfl⟩
      generalize W'.putObj (w.heap.size + 1) (.loop { rc .ready none with state := .busy }) = Wb at *
      cases ex with
      | normal =>
        obtain ⟨T3, p1, p2, p3, p4⟩ := hp
        have hl3 : W3.heap[w.heap.size + 1]? = some (.loop { rc .ready none with state := .busy }) := p4.same _ _ (by omega) hlb rfl
        have hd3 : W3.heap[w.heap.size]? = some (.deferred (some [])) := p4.same _ _ (Nat.le_refl _) hdb rfl
        have hr3 := run_endRound (P := P) none hl3
        have hlt3 : w.heap.size + 1 < W3.heap.size := (Array.getElem?_eq_some_iff.1 hl3).1
        have hTl3 : T3 (w.heap.size + 1) = 0 := (p2.tag _ (by omega) (by rw [hTl]; exact hu0)).trans hTl
        have hs4 := p4.size
        have hs2 := hb2.size
        refine ⟨_, _, hr3, true, rfl, T3, ⟨by simp; omega, fun kk o hB hk ho => ?_⟩, fun _ => ⟨⟨hI _ T3 W3 _ (some (w.heap.size + 1)) p1 (grownBy_putObj' _ _ _) (fun r e => by cases e; exact ⟨by omega, _, hl3, rfl⟩), ?_, ?_, hTl3⟩, ⟨?_, ?_, ?_, by simp; omega, fun b hb hu => ?_, fun b hb hu => ?_, fun b hb h00 => ?_⟩, fun b hb => p3 b (by simpa using hb)⟩, (fun h => by cases h)⟩
        · rw [World.putObj_heap_other (by omega)]
          exact p4.same kk o (by omega) ((hoth kk (by omega)).trans ((hb2.block kk (Array.getElem?_eq_some_iff.1 hk).1).trans hk)) ho
        · rw [World.putObj_heap_same hlt3, hrc]; rfl
        · rw [World.putObj_heap_other (by omega)]; exact hd3
        · show W3.os = W.os
          rw [p2.os, hos.1, hb2.os]
        · show W3.tape = W.tape
          rw [p2.tape, hos.2.1, hb2.tape]
        · show W3.output = W.output
          rw [p2.output, hos.2.2, hb2.output]
        · by_cases hbl : b = w.heap.size + 1
          · subst hbl
            rw [World.putObj_heap_same hlt3, hl, hrc]; rfl
          · rw [World.putObj_heap_other hbl, p2.block b (by omega) hu, hoth b hbl]
            exact hb2.block b hb
        · exact p2.tag b (by omega) hu
        · exact p3 b (by simpa using hb)
      | ret =>
        obtain ⟨T3, p1, p4⟩ := hp
        have hl3 : W3.heap[w.heap.size + 1]? = some (.loop { rc .ready none with state := .busy }) := p4.same _ _ (by omega) hlb rfl
        have hd3 : W3.heap[w.heap.size]? = some (.deferred (some [])) := p4.same _ _ (Nat.le_refl _) hdb rfl
        have hr3 := run_endRound (P := P) (some .ret) hl3
        have hlt3 : w.heap.size + 1 < W3.heap.size := (Array.getElem?_eq_some_iff.1 hl3).1
        have hs4 := p4.size
        have hs2 := hb2.size
        refine ⟨_, _, hr3, false, rfl, T3, ⟨by simp; omega, fun kk o hB hk ho => ?_⟩, (fun h => by cases h), fun _ => ⟨.ret, hIx _ _ T3 W3 _ (some (w.heap.size + 1)) p1 (grownBy_putObj' _ _ _) (fun r e => by cases e; exact ⟨by omega, _, hl3, rfl⟩), ?_, ?_⟩⟩
        · rw [World.putObj_heap_other (by omega)]
          exact p4.same kk o (by omega) ((hoth kk (by omega)).trans ((hb2.block kk (Array.getElem?_eq_some_iff.1 hk).1).trans hk)) ho
        · rw [World.putObj_heap_same hlt3, hrc]; rfl
        · rw [World.putObj_heap_other (by omega)]; exact hd3
      | exit id =>
        obtain ⟨T3, p1, p4⟩ := hp
        have hl3 : W3.heap[w.heap.size + 1]? = some (.loop { rc .ready none with state := .busy }) := p4.same _ _ (by omega) hlb rfl
        have hd3 : W3.heap[w.heap.size]? = some (.deferred (some [])) := p4.same _ _ (Nat.le_refl _) hdb rfl
        have hr3 := run_endRound (P := P) (some (.exit id)) hl3
        have hlt3 : w.heap.size + 1 < W3.heap.size := (Array.getElem?_eq_some_iff.1 hl3).1
        have hs4 := p4.size
        have hs2 := hb2.size
        refine ⟨_, _, hr3, false, rfl, T3, ⟨by simp; omega, fun kk o hB hk ho => ?_⟩, (fun h => by cases h), fun _ => ⟨.exit id, hIx _ _ T3 W3 _ (some (w.heap.size + 1)) p1 (grownBy_putObj' _ _ _) (fun r e => by cases e; exact ⟨by omega, _, hl3, rfl⟩), ?_, ?_⟩⟩
        · rw [World.putObj_heap_other (by omega)]
          exact p4.same kk o (by omega) ((hoth kk (by omega)).trans ((hb2.block kk (Array.getElem?_eq_some_iff.1 hk).1).trans hk)) ho
        · rw [World.putObj_heap_same hlt3, hrc]; rfl
        · rw [World.putObj_heap_other (by omega)]; exact hd3
      | goto t => exact hp.elim
      | panic ch => exact hp.elim
      | outgrown => exact hp.elim
    · rintro e W2 ⟨⟨v, rfl⟩, (⟨T', hi, hl, hd, _⟩ | ⟨es, T', hpre, c, hix, hl, hd⟩)⟩
      · refine ⟨none, _, by have := run_endLoop (P := P) hl (by rw [hrc]; simp); rw [hrc] at this; exact this, hdone _ T' _ (Nat.le_refl _) (hI _ T' W2 _ (some (w.heap.size + 1)) hi (grownBy_putObj' _ _ _) (fun r e => by cases e; exact ⟨by omega, _, hl, rfl⟩)) ((World.putObj_heap_other (by omega)).trans hd)⟩
      · refine ⟨some c, _, by have := run_endLoop (P := P) hl (by rw [hrc]; simp); rw [hrc] at this; exact this, hstop _ c es T' _ (Nat.le_refl _) hpre (hIx _ _ T' W2 _ (some (w.heap.size + 1)) hix (grownBy_putObj' _ _ _) (fun r e => by cases e; exact ⟨by omega, _, hl, rfl⟩)) ((World.putObj_heap_other (by omega)).trans hd)⟩

/-- The same within a round of another loop: one block is laid, no mark is left. -/
theorem range_n {F : Fence} {n : Nat} {P : Program} {g : Operand} {ps : Array Tmp} {assign body : Code} {Q : Exit → Act → World → Prop} {a : Act} {w : World}
    {l₀ : Nat} {r₀ : Loop} (hro : F.round = some l₀) (hl₀ : w.heap[l₀]? = some (.loop r₀)) (h1 : 1 ≤ n) {gf : Nat} {lb : Array Value} (hg : a.eval g = .func (.func gf) #[] lb) (hFg : F.fn gf) (eg : ∀ args w, (callFunc gf args).run P w = .ok (.enter gf args) w)
    (u : Nat → Prop) (hu0 : ¬ u 0) (T0 : Nat → Nat) (hz0 : ∀ b, w.heap.size ≤ b → T0 b = 0)
    {enc : α → Array Value} {post : List α} {m : Nat} (hseq : SeqE u F (n - 1) m P gf lb enc post w T0) (hps : ∀ x, (enc x).size = ps.size)
    (I : List α → (Nat → Nat) → World → Prop) (Ix : Code → List α → (Nat → Nat) → World → Prop) (hI : Lasts w.heap.size I) (hIx : ∀ c, Lasts w.heap.size (Ix c)) (h0 : I [] T0 w)
    (As : α → Act → World → World → Prop) (hAs : ∀ e a' W W', As e a' W W' → Below W.heap.size W W')
    (hassign : ∀ (l : Nat) (e : α) (es : List α) T (W : World) (K : Act → World → Prop), I es T W → (∀ a' W', As e a' W W' → K a' W') →
      assign.wpIn (F.inRound l) m P (Exit.then K (fun _ _ _ => False)) { tmps := (ps.zip (enc e)).foldl (fun t (p, v) => t.setIfInBounds p v) a.tmps, defers := [] } W)
    (hbody : ∀ (l : Nat) (e : α) (es : List α) T (a' : Act) (W W' W'' : World), w.heap.size ≤ l → l < W.heap.size → (∃ o : Obj, W'.heap[l]? = some o ∧ o.isCells = false) → I es T W → I es T W'' → (∀ b, W.heap.size ≤ b → T b = 0) → es ++ [e] <+: post → As e a' W W' → W'.grownBy W'' (some l) → body.wpIn (F.inRound l) m P (eachPostE u w.heap.size I Ix (es ++ [e]) T W'') a' W'')
    (hdone : ∀ T (W : World), I post T W → Q .normal a W)
    (hstop : ∀ (c : Code) (es : List α) T (W : World), es <+: post → Ix c es T W → c.wpIn F n P Q a W) :
    (Code.rangeFunc g ps assign body).wpIn F n P Q a w := by
  refine wpIn_rangeFunc ?_
  intro fn hfn
  rw [hro]
  obtain ⟨rc, hrc⟩ : ∃ rc : LoopState → Option Code → Loop, rc = fun st pe => { state := st, pending := pe, fn, tmps := a.tmps, params := ps, assign, body, defers := r₀.defers } := ⟨_, rfl⟩
  obtain ⟨W1, hW1⟩ : ∃ W1, w.alloc (.loop (rc .ready none)) = W1 := ⟨_, rfl⟩
  have hs1 : W1.heap.size = w.heap.size + 1 := by rw [← hW1]; simp
  have hb1 : Below w.heap.size w W1 := by rw [← hW1]; exact (Below.refl _ w).alloc (Nat.le_refl _) _
  have hL1 : W1.heap[w.heap.size]? = some (.loop (rc .ready none)) := by rw [← hW1]; exact World.alloc_heap_new w _
  refine ⟨w.heap.size, [], W1, { target := .fn (.func gf) lb, args := #[.func (.yield (w.heap.size)) #[] #[]] }, W1, gf,
    #[.func (.yield (w.heap.size)) #[] #[]] ++ lb, W1, ?_, ?_, ?_, ?_, fun _ => h1, ?_⟩
  · rw [← hW1, hrc]; exact run_enterLoop_inner hl₀ _ _ _ _ _
  · simp only [resolve, hg]
    simp [go_sem]
  · intro f' hf'; simp [Target.leads] at hf'; subst hf'; exact hFg
  · simp [invoke, go_sem, eg]
  · refine (hseq (w.heap.size) W1
      (fun es T W => I es T W ∧ W.heap[w.heap.size]? = some (.loop (rc .ready none)) ∧ T (w.heap.size) = 0)
      (fun es T W => ∃ c, Ix c es T W ∧ W.heap[w.heap.size]? = some (.loop (rc .done (some c)))) hb1 ?_ ?_ ?_ ?_).mono ?_
    · rintro es T A C row ⟨h2, h3, h5⟩ hgr hr
      have hk : ∀ b, b < W1.heap.size → ∀ o, A.heap[b]? = some o → C.heap[b]? = some o := fun b hb o ho => (hgr.block b (Array.getElem?_eq_some_iff.1 ho).1 (fun e => by have := (hr b e.symm).1; omega)).trans ho
      exact ⟨hI es T A C row h2 hgr (fun r e => ⟨by have := (hr r e).1; omega, (hr r e).2⟩), hk _ (by omega) _ h3, h5⟩
    · rintro es T A C row ⟨c, h2, h3⟩ hgr hr
      have hk : ∀ b, b < W1.heap.size → ∀ o, A.heap[b]? = some o → C.heap[b]? = some o := fun b hb o ho => (hgr.block b (Array.getElem?_eq_some_iff.1 ho).1 (fun e => by have := (hr b e.symm).1; omega)).trans ho
      exact ⟨c, hIx _ es T A C row h2 hgr (fun r e => ⟨by have := (hr r e).1; omega, (hr r e).2⟩), hk _ (by omega) _ h3⟩
    · exact ⟨hI [] T0 w W1 none h0 ⟨hb1.os, hb1.tape, hb1.output, hb1.size, fun b hb _ => hb1.block b hb⟩ (fun r e => by cases e), hL1, hz0 _ (Nat.le_refl _)⟩
    · rintro es e T W ⟨hi, hl, hTl⟩ hzW hN
      have hlt : w.heap.size < W.heap.size := (Array.getElem?_eq_some_iff.1 hl).1
      have hy := run_yield (P := P) (args := enc e) hl (by rw [hrc]; exact hps e)
      rw [hrc] at hy
      refine ⟨fn, _, assign, body, hy, roundIn_of_wpIn hfn (hassign _ e es T W _ hi fun a' W' has => ?_)⟩
      have hb2 := hAs e a' W W' has
      have hl' : W'.heap[w.heap.size]? = some (.loop (rc .ready none)) := (hb2.block _ hlt).trans hl
      refine ⟨_, run_beginRound hl' (by rw [hrc]), ?_⟩
      have hlt' : w.heap.size < W'.heap.size := (Array.getElem?_eq_some_iff.1 hl').1
      have hi' : I es T W' := hI es T W W' none hi ⟨hb2.os, hb2.tape, hb2.output, hb2.size, fun b hb _ => hb2.block b hb⟩ (fun r e => by cases e)
      have hi'' : I es T (W'.putObj (w.heap.size) (.loop { rc .ready none with state := .busy })) := hI es T W' _ (some (w.heap.size)) hi' (grownBy_putObj' _ _ _) (fun r e => by cases e; exact ⟨by omega, _, hl', rfl⟩)
      refine wpIn_mono (hbody (w.heap.size) e es T a' W W' _ (by omega) hlt ⟨_, hl', rfl⟩ hi hi'' hzW hN has (grownBy_putObj' _ _ _)) ?_
      rintro ex a3 W3 hp
      have hlb : (W'.putObj (w.heap.size) (.loop { rc .ready none with state := .busy })).heap[w.heap.size]? = some (.loop { rc .ready none with state := .busy }) := World.putObj_heap_same hlt'
      have hoth : ∀ b, b ≠ w.heap.size → (W'.putObj (w.heap.size) (.loop { rc .ready none with state := .busy })).heap[b]? = W'.heap[b]? := fun b hb => World.putObj_heap_other hb
      have hsz : (W'.putObj (w.heap.size) (.loop { rc .ready none with state := .busy })).heap.size = W'.heap.size := by simp
      have hos : (W'.putObj (w.heap.size) (.loop { rc .ready none with state := .busy })).os = W'.os ∧ (W'.putObj (w.heap.size) (.loop { rc .ready none with state := .busy })).tape = W'.tape ∧ (W'.putObj (w.heap.size) (.loop { rc .ready none with state := .busy })).output = W'.output := ⟨rfl, rfl, rfl⟩
      generalize W'.putObj (w.heap.size) (.loop { rc .ready none with state := .busy }) = Wb at *
      cases ex with
      | normal =>
        obtain ⟨T3, p1, p2, p3, p4⟩ := hp
        have hl3 : W3.heap[w.heap.size]? = some (.loop { rc .ready none with state := .busy }) := p4.same _ _ (by omega) hlb rfl
        have hr3 := run_endRound (P := P) none hl3
        have hlt3 : w.heap.size < W3.heap.size := (Array.getElem?_eq_some_iff.1 hl3).1
        have hTl3 : T3 (w.heap.size) = 0 := (p2.tag _ (by omega) (by rw [hTl]; exact hu0)).trans hTl
        have hs4 := p4.size
        have hs2 := hb2.size
        refine ⟨_, _, hr3, true, rfl, T3, ⟨by simp; omega, fun kk o hB hk ho => ?_⟩, fun _ => ⟨⟨hI _ T3 W3 _ (some (w.heap.size)) p1 (grownBy_putObj' _ _ _) (fun r e => by cases e; exact ⟨by omega, _, hl3, rfl⟩), ?_, hTl3⟩, ⟨?_, ?_, ?_, by simp; omega, fun b hb hu => ?_, fun b hb hu => ?_, fun b hb h00 => ?_⟩, fun b hb => p3 b (by simpa using hb)⟩, (fun h => by cases h)⟩
        · rw [World.putObj_heap_other (by omega)]
          exact p4.same kk o (by omega) ((hoth kk (by omega)).trans ((hb2.block kk (Array.getElem?_eq_some_iff.1 hk).1).trans hk)) ho
        · rw [World.putObj_heap_same hlt3, hrc]; rfl
        · show W3.os = W.os
          rw [p2.os, hos.1, hb2.os]
        · show W3.tape = W.tape
          rw [p2.tape, hos.2.1, hb2.tape]
        · show W3.output = W.output
          rw [p2.output, hos.2.2, hb2.output]
        · by_cases hbl : b = w.heap.size
          · subst hbl
            rw [World.putObj_heap_same hlt3, hl, hrc]; rfl
          · rw [World.putObj_heap_other hbl, p2.block b (by omega) hu, hoth b hbl]
            exact hb2.block b hb
        · exact p2.tag b (by omega) hu
        · exact p3 b (by simpa using hb)
      | ret =>
        obtain ⟨T3, p1, p4⟩ := hp
        have hl3 : W3.heap[w.heap.size]? = some (.loop { rc .ready none with state := .busy }) := p4.same _ _ (by omega) hlb rfl
        have hr3 := run_endRound (P := P) (some .ret) hl3
        have hlt3 : w.heap.size < W3.heap.size := (Array.getElem?_eq_some_iff.1 hl3).1
        have hs4 := p4.size
        have hs2 := hb2.size
        refine ⟨_, _, hr3, false, rfl, T3, ⟨by simp; omega, fun kk o hB hk ho => ?_⟩, (fun h => by cases h), fun _ => ⟨.ret, hIx _ _ T3 W3 _ (some (w.heap.size)) p1 (grownBy_putObj' _ _ _) (fun r e => by cases e; exact ⟨by omega, _, hl3, rfl⟩), ?_⟩⟩
        · rw [World.putObj_heap_other (by omega)]
          exact p4.same kk o (by omega) ((hoth kk (by omega)).trans ((hb2.block kk (Array.getElem?_eq_some_iff.1 hk).1).trans hk)) ho
        · rw [World.putObj_heap_same hlt3, hrc]; rfl
      | exit id =>
        obtain ⟨T3, p1, p4⟩ := hp
        have hl3 : W3.heap[w.heap.size]? = some (.loop { rc .ready none with state := .busy }) := p4.same _ _ (by omega) hlb rfl
        have hr3 := run_endRound (P := P) (some (.exit id)) hl3
        have hlt3 : w.heap.size < W3.heap.size := (Array.getElem?_eq_some_iff.1 hl3).1
        have hs4 := p4.size
        have hs2 := hb2.size
        refine ⟨_, _, hr3, false, rfl, T3, ⟨by simp; omega, fun kk o hB hk ho => ?_⟩, (fun h => by cases h), fun _ => ⟨.exit id, hIx _ _ T3 W3 _ (some (w.heap.size)) p1 (grownBy_putObj' _ _ _) (fun r e => by cases e; exact ⟨by omega, _, hl3, rfl⟩), ?_⟩⟩
        · rw [World.putObj_heap_other (by omega)]
          exact p4.same kk o (by omega) ((hoth kk (by omega)).trans ((hb2.block kk (Array.getElem?_eq_some_iff.1 hk).1).trans hk)) ho
        · rw [World.putObj_heap_same hlt3, hrc]; rfl
      | goto t => exact hp.elim
      | panic ch => exact hp.elim
      | outgrown => exact hp.elim
    · rintro e W2 ⟨⟨v, rfl⟩, (⟨T', hi, hl, _⟩ | ⟨es, T', hpre, c, hix, hl⟩)⟩
      · refine ⟨none, _, by have := run_endLoop (P := P) hl (by rw [hrc]; simp); rw [hrc] at this; exact this, hdone T' _ (hI _ T' W2 _ (some (w.heap.size)) hi (grownBy_putObj' _ _ _) (fun r e => by cases e; exact ⟨by omega, _, hl, rfl⟩))⟩
      · refine ⟨some c, _, by have := run_endLoop (P := P) hl (by rw [hrc]; simp); rw [hrc] at this; exact this, hstop c es T' _ hpre (hIx _ _ T' W2 _ (some (w.heap.size)) hix (grownBy_putObj' _ _ _) (fun r e => by cases e; exact ⟨by omega, _, hl, rfl⟩))⟩
end Qe
end Go.Proofs.YtkebbmdghnplmaaDoor
