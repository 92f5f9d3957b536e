import Derived.Test.YtdflepndhemfgaaGreatDoorEa1
namespace Go.Proofs.YtdflepndhemfgaaGreatDoor
namespace Sk
open Go.RowKit Go.Shelf Laws Irw Erw KMath Skm Byt
set_option linter.unusedVariables false
set_option maxRecDepth 100000
set_option linter.unusedSimpArgs false

/-- An iterator that gives entries to whatever loop. -/
def SeqEach (u : Nat → Prop) (F : Fence) (n : Nat) (P : Program) (gf : Nat) (lb : Array Value) (enc : En → Array Value) (post : List En) (N : Nat) (w : World) (T0 : Nat → Nat) : Prop :=
  ∀ (l : Nat) (W : World) (J Jx : List En → (Nat → Nat) → World → Prop), Below w.heap.size w W → Lasts W.heap.size J → Lasts W.heap.size Jx → J [] T0 W →
    (∀ (es : List En) (e : En) T W1, J es T W1 → (∀ b, W1.heap.size ≤ b → T b = 0) → es.length < N → YieldAt F (n - 1 - 1 - 1) P l (enc e) W1 fun r W2 => ∃ b, r = .returned (.bool b) ∧ Gives u W.heap.size J Jx (es ++ [e]) T W1 b W2) →
    CallsIn F n P gf (#[.func (.yield l) #[] #[]] ++ lb) W fun e W' => (∃ v, e = .returned v) ∧ ((∃ T', J post T' W') ∨ ∃ es T', es <+: post ∧ Jx es T' W')
def encE4 (e : En) : Array Value := #[.agg #[.string e.1, .int .u64 e.2.1, .bool e.2.2.1, .string e.2.2.2]]
theorem from_each (u : Nat → Prop) (hu0 : ¬ u 0) (t : Nat) (ht : ¬ u t) (T0 : Nat → Nat) (Bl Bk Bs L : Nat) (k : ByteArray) (s : Int) (ns pre post : List Nd) (w : World) (hw : Wk w L k s ns pre post)
    (htg : ∀ nd ∈ ns, T0 nd.b = t) (htL : T0 L = t) (hz0 : ∀ b, w.heap.size ≤ b → T0 b = 0)
    (hBl : w.cell? ⟨Bl, 0, none⟩ = some (.pointer (some ⟨L, 0, none⟩))) (hBk : w.cell? ⟨Bk, 0, none⟩ = some (.string k)) (hBs : w.cell? ⟨Bs, 0, none⟩ = some (.int .u64 s)) :
    SeqEach u Fence.wide 6 Tryz.prog 41 #[.pointer (some ⟨Bl, 0, none⟩), .pointer (some ⟨Bk, 0, none⟩), .pointer (some ⟨Bs, 0, none⟩)] encE4 (post.map Nd.e) ns.length w T0 := fun l W J Jx hW hJ hJx h0 hY =>
  each_in u hu0 t ht T0 l Bl Bk Bs L k s ns pre post W (hw.under hW) htg htL (fun b hb => hz0 b (Nat.le_trans hW.size hb)) ((hW.cell (p := ⟨Bl, 0, none⟩) (World.block_lt_of_cell? w _ hBl)).trans hBl) ((hW.cell (p := ⟨Bk, 0, none⟩) (World.block_lt_of_cell? w _ hBk)).trans hBk) ((hW.cell (p := ⟨Bs, 0, none⟩) (World.block_lt_of_cell? w _ hBs)).trans hBs) J Jx hJ hJx h0 hY

/-- how a round is left -/
def eachPost (u : Nat → Prop) (B : Nat) (I : List En → (Nat → Nat) → World → Prop) (Ix : Code → List En → (Nat → Nat) → World → Prop) (es : List En) (T : Nat → Nat) (W : World) : Exit → Act → World → Prop
  | .normal, _, W' => ∃ T', I es T' W' ∧ Goes u T W T' W' ∧ (∀ b, W'.heap.size ≤ b → T' b = 0) ∧ KeepsFrom B W W'
  | .ret, _, W' => ∃ T', Ix .ret es T' W' ∧ KeepsFrom B W W'
  | _, _, _ => False

/-- A loop over such an iterator. -/
theorem range_each {F : Fence} {n : Nat} {P : Program} {g : Operand} {ps : Array Tmp} {assign body : Code} {Q : Exit → Act → World → Prop} {a : Act} {w : World}
    (hro : F.round = none) (h1 : 1 ≤ n) {gf : Nat} {lb : Array Value} (hg : a.eval g = .func (.func gf) #[] lb) (hFg : F.fn gf) (eg : ∀ args w, (callFunc gf args).run P w = .ok (.enter gf args) w)
    (u : Nat → Prop) (hu0 : ¬ u 0) (T0 : Nat → Nat) (hz0 : ∀ b, w.heap.size ≤ b → T0 b = 0)
    {enc : En → Array Value} {post : List En} {N : Nat} (hseq : SeqEach u F (n - 1) P gf lb enc post N w T0) (hps : ∀ x, (enc x).size = ps.size)
    (I : List En → (Nat → Nat) → World → Prop) (Ix : Code → List En → (Nat → Nat) → World → Prop) (hI : Lasts w.heap.size I) (hIx : ∀ c, Lasts w.heap.size (Ix c)) (h0 : I [] T0 w)
    (As : En → Act → World → World → Prop) (hAs : ∀ e a' W W', As e a' W W' → Below W.heap.size W W')
    (hassign : ∀ (l : Nat) (e : En) (es : List En) T (W : World) (K : Act → World → Prop), I es T W → (∀ a' W', As e a' W W' → K a' W') →
      assign.wpIn (F.inRound l) (n - 1 - 1 - 1 - 1) P (Exit.then K (fun _ _ _ => False)) { tmps := (ps.zip (enc e)).foldl (fun t (p, v) => t.setIfInBounds p v) a.tmps, defers := [] } W)
    (hbody : ∀ (l : Nat) (e : En) (es : List En) T (a' : Act) (W W' W'' : World), w.heap.size ≤ l → l < W.heap.size → (∃ o : Obj, W'.heap[l]? = some o ∧ o.isCells = false) → I es T W → I es T W'' → (∀ b, W.heap.size ≤ b → T b = 0) → es.length < N → As e a' W W' → W'.grownBy W'' (some l) → body.wpIn (F.inRound l) (n - 1 - 1 - 1 - 1) P (eachPost u w.heap.size I Ix (es ++ [e]) T W'') a' W'')
    (hdone : ∀ (D : Nat) T (W : World), w.heap.size ≤ D → I post T W → W.heap[D]? = some (.deferred (some [])) → Q .normal { a with defers := { target := .collected D, args := #[] } :: a.defers } W)
    (hstop : ∀ (D : Nat) (es : List En) T (W : World), w.heap.size ≤ D → es <+: post → Ix .ret es T W → W.heap[D]? = some (.deferred (some [])) → Code.ret.wpIn F n P Q { a with defers := { target := .collected D, args := #[] } :: a.defers } W) :
    (Code.rangeFunc g ps assign body).wpIn F n P Q a w := by
  refine wpIn_rangeFunc ?_
  intro fn hfn
  rw [hro]
  obtain ⟨rc, hrc⟩ : ∃ rc : LoopState → Option Code → Loop, rc = fun st pe => { state := st, pending := pe, fn, tmps := a.tmps, params := ps, assign, body, defers := w.heap.size } := ⟨_, rfl⟩
  obtain ⟨W1, hW1⟩ : ∃ W1, (w.alloc (.deferred (some []))).alloc (.loop (rc .ready none)) = W1 := ⟨_, rfl⟩
  have hs1 : W1.heap.size = w.heap.size + 2 := by rw [← hW1]; simp
  have hb1 : Below w.heap.size w W1 := by rw [← hW1]; exact ((Below.refl _ w).alloc (Nat.le_refl _) _).alloc (by simp) _
  have hL1 : W1.heap[w.heap.size + 1]? = some (.loop (rc .ready none)) := by
    rw [← hW1]; have := World.alloc_heap_new (w.alloc (.deferred (some []))) (.loop (rc .ready none)); rwa [World.size_alloc] at this
  have hD1 : W1.heap[w.heap.size]? = some (.deferred (some [])) := by
    rw [← hW1]; exact (Below.heap_alloc _ _ _ (by simp)).trans (World.alloc_heap_new w _)
  refine ⟨w.heap.size + 1, [{ target := .collected w.heap.size, args := #[] }], W1, { target := .fn (.func gf) lb, args := #[.func (.yield (w.heap.size + 1)) #[] #[]] }, W1, gf,
    #[.func (.yield (w.heap.size + 1)) #[] #[]] ++ lb, W1, ?_, ?_, ?_, ?_, fun _ => h1, ?_⟩
  · rw [← hW1, hrc]; exact run_enterLoop_outer _ _ _ _ _
  · simp only [resolve, hg]
    simp [go_sem]
  · intro f' hf'; simp [Target.leads] at hf'; subst hf'; exact hFg
  · simp [invoke, go_sem, eg]
  · refine (hseq (w.heap.size + 1) W1
      (fun es T W => I es T W ∧ W.heap[w.heap.size + 1]? = some (.loop (rc .ready none)) ∧ W.heap[w.heap.size]? = some (.deferred (some [])) ∧ T (w.heap.size + 1) = 0)
      (fun es T W => Ix .ret es T W ∧ W.heap[w.heap.size + 1]? = some (.loop (rc .done (some .ret))) ∧ W.heap[w.heap.size]? = some (.deferred (some []))) hb1 ?_ ?_ ?_ ?_).mono ?_
    · rintro es T A C row ⟨h2, h3, h4, h5⟩ hgr hr
      have hk : ∀ b, b < W1.heap.size → ∀ o, A.heap[b]? = some o → C.heap[b]? = some o := fun b hb o ho => (hgr.block b (Array.getElem?_eq_some_iff.1 ho).1 (fun e => by have := (hr b e.symm).1; omega)).trans ho
      exact ⟨hI es T A C row h2 hgr (fun r e => ⟨by have := (hr r e).1; omega, (hr r e).2⟩), hk _ (by omega) _ h3, hk _ (by omega) _ h4, h5⟩
    · rintro es T A C row ⟨h2, h3, h4⟩ hgr hr
      have hk : ∀ b, b < W1.heap.size → ∀ o, A.heap[b]? = some o → C.heap[b]? = some o := fun b hb o ho => (hgr.block b (Array.getElem?_eq_some_iff.1 ho).1 (fun e => by have := (hr b e.symm).1; omega)).trans ho
      exact ⟨hIx _ es T A C row h2 hgr (fun r e => ⟨by have := (hr r e).1; omega, (hr r e).2⟩), hk _ (by omega) _ h3, hk _ (by omega) _ h4⟩
    · exact ⟨hI [] T0 w W1 none h0 ⟨hb1.os, hb1.tape, hb1.output, hb1.size, fun b hb _ => hb1.block b hb⟩ (fun r e => by cases e), hL1, hD1, hz0 _ (by omega)⟩
    · rintro es e T W ⟨hi, hl, hd, hTl⟩ hzW hN
      have hlt : w.heap.size + 1 < W.heap.size := (Array.getElem?_eq_some_iff.1 hl).1
      have hy := run_yield (P := P) (args := enc e) hl (by rw [hrc]; exact hps e)
      rw [hrc] at hy
      refine ⟨fn, _, assign, body, hy, roundIn_of_wpIn hfn (hassign _ e es T W _ hi fun a' W' has => ?_)⟩
      have hb2 := hAs e a' W W' has
      have hl' : W'.heap[w.heap.size + 1]? = some (.loop (rc .ready none)) := (hb2.block _ hlt).trans hl
      have hd' : W'.heap[w.heap.size]? = some (.deferred (some [])) := (hb2.block _ (by omega)).trans hd
      refine ⟨_, run_beginRound hl' (by rw [hrc]), ?_⟩
      have hlt' : w.heap.size + 1 < W'.heap.size := (Array.getElem?_eq_some_iff.1 hl').1
      have hi' : I es T W' := hI es T W W' none hi ⟨hb2.os, hb2.tape, hb2.output, hb2.size, fun b hb _ => hb2.block b hb⟩ (fun r e => by cases e)
      have hi'' : I es T (W'.putObj (w.heap.size + 1) (.loop { rc .ready none with state := .busy })) := hI es T W' _ (some (w.heap.size + 1)) hi' (grownBy_putObj' _ _ _) (fun r e => by cases e; exact ⟨by omega, _, hl', rfl⟩)
      refine wpIn_mono (hbody (w.heap.size + 1) e es T a' W W' _ (by omega) hlt ⟨_, hl', rfl⟩ hi hi'' hzW hN has (grownBy_putObj' _ _ _)) ?_
      rintro ex a3 W3 hp
      have hlb : (W'.putObj (w.heap.size + 1) (.loop { rc .ready none with state := .busy })).heap[w.heap.size + 1]? = some (.loop { rc .ready none with state := .busy }) := World.putObj_heap_same hlt'
      have hdb : (W'.putObj (w.heap.size + 1) (.loop { rc .ready none with state := .busy })).heap[w.heap.size]? = some (.deferred (some [])) := (World.putObj_heap_other (by omega)).trans hd'
      have hoth : ∀ b, b ≠ w.heap.size + 1 → (W'.putObj (w.heap.size + 1) (.loop { rc .ready none with state := .busy })).heap[b]? = W'.heap[b]? := fun b hb => World.putObj_heap_other hb
      have hsz : (W'.putObj (w.heap.size + 1) (.loop { rc .ready none with state := .busy })).heap.size = W'.heap.size := by simp
      have hos : (W'.putObj (w.heap.size + 1) (.loop { rc .ready none with state := .busy })).os = W'.os ∧ (W'.putObj (w.heap.size + 1) (.loop { rc .ready none with state := .busy })).tape = W'.tape ∧ (W'.putObj (w.heap.size + 1) (.loop { rc .ready none with state := .busy })).output = W'.output := ⟨rfl, rfl, rfl⟩
      generalize W'.putObj (w.heap.size + 1) (.loop { rc .ready none with state := .busy }) = Wb at *
      cases ex with
      | normal =>
        obtain ⟨T3, p1, p2, p3, p4⟩ := hp
        have hl3 : W3.heap[w.heap.size + 1]? = some (.loop { rc .ready none with state := .busy }) := p4.same _ _ (by omega) hlb rfl
        have hd3 : W3.heap[w.heap.size]? = some (.deferred (some [])) := p4.same _ _ (Nat.le_refl _) hdb rfl
        have hr3 := run_endRound (P := P) none hl3
        have hlt3 : w.heap.size + 1 < W3.heap.size := (Array.getElem?_eq_some_iff.1 hl3).1
        have hTl3 : T3 (w.heap.size + 1) = 0 := (p2.tag _ (by omega) (by rw [hTl]; exact hu0)).trans hTl
        have hs4 := p4.size
        have hs2 := hb2.size
        refine ⟨_, _, hr3, true, rfl, T3, ⟨by simp; omega, fun kk o hB hk ho => ?_⟩, fun _ => ⟨⟨hI _ T3 W3 _ (some (w.heap.size + 1)) p1 (grownBy_putObj' _ _ _) (fun r e => by cases e; exact ⟨by omega, _, hl3, rfl⟩), ?_, ?_, hTl3⟩, ⟨?_, ?_, ?_, by simp; omega, fun b hb hu => ?_, fun b hb hu => ?_, fun b hb h00 => ?_⟩, fun b hb => p3 b (by simpa using hb)⟩, (fun h => by cases h)⟩
        · rw [World.putObj_heap_other (by omega)]
          exact p4.same kk o (by omega) ((hoth kk (by omega)).trans ((hb2.block kk (Array.getElem?_eq_some_iff.1 hk).1).trans hk)) ho
        · rw [World.putObj_heap_same hlt3, hrc]; rfl
        · rw [World.putObj_heap_other (by omega)]; exact hd3
        · show W3.os = W.os
          rw [p2.os, hos.1, hb2.os]
        · show W3.tape = W.tape
          rw [p2.tape, hos.2.1, hb2.tape]
        · show W3.output = W.output
          rw [p2.output, hos.2.2, hb2.output]
        · by_cases hbl : b = w.heap.size + 1
          · subst hbl
            rw [World.putObj_heap_same hlt3, hl, hrc]; rfl
          · rw [World.putObj_heap_other hbl, p2.block b (by omega) hu, hoth b hbl]
            exact hb2.block b hb
        · exact p2.tag b (by omega) hu
        · exact p3 b (by simpa using hb)
      | ret =>
        obtain ⟨T3, p1, p4⟩ := hp
        have hl3 : W3.heap[w.heap.size + 1]? = some (.loop { rc .ready none with state := .busy }) := p4.same _ _ (by omega) hlb rfl
        have hd3 : W3.heap[w.heap.size]? = some (.deferred (some [])) := p4.same _ _ (Nat.le_refl _) hdb rfl
        have hr3 := run_endRound (P := P) (some .ret) hl3
        have hlt3 : w.heap.size + 1 < W3.heap.size := (Array.getElem?_eq_some_iff.1 hl3).1
        have hs4 := p4.size
        have hs2 := hb2.size
        refine ⟨_, _, hr3, false, rfl, T3, ⟨by simp; omega, fun kk o hB hk ho => ?_⟩, (fun h => by cases h), fun _ => ⟨hIx _ _ T3 W3 _ (some (w.heap.size + 1)) p1 (grownBy_putObj' _ _ _) (fun r e => by cases e; exact ⟨by omega, _, hl3, rfl⟩), ?_, ?_⟩⟩
        · rw [World.putObj_heap_other (by omega)]
          exact p4.same kk o (by omega) ((hoth kk (by omega)).trans ((hb2.block kk (Array.getElem?_eq_some_iff.1 hk).1).trans hk)) ho
        · rw [World.putObj_heap_same hlt3, hrc]; rfl
        · rw [World.putObj_heap_other (by omega)]; exact hd3
      | exit id => exact hp.elim
      | goto t => exact hp.elim
      | panic ch => exact hp.elim
      | outgrown => exact hp.elim
    · rintro e W2 ⟨⟨v, rfl⟩, (⟨T', hi, hl, hd, _⟩ | ⟨es, T', hpre, hix, hl, hd⟩)⟩
      · refine ⟨none, _, by have := run_endLoop (P := P) hl (by rw [hrc]; simp); rw [hrc] at this; exact this, hdone _ T' _ (Nat.le_refl _) (hI _ T' W2 _ (some (w.heap.size + 1)) hi (grownBy_putObj' _ _ _) (fun r e => by cases e; exact ⟨by omega, _, hl, rfl⟩)) ((World.putObj_heap_other (by omega)).trans hd)⟩
      · refine ⟨some .ret, _, by have := run_endLoop (P := P) hl (by rw [hrc]; simp); rw [hrc] at this; exact this, hstop _ es T' _ (Nat.le_refl _) hpre (hIx _ _ T' W2 _ (some (w.heap.size + 1)) hix (grownBy_putObj' _ _ _) (fun r e => by cases e; exact ⟨by omega, _, hl, rfl⟩)) ((World.putObj_heap_other (by omega)).trans hd)⟩
end Sk
end Go.Proofs.YtdflepndhemfgaaGreatDoor
