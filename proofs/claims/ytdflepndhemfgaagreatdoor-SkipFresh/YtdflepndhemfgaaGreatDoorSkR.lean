import Derived.Test.YtdflepndhemfgaaGreatDoorSk9
namespace Go.Proofs.YtdflepndhemfgaaGreatDoor
namespace Sk
open Go.RowKit Go.Shelf Laws Irw Erw KMath Skm Byt
set_option linter.unusedVariables false
set_option maxRecDepth 100000
set_option linter.unusedSimpArgs false

/-- An iterator of which one yield, that stops it, is told. -/
def SeqFirst (F : Fence) (n : Nat) (P : Program) (gf : Nat) (lb : Array Value) (enc : En → Array Value) (post : List Nd) (w : World) : Prop :=
  ∀ (l : Nat) (W : World) (Jx : En → World → Prop), Below w.heap.size w W → (∀ e A B row, Jx e A → A.grownBy B row → (∀ r, row = some r → W.heap.size ≤ r) → Jx e B) →
    (∀ (e : En) W', Below W.heap.size W W' → YieldAt F (n - 1 - 1 - 1) P l (enc e) W' fun r W2 => r = .returned (.bool false) ∧ Jx e W2 ∧ W'.heap.size ≤ W2.heap.size ∧ ∀ b, W.heap.size ≤ b → b < W'.heap.size → W2.heap[b]? = W'.heap[b]?) →
    CallsIn F n P gf (#[.func (.yield l) #[] #[]] ++ lb) W fun e W' => (∃ v, e = .returned v) ∧ ((post = [] ∧ Below W.heap.size W W') ∨ ∃ nd r, post = nd :: r ∧ Jx nd.e W')

/-- how the one round is left -/
def firstPost (B : Nat) (R : World → Prop) (W : World) : Exit → Act → World → Prop
  | .ret, _, W' => R W' ∧ W.heap.size ≤ W'.heap.size ∧ ∀ b, B ≤ b → b < W.heap.size → W'.heap[b]? = W.heap[b]?
  | _, _, _ => False

/-- A loop over an iterator whose body returns in its first round. -/
theorem range_first {F : Fence} {n : Nat} {P : Program} {g : Operand} {ps : Array Tmp} {assign body : Code} {Q : Exit → Act → World → Prop} {a : Act} {w : World}
    (hro : F.round = none) (h1 : 1 ≤ n) {gf : Nat} {lb : Array Value} (hg : a.eval g = .func (.func gf) #[] lb) (hFg : F.fn gf) (eg : ∀ args w, (callFunc gf args).run P w = .ok (.enter gf args) w)
    {enc : En → Array Value} {post : List Nd} (hseq : SeqFirst F (n - 1) P gf lb enc post w) (hps : ∀ x, (enc x).size = ps.size)
    (R : En → World → Prop) (hR : ∀ e A B row, R e A → A.grownBy B row → (∀ r, row = some r → w.heap.size ≤ r) → R e B)
    (As : En → Act → World → World → Prop) (hAs : ∀ e a' W W', As e a' W W' → Below W.heap.size W W')
    (hassign : ∀ (l : Nat) (e : En) (W : World) (K : Act → World → Prop), Below w.heap.size w W → (∀ a' W', As e a' W W' → K a' W') →
      assign.wpIn (F.inRound l) (n - 1 - 1 - 1 - 1) P (Exit.then K (fun _ _ _ => False)) { tmps := (ps.zip (enc e)).foldl (fun t (p, v) => t.setIfInBounds p v) a.tmps, defers := [] } W)
    (hbody : ∀ (l : Nat) (e : En) (a' : Act) (W W' W'' : World), Below w.heap.size w W → As e a' W W' → w.heap.size ≤ l → l < W.heap.size → W'.grownBy W'' (some l) → body.wpIn (F.inRound l) (n - 1 - 1 - 1 - 1) P (firstPost w.heap.size (R e) W'') a' W'')
    (hdone : post = [] → ∀ (D : Nat) (W : World), w.heap.size ≤ D → Below w.heap.size w W → W.heap[D]? = some (.deferred (some [])) → Q .normal { a with defers := { target := .collected D, args := #[] } :: a.defers } W)
    (hstop : ∀ nd r, post = nd :: r → ∀ (D : Nat) (W : World), w.heap.size ≤ D → R nd.e W → W.heap[D]? = some (.deferred (some [])) → Code.ret.wpIn F n P Q { a with defers := { target := .collected D, args := #[] } :: a.defers } W) :
    (Code.rangeFunc g ps assign body).wpIn F n P Q a w := by
  refine wpIn_rangeFunc ?_
  intro fn hfn
  rw [hro]
  obtain ⟨rc, hrc⟩ : ∃ rc : LoopState → Option Code → Loop, rc = fun st pe => { state := st, pending := pe, fn, tmps := a.tmps, params := ps, assign, body, defers := w.heap.size } := ⟨_, rfl⟩
  obtain ⟨W1, hW1⟩ : ∃ W1, (w.alloc (.deferred (some []))).alloc (.loop (rc .ready none)) = W1 := ⟨_, rfl⟩
  have hs1 : W1.heap.size = w.heap.size + 2 := by rw [← hW1]; simp
  have hb1 : Below w.heap.size w W1 := by rw [← hW1]; exact ((Below.refl _ w).alloc (Nat.le_refl _) _).alloc (by simp) _
  have hL1 : W1.heap[w.heap.size + 1]? = some (.loop (rc .ready none)) := by
    rw [← hW1]; have := World.alloc_heap_new (w.alloc (.deferred (some []))) (.loop (rc .ready none)); rwa [World.size_alloc] at this
  have hD1 : W1.heap[w.heap.size]? = some (.deferred (some [])) := by
    rw [← hW1]; exact (Below.heap_alloc _ _ _ (by simp)).trans (World.alloc_heap_new w _)
  refine ⟨w.heap.size + 1, [{ target := .collected w.heap.size, args := #[] }], W1, { target := .fn (.func gf) lb, args := #[.func (.yield (w.heap.size + 1)) #[] #[]] }, W1, gf,
    #[.func (.yield (w.heap.size + 1)) #[] #[]] ++ lb, W1, ?_, ?_, ?_, ?_, fun _ => h1, ?_⟩
  · rw [← hW1, hrc]; exact run_enterLoop_outer _ _ _ _ _
  · simp only [resolve, hg]
    simp [go_sem]
  · intro f' hf'; simp [Target.leads] at hf'; subst hf'; exact hFg
  · simp [invoke, go_sem, eg]
  · refine (hseq (w.heap.size + 1) W1 (fun e W => R e W ∧ W.heap[w.heap.size + 1]? = some (.loop (rc .done (some .ret))) ∧ W.heap[w.heap.size]? = some (.deferred (some []))) hb1 ?_ ?_).mono ?_
    · rintro e A B row ⟨h2, h3, h4⟩ hgr hr
      have hk : ∀ b, b < W1.heap.size → ∀ o, A.heap[b]? = some o → B.heap[b]? = some o := fun b hb o ho => (hgr.block b (Array.getElem?_eq_some_iff.1 ho).1 (fun e => by have := hr b e.symm; omega)).trans ho
      exact ⟨hR e A B row h2 hgr (fun r e => by have := hr r e; omega), hk _ (by omega) _ h3, hk _ (by omega) _ h4⟩
    · intro e W hbW
      have hl : W.heap[w.heap.size + 1]? = some (.loop (rc .ready none)) := (hbW.block _ (by omega)).trans hL1
      have hd : W.heap[w.heap.size]? = some (.deferred (some [])) := (hbW.block _ (by omega)).trans hD1
      have hwW : Below w.heap.size w W := hb1.trans (hbW.mono hb1.size)
      have hlt : w.heap.size + 1 < W.heap.size := (Array.getElem?_eq_some_iff.1 hl).1
      have hy := run_yield (P := P) (args := enc e) hl (by rw [hrc]; exact hps e)
      rw [hrc] at hy
      refine ⟨fn, _, assign, body, hy, roundIn_of_wpIn hfn (hassign _ e W _ hwW fun a' W' has => ?_)⟩
      have hb2 := hAs e a' W W' has
      have hl' : W'.heap[w.heap.size + 1]? = some (.loop (rc .ready none)) := (hb2.block _ hlt).trans hl
      have hd' : W'.heap[w.heap.size]? = some (.deferred (some [])) := (hb2.block _ (by omega)).trans hd
      refine ⟨_, run_beginRound hl' (by rw [hrc]), ?_⟩
      have hlt' : w.heap.size + 1 < W'.heap.size := (Array.getElem?_eq_some_iff.1 hl').1
      refine wpIn_mono (hbody (w.heap.size + 1) e a' W W' _ hwW has (by omega) hlt (grownBy_putObj' _ _ _)) ?_
      rintro ex a3 W3 hp
      cases ex with
      | ret =>
        obtain ⟨p1, p2, p3⟩ := hp
        have hl3 : W3.heap[w.heap.size + 1]? = some (.loop { rc .ready none with state := .busy }) := (p3 _ (by omega) (by simpa using hlt')).trans (World.putObj_heap_same hlt')
        have hd3 : W3.heap[w.heap.size]? = some (.deferred (some [])) := (p3 _ (Nat.le_refl _) (by simp; omega)).trans ((World.putObj_heap_other (by omega)).trans hd')
        have hr3 := run_endRound (P := P) (some .ret) hl3
        have hlt3 : w.heap.size + 1 < W3.heap.size := (Array.getElem?_eq_some_iff.1 hl3).1
        refine ⟨_, _, hr3, rfl, ⟨hR e W3 _ _ p1 (grownBy_putObj' _ _ _) (fun r e => by cases e; omega), ?_, ?_⟩, ?_, fun b hb hb3 => ?_⟩
        · rw [World.putObj_heap_same hlt3, hrc]; rfl
        · rw [World.putObj_heap_other (by omega)]; exact hd3
        · have := hb2.size
          simp at p2 ⊢
          omega
        · rw [World.putObj_heap_other (by omega), p3 b (by omega) (by have := hb2.size; simp; omega), World.putObj_heap_other (by omega)]
          exact hb2.block b hb3
      | normal => exact hp.elim
      | exit id => exact hp.elim
      | goto t => exact hp.elim
      | panic ch => exact hp.elim
      | outgrown => exact hp.elim
    · rintro e W2 ⟨⟨v, rfl⟩, (⟨hp, hb⟩ | ⟨nd, r, hp, hj, hl, hd⟩)⟩
      · have hl : W2.heap[w.heap.size + 1]? = some (.loop (rc .ready none)) := (hb.block _ (by omega)).trans hL1
        have hd : W2.heap[w.heap.size]? = some (.deferred (some [])) := (hb.block _ (by omega)).trans hD1
        refine ⟨none, _, by have := run_endLoop (P := P) hl (by rw [hrc]; simp); rw [hrc] at this; exact this, hdone hp _ _ (Nat.le_refl _) ?_ ((World.putObj_heap_other (by omega)).trans hd)⟩
        exact (hb1.trans (hb.mono hb1.size)).trans ⟨rfl, rfl, rfl, by simp, fun b hb => World.putObj_heap_other (by omega)⟩
      · refine ⟨some .ret, _, by have := run_endLoop (P := P) hl (by rw [hrc]; simp); rw [hrc] at this; exact this, hstop nd r hp _ _ (Nat.le_refl _) (hR _ W2 _ _ hj (grownBy_putObj' _ _ _) (fun r e => by cases e; omega)) ((World.putObj_heap_other (by omega)).trans hd)⟩
end Sk
end Go.Proofs.YtdflepndhemfgaaGreatDoor
