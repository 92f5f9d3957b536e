import Derived.Test.YtnhhalabmmcemaaDoorTaJ
import Derived.Test.YtnhhalabmmcemaaDoorQb7
import Derived.Test.YtnhhalabmmcemaaDoorQd4
import Derived.Test.YtnhhalabmmcemaaDoorQc6
import Derived.Sort.QuietIn
import Derived.Test.YtnhhalabmmcemaaDoorProg
import Derived.Test.YtnhhalabmmcemaaDoorIRw
import Derived.RangeFuncCalls
import Derived.OwnWalkIn
namespace Go.Proofs.YtnhhalabmmcemaaDoor
namespace Tbl
open Go.RowKit CMath Byt Laws Irw Crw Cod Qb
set_option linter.unusedVariables false
set_option linter.unusedSimpArgs false
set_option maxRecDepth 20000

/-- Where the rest of a cut lies. -/
def cutO (c n o : Nat) : Nat := if c = n then o else o + n
theorem cut_isB {w : World} {g o c n : Nat} {l : List Nat} (h : IsB w (some ⟨g, o, none⟩) l) (hc : l.length ≤ c) : IsB w (some ⟨g, cutO c n o, none⟩) (l.drop n) := by
  unfold cutO
  split
  · rw [List.drop_eq_nil_of_le (by omega)]
    exact IsB.nil _ _
  · exact isB_drop h n
set_option maxHeartbeats 1000000 in
theorem cut_v (g o L c n : Nat) (w : World) (hL : L ≤ c) (hc : c ≤ 9223372036854775807) (hn : n ≤ L) :
    Calls Tryd.prog 68 #[.slice (some ⟨g, o, none⟩) L c, .int .u64 (n : Int)] w fun e w' => e = .returned (.tuple #[.slice (some ⟨g, o, none⟩) n n, .slice (some ⟨g, cutO c n o, none⟩) (L - n) (c - n)]) ∧ ∃ m, w' = w.drewN m := by
  have q1 : (n : Int) ≤ (L : Int) := by omega
  have q2 : (n : Int) ≤ (c : Int) := by omega
  have q3 : (L : Int) ≤ (c : Int) := by omega
  have e1 : (L : Int) % 18446744073709551616 = (L : Int) := by omega
  by_cases hcn : c = n
  · have ho : cutO c n o = o := by unfold cutO; rw [if_pos hcn]
    rw [ho]
    subst hcn
    have hz : L - c = 0 := by omega
    rw [hz, Nat.sub_self]
    clear hz
    go_enter Tryd.func68, Tryd.ntmps68
    go_wp2_with (go_at_call 48; go_loud (refine (demand_ok _).mono ?_; rintro e w' ⟨rfl, hw⟩; have hw2 := hw.symm; clear hw; subst hw2))
    go_quiet (fail)
    go_wp2
    go_ret2
    first | exact ⟨rfl, _, rfl⟩ | exact ⟨by simp, _, rfl⟩
  · have ho : cutO c n o = o + n := by unfold cutO; rw [if_neg hcn]
    rw [ho]
    go_enter Tryd.func68, Tryd.ntmps68
    go_wp2_with (go_at_call 48; go_loud (refine (demand_ok _).mono ?_; rintro e w' ⟨rfl, hw⟩; have hw2 := hw.symm; clear hw; subst hw2))
    go_quiet (fail)
    go_wp2
    go_ret2
    first | exact ⟨rfl, _, rfl⟩ | exact ⟨by simp, _, rfl⟩
/-- What split tells. -/
def SpIs (g o ld ib nF fb : Nat) (w : World) (e : Ending) (w' : World) : Prop :=
  e = .returned (.tuple #[.slice (some ⟨g, o, none⟩) ld ld, .slice (some ⟨g, cutO (ld + ib + nF) ld o, none⟩) ib ib, .slice (some ⟨g, cutO (ib + nF) ib (cutO (ld + ib + nF) ld o), none⟩) nF nF, .slice (some ⟨g, o + (ld + ib + nF), none⟩) (fb + 5) (fb + 5)]) ∧ Below w.heap.size w w'
set_option maxHeartbeats 2000000 in
theorem split_ok (g o n : Nat) (ld ib F fb : List Nat) (P Q : Nat) (w : World) (ha : IsB w (some ⟨g, o, none⟩) (ld ++ (ib ++ (F ++ (fb ++ [fb.length % 256] ++ [115, 99, 114, 49]))))) (hn : n = ld.length + ib.length + F.length + fb.length + 5) (hm : n ≤ 1000000000000) (hfb : fb.length < 256) (h1 : rd fb 0 0 = (ld.length, P, 0)) (h2 : rd (fb.drop P) 0 0 = (ib.length, Q, 0)) (hP : P ≤ fb.length) (hQ : P + Q ≤ fb.length) :
    Calls Tryd.prog 44 #[.slice (some ⟨g, o, none⟩) n n] w fun e w' => SpIs g o ld.length ib.length F.length fb.length w e w' := by
  obtain ⟨s, hs⟩ : ∃ s, s = ld.length + ib.length + F.length := ⟨_, rfl⟩
  obtain ⟨E, hE⟩ : ∃ E, E = s + fb.length := ⟨_, rfl⟩
  have hi := ha.1 (by simp)
  obtain ⟨b', o', e', hlt, hrow⟩ := hi
  cases e'
  have hb : w.cell? ⟨g, o + E, none⟩ = some (.int .u8 (fb.length : Int)) := by
    have e9 : ld ++ (ib ++ (F ++ (fb ++ [fb.length % 256] ++ [115, 99, 114, 49]))) = (ld ++ ib ++ F ++ fb) ++ (fb.length % 256 :: [115, 99, 114, 49]) := by simp
    have hl9 : (ld ++ ib ++ F ++ fb).length = E := by simp; omega
    have := hrow E (fb.length % 256) (by
      rw [e9, ← hl9, List.getElem?_append_right (Nat.le_refl _), Nat.sub_self]
      rfl)
    rw [Nat.mod_eq_of_lt hfb] at this
    exact this
  have hif : IsB w (some ⟨g, o + s, none⟩) fb := by
    have h3 := isB_drop ha s
    have e3 : (ld ++ (ib ++ (F ++ (fb ++ [fb.length % 256] ++ [115, 99, 114, 49])))).drop s = fb ++ ([fb.length % 256] ++ [115, 99, 114, 49]) := by
      rw [← List.append_assoc, ← List.append_assoc, List.drop_left' (by simp; omega), List.append_assoc]
    rw [e3] at h3
    have h4 := h3.take fb.length
    rw [List.take_left] at h4
    exact h4
  have HNU : Hid (Calls Tryd.prog 67 #[.slice (some ⟨g, o + s, none⟩) (E - s) (n - s)] w fun e w' => e = .returned (.agg #[.int .u64 (ld.length : Int), .int .u64 (ib.length : Int)]) ∧ Below w.heap.size w w') := numbers_ok (some ⟨g, o + s, none⟩) (n - s) (E - s) fb ld.length P ib.length Q w hif (by omega) (by omega) (by omega) h1 h2 hP hQ
  have q1 : (n : Int) - 5 = (E : Int) := by omega
  have q2 : (E : Int) - (fb.length : Int) = (s : Int) := by omega
  have q3 : (E : Int) < (n : Int) := by omega
  have q4 : (s : Int) ≤ (E : Int) := by omega
  have q5 : (s : Int) ≤ (n : Int) := by omega
  have q6 : ¬ n = s := by omega
  have q7 : (0 : Int) ≤ (s : Int) := by omega
  have q8 : (fb.length : Int) < 256 := by omega
  have HS := Qb.hid (And.intro hn (And.intro hs hE))
  clear ha hrow hif h1 h2 hP hQ hn hs hE
  generalize ld.length = n1 at *
  generalize ib.length = n2 at *
  generalize F.length = n3 at *
  generalize fb.length = n4 at *
  go_enter Tryd.func44, Tryd.ntmps44
  go_wp2_with (first
    | (go_at_call 48; go_loud (refine (demand_ok _).mono ?_; rintro e w' ⟨rfl, hw⟩; have hw2 := hw.symm; clear hw; subst hw2))
    | (go_at_call 67; go_loud (refine HNU.out.mono ?_; rintro e w1 ⟨rfl, hb1⟩; have HB1 := Qb.hid hb1; clear hb1)))
  have hq1 : s ≤ 1000000000000 := by have := HS.out; omega
  have hq2 : n1 ≤ s := by have := HS.out; omega
  have hq3 : n2 ≤ s - n1 := by have := HS.out; omega
  go_quiet ((go_at_call 68; exact Calls.quiet_of (cut_v g o s s n1 _ (Nat.le_refl _) (by omega) hq2)))
  go_wp2_with (go_at_call 68; go_loud (refine (cut_v g (cutO s n1 o) (s - n1) (s - n1) n2 _ (Nat.le_refl _) (by omega) hq3).mono ?_; rintro e w' ⟨rfl, n9, rfl⟩))
  go_quiet (fail)
  go_wp2
  refine bodyPost_ret (v := .tuple #[.slice (some ⟨g, o, none⟩) n1 n1, .slice (some ⟨g, cutO s n1 o, none⟩) n2 n2, .slice (some ⟨g, cutO (s - n1) n2 (cutO s n1 o), none⟩) (s - n1 - n2) (s - n1 - n2), .slice (some ⟨g, o + s, none⟩) (n - s) (n - s)]) (by simp [results, Tryd.results44, go_sem]) rfl ⟨?_, ?_⟩
  · obtain ⟨e1, e2, e3⟩ := HS.out
    rw [show s - n1 - n2 = n3 by omega, show s - n1 = n2 + n3 by omega, show n - s = n4 + 5 by omega, e2]
  · have hsz := HB1.out.size
    repeat' (first | exact HB1.out | refine below_drewN ?_ _ | refine Below.alloc ?_ ?_ _ | omega)

end Tbl
end Go.Proofs.YtnhhalabmmcemaaDoor
namespace Go.Proofs.YtnhhalabmmcemaaDoor
namespace Qe
open Go.RowKit Go.Shelf Laws Irw
set_option linter.unusedVariables false
set_option maxRecDepth 100000
set_option linter.unusedSimpArgs false
variable {α : Type}

/-- A loop over such an iterator: the body is told of its own record (a loop within it wants that). -/
theorem range_eH {F : Fence} {n : Nat} {P : Program} {g : Operand} {ps : Array Tmp} {assign body : Code} {Q : Exit → Act → World → Prop} {a : Act} {w : World}
    (hro : F.round = none) (h1 : 1 ≤ n) {gf : Nat} {lb : Array Value} (hg : a.eval g = .func (.func gf) #[] lb) (hFg : F.fn gf) (eg : ∀ args w, (callFunc gf args).run P w = .ok (.enter gf args) w)
    (u : Nat → Prop) (hu0 : ¬ u 0) (T0 : Nat → Nat) (hz0 : ∀ b, w.heap.size ≤ b → T0 b = 0)
    {enc : α → Array Value} {post : List α} {m : Nat} (hseq : SeqE u F (n - 1) m P gf lb enc post w T0) (hps : ∀ x, (enc x).size = ps.size)
    (I : List α → (Nat → Nat) → World → Prop) (Ix : Code → List α → (Nat → Nat) → World → Prop) (hI : Lasts w.heap.size I) (hIx : ∀ c, Lasts w.heap.size (Ix c)) (h0 : I [] T0 w)
    (As : α → Act → World → World → Prop) (hAs : ∀ e a' W W', As e a' W W' → Below W.heap.size W W')
    (hassign : ∀ (l : Nat) (e : α) (es : List α) T (W : World) (K : Act → World → Prop), I es T W → (∀ a' W', As e a' W W' → K a' W') →
      assign.wpIn (F.inRound l) m P (Exit.then K (fun _ _ _ => False)) { tmps := (ps.zip (enc e)).foldl (fun t (p, v) => t.setIfInBounds p v) a.tmps, defers := [] } W)
    (hbody : ∀ (l : Nat) (e : α) (es : List α) T (a' : Act) (W W' W'' : World), w.heap.size ≤ l → l < W.heap.size → (∃ o : Obj, W'.heap[l]? = some o ∧ o.isCells = false) → I es T W → I es T W'' → (∀ b, W.heap.size ≤ b → T b = 0) → es ++ [e] <+: post → As e a' W W' → W'.grownBy W'' (some l) → (∃ r, W''.heap[l]? = some (.loop r)) → body.wpIn (F.inRound l) m P (eachPostE u w.heap.size I Ix (es ++ [e]) T W'') a' W'')
    (hdone : ∀ (D : Nat) T (W : World), w.heap.size ≤ D → I post T W → W.heap[D]? = some (.deferred (some [])) → Q .normal { a with defers := { target := .collected D, args := #[] } :: a.defers } W)
    (hstop : ∀ (D : Nat) (c : Code) (es : List α) T (W : World), w.heap.size ≤ D → es <+: post → Ix c es T W → W.heap[D]? = some (.deferred (some [])) → c.wpIn F n P Q { a with defers := { target := .collected D, args := #[] } :: a.defers } W) :
    (Code.rangeFunc g ps assign body).wpIn F n P Q a w := by
  refine wpIn_rangeFunc ?_
  intro fn hfn
  rw [hro]
  obtain ⟨rc, hrc⟩ : ∃ rc : LoopState → Option Code → Loop, rc = fun st pe => { state := st, pending := pe, fn, tmps := a.tmps, params := ps, assign, body, defers := w.heap.size } := ⟨_, rfl⟩
  obtain ⟨W1, hW1⟩ : ∃ W1, (w.alloc (.deferred (some []))).alloc (.loop (rc .ready none)) = W1 := ⟨_, rfl⟩
  have hs1 : W1.heap.size = w.heap.size + 2 := by rw [← hW1]; simp
  have hb1 : Below w.heap.size w W1 := by rw [← hW1]; exact ((Below.refl _ w).alloc (Nat.le_refl _) _).alloc (by simp) _
  have hL1 : W1.heap[w.heap.size + 1]? = some (.loop (rc .ready none)) := by
    rw [← hW1]; have := World.alloc_heap_new (w.alloc (.deferred (some []))) (.loop (rc .ready none)); rwa [World.size_alloc] at this
  have hD1 : W1.heap[w.heap.size]? = some (.deferred (some [])) := by
    rw [← hW1]; exact (Below.heap_alloc _ _ _ (by simp)).trans (World.alloc_heap_new w _)
  refine ⟨w.heap.size + 1, [{ target := .collected w.heap.size, args := #[] }], W1, { target := .fn (.func gf) lb, args := #[.func (.yield (w.heap.size + 1)) #[] #[]] }, W1, gf,
    #[.func (.yield (w.heap.size + 1)) #[] #[]] ++ lb, W1, ?_, ?_, ?_, ?_, fun _ => h1, ?_⟩
  · rw [← hW1, hrc]; exact run_enterLoop_outer _ _ _ _ _
  · simp only [resolve, hg]
    simp [go_sem]
  · intro f' hf'; simp [Target.leads] at hf'; subst hf'; exact hFg
  · simp [invoke, go_sem, eg]
  · refine (hseq (w.heap.size + 1) W1
      (fun es T W => I es T W ∧ W.heap[w.heap.size + 1]? = some (.loop (rc .ready none)) ∧ W.heap[w.heap.size]? = some (.deferred (some [])) ∧ T (w.heap.size + 1) = 0)
      (fun es T W => ∃ c, Ix c es T W ∧ W.heap[w.heap.size + 1]? = some (.loop (rc .done (some c))) ∧ W.heap[w.heap.size]? = some (.deferred (some []))) hb1 ?_ ?_ ?_ ?_).mono ?_
    · rintro es T A C row ⟨h2, h3, h4, h5⟩ hgr hr
      have hk : ∀ b, b < W1.heap.size → ∀ o, A.heap[b]? = some o → C.heap[b]? = some o := fun b hb o ho => (hgr.block b (Array.getElem?_eq_some_iff.1 ho).1 (fun e => by have := (hr b e.symm).1; omega)).trans ho
      exact ⟨hI es T A C row h2 hgr (fun r e => ⟨by have := (hr r e).1; omega, (hr r e).2⟩), hk _ (by omega) _ h3, hk _ (by omega) _ h4, h5⟩
    · rintro es T A C row ⟨c, h2, h3, h4⟩ hgr hr
      have hk : ∀ b, b < W1.heap.size → ∀ o, A.heap[b]? = some o → C.heap[b]? = some o := fun b hb o ho => (hgr.block b (Array.getElem?_eq_some_iff.1 ho).1 (fun e => by have := (hr b e.symm).1; omega)).trans ho
      exact ⟨c, hIx _ es T A C row h2 hgr (fun r e => ⟨by have := (hr r e).1; omega, (hr r e).2⟩), hk _ (by omega) _ h3, hk _ (by omega) _ h4⟩
    · exact ⟨hI [] T0 w W1 none h0 ⟨hb1.os, hb1.tape, hb1.output, hb1.size, fun b hb _ => hb1.block b hb⟩ (fun r e => by cases e), hL1, hD1, hz0 _ (by omega)⟩
    · rintro es e T W ⟨hi, hl, hd, hTl⟩ hzW hN
      have hlt : w.heap.size + 1 < W.heap.size := (Array.getElem?_eq_some_iff.1 hl).1
      have hy := run_yield (P := P) (args := enc e) hl (by rw [hrc]; exact hps e)
      rw [hrc] at hy
      refine ⟨fn, _, assign, body, hy, roundIn_of_wpIn hfn (hassign _ e es T W _ hi fun a' W' has => ?_)⟩
      have hb2 := hAs e a' W W' has
      have hl' : W'.heap[w.heap.size + 1]? = some (.loop (rc .ready none)) := (hb2.block _ hlt).trans hl
      have hd' : W'.heap[w.heap.size]? = some (.deferred (some [])) := (hb2.block _ (by omega)).trans hd
      refine ⟨_, run_beginRound hl' (by rw [hrc]), ?_⟩
      have hlt' : w.heap.size + 1 < W'.heap.size := (Array.getElem?_eq_some_iff.1 hl').1
      have hi' : I es T W' := hI es T W W' none hi ⟨hb2.os, hb2.tape, hb2.output, hb2.size, fun b hb _ => hb2.block b hb⟩ (fun r e => by cases e)
      have hi'' : I es T (W'.putObj (w.heap.size + 1) (.loop { rc .ready none with state := .busy })) := hI es T W' _ (some (w.heap.size + 1)) hi' (grownBy_putObj' _ _ _) (fun r e => by cases e; exact ⟨by omega, _, hl', rfl⟩)
      refine wpIn_mono (hbody (w.heap.size + 1) e es T a' W W' _ (by omega) hlt ⟨_, hl', rfl⟩ hi hi'' hzW hN has (grownBy_putObj' _ _ _) ⟨_, World.putObj_heap_same hlt'⟩) ?_
      rintro ex a3 W3 hp
      have hlb : (W'.putObj (w.heap.size + 1) (.loop { rc .ready none with state := .busy })).heap[w.heap.size + 1]? = some (.loop { rc .ready none with state := .busy }) := World.putObj_heap_same hlt'
      have hdb : (W'.putObj (w.heap.size + 1) (.loop { rc .ready none with state := .busy })).heap[w.heap.size]? = some (.deferred (some [])) := (World.putObj_heap_other (by omega)).trans hd'
      have hoth : ∀ b, b ≠ w.heap.size + 1 → (W'.putObj (w.heap.size + 1) (.loop { rc .ready none with state := .busy })).heap[b]? = W'.heap[b]? := fun b hb => World.putObj_heap_other hb
      have hsz : (W'.putObj (w.heap.size + 1) (.loop { rc .ready none with state := .busy })).heap.size = W'.heap.size := by simp
      have hos : (W'.putObj (w.heap.size + 1) (.loop { rc .ready none with state := .busy })).os = W'.os ∧ (W'.putObj (w.heap.size + 1) (.loop { rc .ready none with state := .busy })).tape = W'.tape ∧ (W'.putObj (w.heap.size + 1) (.loop { rc .ready none with state := .busy })).output = W'.output := ⟨rfl, rfl, rfl⟩
      generalize W'.putObj (w.heap.size + 1) (.loop { rc .ready none with state := .busy }) = Wb at *
      cases ex with
      | normal =>
        obtain ⟨T3, p1, p2, p3, p4⟩ := hp
        have hl3 : W3.heap[w.heap.size + 1]? = some (.loop { rc .ready none with state := .busy }) := p4.same _ _ (by omega) hlb rfl
        have hd3 : W3.heap[w.heap.size]? = some (.deferred (some [])) := p4.same _ _ (Nat.le_refl _) hdb rfl
        have hr3 := run_endRound (P := P) none hl3
        have hlt3 : w.heap.size + 1 < W3.heap.size := (Array.getElem?_eq_some_iff.1 hl3).1
        have hTl3 : T3 (w.heap.size + 1) = 0 := (p2.tag _ (by omega) (by rw [hTl]; exact hu0)).trans hTl
        have hs4 := p4.size
        have hs2 := hb2.size
        refine ⟨_, _, hr3, true, rfl, T3, ⟨by simp; omega, fun kk o hB hk ho => ?_⟩, fun _ => ⟨⟨hI _ T3 W3 _ (some (w.heap.size + 1)) p1 (grownBy_putObj' _ _ _) (fun r e => by cases e; exact ⟨by omega, _, hl3, rfl⟩), ?_, ?_, hTl3⟩, ⟨?_, ?_, ?_, by simp; omega, fun b hb hu => ?_, fun b hb hu => ?_, fun b hb h00 => ?_⟩, fun b hb => p3 b (by simpa using hb)⟩, (fun h => by cases h)⟩
        · rw [World.putObj_heap_other (by omega)]
          exact p4.same kk o (by omega) ((hoth kk (by omega)).trans ((hb2.block kk (Array.getElem?_eq_some_iff.1 hk).1).trans hk)) ho
        · rw [World.putObj_heap_same hlt3, hrc]; rfl
        · rw [World.putObj_heap_other (by omega)]; exact hd3
        · show W3.os = W.os
          rw [p2.os, hos.1, hb2.os]
        · show W3.tape = W.tape
          rw [p2.tape, hos.2.1, hb2.tape]
        · show W3.output = W.output
          rw [p2.output, hos.2.2, hb2.output]
        · by_cases hbl : b = w.heap.size + 1
          · subst hbl
            rw [World.putObj_heap_same hlt3, hl, hrc]; rfl
          · rw [World.putObj_heap_other hbl, p2.block b (by omega) hu, hoth b hbl]
            exact hb2.block b hb
        · exact p2.tag b (by omega) hu
        · exact p3 b (by simpa using hb)
      | ret =>
        obtain ⟨T3, p1, p4⟩ := hp
        have hl3 : W3.heap[w.heap.size + 1]? = some (.loop { rc .ready none with state := .busy }) := p4.same _ _ (by omega) hlb rfl
        have hd3 : W3.heap[w.heap.size]? = some (.deferred (some [])) := p4.same _ _ (Nat.le_refl _) hdb rfl
        have hr3 := run_endRound (P := P) (some .ret) hl3
        have hlt3 : w.heap.size + 1 < W3.heap.size := (Array.getElem?_eq_some_iff.1 hl3).1
        have hs4 := p4.size
        have hs2 := hb2.size
        refine ⟨_, _, hr3, false, rfl, T3, ⟨by simp; omega, fun kk o hB hk ho => ?_⟩, (fun h => by cases h), fun _ => ⟨.ret, hIx _ _ T3 W3 _ (some (w.heap.size + 1)) p1 (grownBy_putObj' _ _ _) (fun r e => by cases e; exact ⟨by omega, _, hl3, rfl⟩), ?_, ?_⟩⟩
        · rw [World.putObj_heap_other (by omega)]
          exact p4.same kk o (by omega) ((hoth kk (by omega)).trans ((hb2.block kk (Array.getElem?_eq_some_iff.1 hk).1).trans hk)) ho
        · rw [World.putObj_heap_same hlt3, hrc]; rfl
        · rw [World.putObj_heap_other (by omega)]; exact hd3
      | exit id =>
        obtain ⟨T3, p1, p4⟩ := hp
        have hl3 : W3.heap[w.heap.size + 1]? = some (.loop { rc .ready none with state := .busy }) := p4.same _ _ (by omega) hlb rfl
        have hd3 : W3.heap[w.heap.size]? = some (.deferred (some [])) := p4.same _ _ (Nat.le_refl _) hdb rfl
        have hr3 := run_endRound (P := P) (some (.exit id)) hl3
        have hlt3 : w.heap.size + 1 < W3.heap.size := (Array.getElem?_eq_some_iff.1 hl3).1
        have hs4 := p4.size
        have hs2 := hb2.size
        refine ⟨_, _, hr3, false, rfl, T3, ⟨by simp; omega, fun kk o hB hk ho => ?_⟩, (fun h => by cases h), fun _ => ⟨.exit id, hIx _ _ T3 W3 _ (some (w.heap.size + 1)) p1 (grownBy_putObj' _ _ _) (fun r e => by cases e; exact ⟨by omega, _, hl3, rfl⟩), ?_, ?_⟩⟩
        · rw [World.putObj_heap_other (by omega)]
          exact p4.same kk o (by omega) ((hoth kk (by omega)).trans ((hb2.block kk (Array.getElem?_eq_some_iff.1 hk).1).trans hk)) ho
        · rw [World.putObj_heap_same hlt3, hrc]; rfl
        · rw [World.putObj_heap_other (by omega)]; exact hd3
      | goto t => exact hp.elim
      | panic ch => exact hp.elim
      | outgrown => exact hp.elim
    · rintro e W2 ⟨⟨v, rfl⟩, (⟨T', hi, hl, hd, _⟩ | ⟨es, T', hpre, c, hix, hl, hd⟩)⟩
      · refine ⟨none, _, by have := run_endLoop (P := P) hl (by rw [hrc]; simp); rw [hrc] at this; exact this, hdone _ T' _ (Nat.le_refl _) (hI _ T' W2 _ (some (w.heap.size + 1)) hi (grownBy_putObj' _ _ _) (fun r e => by cases e; exact ⟨by omega, _, hl, rfl⟩)) ((World.putObj_heap_other (by omega)).trans hd)⟩
      · refine ⟨some c, _, by have := run_endLoop (P := P) hl (by rw [hrc]; simp); rw [hrc] at this; exact this, hstop _ c es T' _ (Nat.le_refl _) hpre (hIx _ _ T' W2 _ (some (w.heap.size + 1)) hix (grownBy_putObj' _ _ _) (fun r e => by cases e; exact ⟨by omega, _, hl, rfl⟩)) ((World.putObj_heap_other (by omega)).trans hd)⟩

/-- The same within a round of another loop: one block is laid, no mark is left. -/
theorem range_n {F : Fence} {n : Nat} {P : Program} {g : Operand} {ps : Array Tmp} {assign body : Code} {Q : Exit → Act → World → Prop} {a : Act} {w : World}
    {l₀ : Nat} {r₀ : Loop} (hro : F.round = some l₀) (hl₀ : w.heap[l₀]? = some (.loop r₀)) (h1 : 1 ≤ n) {gf : Nat} {lb : Array Value} (hg : a.eval g = .func (.func gf) #[] lb) (hFg : F.fn gf) (eg : ∀ args w, (callFunc gf args).run P w = .ok (.enter gf args) w)
    (u : Nat → Prop) (hu0 : ¬ u 0) (T0 : Nat → Nat) (hz0 : ∀ b, w.heap.size ≤ b → T0 b = 0)
    {enc : α → Array Value} {post : List α} {m : Nat} (hseq : SeqE u F (n - 1) m P gf lb enc post w T0) (hps : ∀ x, (enc x).size = ps.size)
    (I : List α → (Nat → Nat) → World → Prop) (Ix : Code → List α → (Nat → Nat) → World → Prop) (hI : Lasts w.heap.size I) (hIx : ∀ c, Lasts w.heap.size (Ix c)) (h0 : I [] T0 w)
    (As : α → Act → World → World → Prop) (hAs : ∀ e a' W W', As e a' W W' → Below W.heap.size W W')
    (hassign : ∀ (l : Nat) (e : α) (es : List α) T (W : World) (K : Act → World → Prop), I es T W → (∀ a' W', As e a' W W' → K a' W') →
      assign.wpIn (F.inRound l) m P (Exit.then K (fun _ _ _ => False)) { tmps := (ps.zip (enc e)).foldl (fun t (p, v) => t.setIfInBounds p v) a.tmps, defers := [] } W)
    (hbody : ∀ (l : Nat) (e : α) (es : List α) T (a' : Act) (W W' W'' : World), w.heap.size ≤ l → l < W.heap.size → (∃ o : Obj, W'.heap[l]? = some o ∧ o.isCells = false) → I es T W → I es T W'' → (∀ b, W.heap.size ≤ b → T b = 0) → es ++ [e] <+: post → As e a' W W' → W'.grownBy W'' (some l) → body.wpIn (F.inRound l) m P (eachPostE u w.heap.size I Ix (es ++ [e]) T W'') a' W'')
    (hdone : ∀ T (W : World), I post T W → Q .normal a W)
    (hstop : ∀ (c : Code) (es : List α) T (W : World), es <+: post → Ix c es T W → c.wpIn F n P Q a W) :
    (Code.rangeFunc g ps assign body).wpIn F n P Q a w := by
  refine wpIn_rangeFunc ?_
  intro fn hfn
  rw [hro]
  obtain ⟨rc, hrc⟩ : ∃ rc : LoopState → Option Code → Loop, rc = fun st pe => { state := st, pending := pe, fn, tmps := a.tmps, params := ps, assign, body, defers := r₀.defers } := ⟨_, rfl⟩
  obtain ⟨W1, hW1⟩ : ∃ W1, w.alloc (.loop (rc .ready none)) = W1 := ⟨_, rfl⟩
  have hs1 : W1.heap.size = w.heap.size + 1 := by rw [← hW1]; simp
  have hb1 : Below w.heap.size w W1 := by rw [← hW1]; exact (Below.refl _ w).alloc (Nat.le_refl _) _
  have hL1 : W1.heap[w.heap.size]? = some (.loop (rc .ready none)) := by rw [← hW1]; exact World.alloc_heap_new w _
  refine ⟨w.heap.size, [], W1, { target := .fn (.func gf) lb, args := #[.func (.yield (w.heap.size)) #[] #[]] }, W1, gf,
    #[.func (.yield (w.heap.size)) #[] #[]] ++ lb, W1, ?_, ?_, ?_, ?_, fun _ => h1, ?_⟩
  · rw [← hW1, hrc]; exact run_enterLoop_inner hl₀ _ _ _ _ _
  · simp only [resolve, hg]
    simp [go_sem]
  · intro f' hf'; simp [Target.leads] at hf'; subst hf'; exact hFg
  · simp [invoke, go_sem, eg]
  · refine (hseq (w.heap.size) W1
      (fun es T W => I es T W ∧ W.heap[w.heap.size]? = some (.loop (rc .ready none)) ∧ T (w.heap.size) = 0)
      (fun es T W => ∃ c, Ix c es T W ∧ W.heap[w.heap.size]? = some (.loop (rc .done (some c)))) hb1 ?_ ?_ ?_ ?_).mono ?_
    · rintro es T A C row ⟨h2, h3, h5⟩ hgr hr
      have hk : ∀ b, b < W1.heap.size → ∀ o, A.heap[b]? = some o → C.heap[b]? = some o := fun b hb o ho => (hgr.block b (Array.getElem?_eq_some_iff.1 ho).1 (fun e => by have := (hr b e.symm).1; omega)).trans ho
      exact ⟨hI es T A C row h2 hgr (fun r e => ⟨by have := (hr r e).1; omega, (hr r e).2⟩), hk _ (by omega) _ h3, h5⟩
    · rintro es T A C row ⟨c, h2, h3⟩ hgr hr
      have hk : ∀ b, b < W1.heap.size → ∀ o, A.heap[b]? = some o → C.heap[b]? = some o := fun b hb o ho => (hgr.block b (Array.getElem?_eq_some_iff.1 ho).1 (fun e => by have := (hr b e.symm).1; omega)).trans ho
      exact ⟨c, hIx _ es T A C row h2 hgr (fun r e => ⟨by have := (hr r e).1; omega, (hr r e).2⟩), hk _ (by omega) _ h3⟩
    · exact ⟨hI [] T0 w W1 none h0 ⟨hb1.os, hb1.tape, hb1.output, hb1.size, fun b hb _ => hb1.block b hb⟩ (fun r e => by cases e), hL1, hz0 _ (Nat.le_refl _)⟩
    · rintro es e T W ⟨hi, hl, hTl⟩ hzW hN
      have hlt : w.heap.size < W.heap.size := (Array.getElem?_eq_some_iff.1 hl).1
      have hy := run_yield (P := P) (args := enc e) hl (by rw [hrc]; exact hps e)
      rw [hrc] at hy
      refine ⟨fn, _, assign, body, hy, roundIn_of_wpIn hfn (hassign _ e es T W _ hi fun a' W' has => ?_)⟩
      have hb2 := hAs e a' W W' has
      have hl' : W'.heap[w.heap.size]? = some (.loop (rc .ready none)) := (hb2.block _ hlt).trans hl
      refine ⟨_, run_beginRound hl' (by rw [hrc]), ?_⟩
      have hlt' : w.heap.size < W'.heap.size := (Array.getElem?_eq_some_iff.1 hl').1
      have hi' : I es T W' := hI es T W W' none hi ⟨hb2.os, hb2.tape, hb2.output, hb2.size, fun b hb _ => hb2.block b hb⟩ (fun r e => by cases e)
      have hi'' : I es T (W'.putObj (w.heap.size) (.loop { rc .ready none with state := .busy })) := hI es T W' _ (some (w.heap.size)) hi' (grownBy_putObj' _ _ _) (fun r e => by cases e; exact ⟨by omega, _, hl', rfl⟩)
      refine wpIn_mono (hbody (w.heap.size) e es T a' W W' _ (by omega) hlt ⟨_, hl', rfl⟩ hi hi'' hzW hN has (grownBy_putObj' _ _ _)) ?_
      rintro ex a3 W3 hp
      have hlb : (W'.putObj (w.heap.size) (.loop { rc .ready none with state := .busy })).heap[w.heap.size]? = some (.loop { rc .ready none with state := .busy }) := World.putObj_heap_same hlt'
      have hoth : ∀ b, b ≠ w.heap.size → (W'.putObj (w.heap.size) (.loop { rc .ready none with state := .busy })).heap[b]? = W'.heap[b]? := fun b hb => World.putObj_heap_other hb
      have hsz : (W'.putObj (w.heap.size) (.loop { rc .ready none with state := .busy })).heap.size = W'.heap.size := by simp
      have hos : (W'.putObj (w.heap.size) (.loop { rc .ready none with state := .busy })).os = W'.os ∧ (W'.putObj (w.heap.size) (.loop { rc .ready none with state := .busy })).tape = W'.tape ∧ (W'.putObj (w.heap.size) (.loop { rc .ready none with state := .busy })).output = W'.output := ⟨rfl, rfl, rfl⟩
      generalize W'.putObj (w.heap.size) (.loop { rc .ready none with state := .busy }) = Wb at *
      cases ex with
      | normal =>
        obtain ⟨T3, p1, p2, p3, p4⟩ := hp
        have hl3 : W3.heap[w.heap.size]? = some (.loop { rc .ready none with state := .busy }) := p4.same _ _ (by omega) hlb rfl
        have hr3 := run_endRound (P := P) none hl3
        have hlt3 : w.heap.size < W3.heap.size := (Array.getElem?_eq_some_iff.1 hl3).1
        have hTl3 : T3 (w.heap.size) = 0 := (p2.tag _ (by omega) (by rw [hTl]; exact hu0)).trans hTl
        have hs4 := p4.size
        have hs2 := hb2.size
        refine ⟨_, _, hr3, true, rfl, T3, ⟨by simp; omega, fun kk o hB hk ho => ?_⟩, fun _ => ⟨⟨hI _ T3 W3 _ (some (w.heap.size)) p1 (grownBy_putObj' _ _ _) (fun r e => by cases e; exact ⟨by omega, _, hl3, rfl⟩), ?_, hTl3⟩, ⟨?_, ?_, ?_, by simp; omega, fun b hb hu => ?_, fun b hb hu => ?_, fun b hb h00 => ?_⟩, fun b hb => p3 b (by simpa using hb)⟩, (fun h => by cases h)⟩
        · rw [World.putObj_heap_other (by omega)]
          exact p4.same kk o (by omega) ((hoth kk (by omega)).trans ((hb2.block kk (Array.getElem?_eq_some_iff.1 hk).1).trans hk)) ho
        · rw [World.putObj_heap_same hlt3, hrc]; rfl
        · show W3.os = W.os
          rw [p2.os, hos.1, hb2.os]
        · show W3.tape = W.tape
          rw [p2.tape, hos.2.1, hb2.tape]
        · show W3.output = W.output
          rw [p2.output, hos.2.2, hb2.output]
        · by_cases hbl : b = w.heap.size
          · subst hbl
            rw [World.putObj_heap_same hlt3, hl, hrc]; rfl
          · rw [World.putObj_heap_other hbl, p2.block b (by omega) hu, hoth b hbl]
            exact hb2.block b hb
        · exact p2.tag b (by omega) hu
        · exact p3 b (by simpa using hb)
      | ret =>
        obtain ⟨T3, p1, p4⟩ := hp
        have hl3 : W3.heap[w.heap.size]? = some (.loop { rc .ready none with state := .busy }) := p4.same _ _ (by omega) hlb rfl
        have hr3 := run_endRound (P := P) (some .ret) hl3
        have hlt3 : w.heap.size < W3.heap.size := (Array.getElem?_eq_some_iff.1 hl3).1
        have hs4 := p4.size
        have hs2 := hb2.size
        refine ⟨_, _, hr3, false, rfl, T3, ⟨by simp; omega, fun kk o hB hk ho => ?_⟩, (fun h => by cases h), fun _ => ⟨.ret, hIx _ _ T3 W3 _ (some (w.heap.size)) p1 (grownBy_putObj' _ _ _) (fun r e => by cases e; exact ⟨by omega, _, hl3, rfl⟩), ?_⟩⟩
        · rw [World.putObj_heap_other (by omega)]
          exact p4.same kk o (by omega) ((hoth kk (by omega)).trans ((hb2.block kk (Array.getElem?_eq_some_iff.1 hk).1).trans hk)) ho
        · rw [World.putObj_heap_same hlt3, hrc]; rfl
      | exit id =>
        obtain ⟨T3, p1, p4⟩ := hp
        have hl3 : W3.heap[w.heap.size]? = some (.loop { rc .ready none with state := .busy }) := p4.same _ _ (by omega) hlb rfl
        have hr3 := run_endRound (P := P) (some (.exit id)) hl3
        have hlt3 : w.heap.size < W3.heap.size := (Array.getElem?_eq_some_iff.1 hl3).1
        have hs4 := p4.size
        have hs2 := hb2.size
        refine ⟨_, _, hr3, false, rfl, T3, ⟨by simp; omega, fun kk o hB hk ho => ?_⟩, (fun h => by cases h), fun _ => ⟨.exit id, hIx _ _ T3 W3 _ (some (w.heap.size)) p1 (grownBy_putObj' _ _ _) (fun r e => by cases e; exact ⟨by omega, _, hl3, rfl⟩), ?_⟩⟩
        · rw [World.putObj_heap_other (by omega)]
          exact p4.same kk o (by omega) ((hoth kk (by omega)).trans ((hb2.block kk (Array.getElem?_eq_some_iff.1 hk).1).trans hk)) ho
        · rw [World.putObj_heap_same hlt3, hrc]; rfl
      | goto t => exact hp.elim
      | panic ch => exact hp.elim
      | outgrown => exact hp.elim
    · rintro e W2 ⟨⟨v, rfl⟩, (⟨T', hi, hl, _⟩ | ⟨es, T', hpre, c, hix, hl⟩)⟩
      · refine ⟨none, _, by have := run_endLoop (P := P) hl (by rw [hrc]; simp); rw [hrc] at this; exact this, hdone T' _ (hI _ T' W2 _ (some (w.heap.size)) hi (grownBy_putObj' _ _ _) (fun r e => by cases e; exact ⟨by omega, _, hl, rfl⟩))⟩
      · refine ⟨some c, _, by have := run_endLoop (P := P) hl (by rw [hrc]; simp); rw [hrc] at this; exact this, hstop c es T' _ hpre (hIx _ _ T' W2 _ (some (w.heap.size)) hix (grownBy_putObj' _ _ _) (fun r e => by cases e; exact ⟨by omega, _, hl, rfl⟩))⟩
end Qe
end Go.Proofs.YtnhhalabmmcemaaDoor
namespace Go.Proofs.YtnhhalabmmcemaaDoor
namespace Qe
open Go.RowKit Go.Shelf Laws Irw
set_option linter.unusedVariables false
set_option maxRecDepth 100000
set_option linter.unusedSimpArgs false
variable {α : Type}
/-- a loop variable that is boxed -/
def AsB (ps : Array Tmp) (enc : α → Array Value) (q : Tmp) (cl : α → Array Value) (ty : TypeId) (a : Act) (e : α) (a' : Act) (W W' : World) : Prop :=
  W' = W.alloc (.cells (cl e) ty) ∧ a' = { tmps := ((ps.zip (enc e)).foldl (fun t (p, v) => t.setIfInBounds p v) a.tmps).setIfInBounds q (.pointer (some ⟨W.heap.size, 0, none⟩)), defers := [] }
theorem range_eB {F : Fence} {n : Nat} {P : Program} {g : Operand} {ps : Array Tmp} {assign body : Code} {Q : Exit → Act → World → Prop} {a : Act} {w : World}
    (hro : F.round = none) (h1 : 1 ≤ n) {gf : Nat} {lb : Array Value} (hg : a.eval g = .func (.func gf) #[] lb) (hFg : F.fn gf) (eg : ∀ args w, (callFunc gf args).run P w = .ok (.enter gf args) w)
    (u : Nat → Prop) (hu0 : ¬ u 0) (T0 : Nat → Nat) (hz0 : ∀ b, w.heap.size ≤ b → T0 b = 0)
    {enc : α → Array Value} {post : List α} {m : Nat} (hseq : SeqE u F (n - 1) m P gf lb enc post w T0) (hps : ∀ x, (enc x).size = ps.size)
    (I : List α → (Nat → Nat) → World → Prop) (Ix : Code → List α → (Nat → Nat) → World → Prop) (hI : Lasts w.heap.size I) (hIx : ∀ c, Lasts w.heap.size (Ix c)) (h0 : I [] T0 w)
    (q : Tmp) (cl : α → Array Value) (ty : TypeId)
    (hassign : ∀ (l : Nat) (e : α) (es : List α) T (W : World) (K : Act → World → Prop), I es T W → (∀ a' W', AsB ps enc q cl ty a e a' W W' → K a' W') →
      assign.wpIn (F.inRound l) m P (Exit.then K (fun _ _ _ => False)) { tmps := (ps.zip (enc e)).foldl (fun t (p, v) => t.setIfInBounds p v) a.tmps, defers := [] } W)
    (hbody : ∀ (l : Nat) (e : α) (es : List α) T (a' : Act) (W W' W'' : World), w.heap.size ≤ l → l < W.heap.size → (∃ o : Obj, W'.heap[l]? = some o ∧ o.isCells = false) → I es T W → I es T W'' → (∀ b, W.heap.size ≤ b → T b = 0) → es ++ [e] <+: post → AsB ps enc q cl ty a e a' W W' → W'.grownBy W'' (some l) → (∃ r, W''.heap[l]? = some (.loop r)) → body.wpIn (F.inRound l) m P (eachPostE u w.heap.size I Ix (es ++ [e]) T W'') a' W'')
    (hdone : ∀ (D : Nat) T (W : World), w.heap.size ≤ D → I post T W → W.heap[D]? = some (.deferred (some [])) → Q .normal { a with defers := { target := .collected D, args := #[] } :: a.defers } W)
    (hstop : ∀ (D : Nat) (c : Code) (es : List α) T (W : World), w.heap.size ≤ D → es <+: post → Ix c es T W → W.heap[D]? = some (.deferred (some [])) → c.wpIn F n P Q { a with defers := { target := .collected D, args := #[] } :: a.defers } W) :
    (Code.rangeFunc g ps assign body).wpIn F n P Q a w :=
  range_eH hro h1 hg hFg eg u hu0 T0 hz0 hseq hps I Ix hI hIx h0 (AsB ps enc q cl ty a) (fun e a' W W' h => by rw [h.1]; exact (Below.refl _ _).alloc (Nat.le_refl _) _) hassign hbody hdone hstop
end Qe
namespace Tbl
open Go.RowKit Go.Shelf CMath Byt Laws Irw Crw Cod Qb Qe
set_option linter.unusedVariables false
set_option linter.unusedSimpArgs false
set_option maxRecDepth 100000
attribute [local go_sem] Oper.semAt_some

/-- A part as it lies in a row: the greatest key, and where the block is. -/
def kP : Knd (ByteArray × Nat) := ⟨71, 2, 24, .agg #[.string ⟨#[]⟩, .pointer none], fun x => [.string x.1, .pointer (some ⟨x.2, 3, none⟩)], fun _ => rfl, fun x u hu => by simp at hu; rcases hu with rfl | rfl <;> rfl, by omega, rfl, by omega⟩
theorem infoP : (Tryd.prog.info? 71).map (fun i => (i.zero, i.size, i.bytes)) = some (some kP.zero, 2, 24) := by kernel_rfl
theorem obj_set {W : World} {b j : Nat} {v : Value} {cs : Array Value} {ty : TypeId} (h : W.heap[b]? = some (.cells cs ty)) : (W.setCell ⟨b, j, none⟩ v).heap[b]? = some (.cells (cs.setIfInBounds j v) ty) := by
  simp only [World.setCell, Array.getElem?_modify, if_true, h, Option.map_some]
  rfl
/-- The cells of a table. -/
def tcs (pv fv : Value) (m : Mt) : Array Value := #[pv, fv, .int .u64 0, .int .i64 m.wt, .int .i64 m.by_, .int .i64 (m.n : Int), .string m.lo, .string m.hi]
def ut (t : Nat) (x : Nat) : Prop := x = t ∨ x = 5
/-- What stands while a block is read. -/
structure Rb (w : World) (T0 : Nat → Nat) (t B Pb Bx K : Nat) (pv fv : Value) (m : Mt) (g : ByteArray) (T : Nat → Nat) (W : World) : Prop where
  tb : W.heap[B]? = some (.cells (tcs pv fv m) 63)
  pb : W.heap[Pb]? = some (.cells #[.string g, .pointer (some ⟨K, 3, none⟩)] 71)
  bx : W.heap[Bx]? = some (.cells #[.pointer (some ⟨B, 0, none⟩)] 34)
  go : Goes (ut t) T0 w T W
  tB : T B = t
  tP : T Pb = 5
  tX : T Bx = 0
  hi : ∀ b, W.heap.size ≤ b → T b = 0
  nc : NC T W
theorem obj_grown {A C : World} {row : Option Nat} (hg : A.grownBy C row) (hr : ∀ x, row = some x → ∃ o : Obj, A.heap[x]? = some o ∧ o.isCells = false) {b : Nat} {cs : Array Value} {ty : TypeId} (h : A.heap[b]? = some (.cells cs ty)) : C.heap[b]? = some (.cells cs ty) :=
  (hg.block b (Array.getElem?_eq_some_iff.1 h).1 (fun e => by
    obtain ⟨o, h1, h2⟩ := hr b e.symm
    rw [h1] at h; cases h; cases h2)).trans h
theorem goes_grown {u : Nat → Prop} {T0 T : Nat → Nat} {w A C : World} {row : Option Nat} (h : Goes u T0 w T A) (hg : A.grownBy C row) (hr : ∀ x, row = some x → w.heap.size ≤ x) : Goes u T0 w T C :=
  ⟨hg.os.trans h.os, hg.tape.trans h.tape, hg.output.trans h.output, Nat.le_trans h.size hg.size, fun b hb hu => (hg.block b (Nat.lt_of_lt_of_le hb h.size) (fun e => by have := hr b e.symm; omega)).trans (h.block b hb hu), h.tag, fun b hb h0 => h.high b (Nat.le_trans hg.size hb) h0⟩
theorem Rb.lasts {w : World} {T0 : Nat → Nat} {t B Pb Bx K : Nat} {pv fv : Value} {α : Type} (f : List α → Mt) (g : List α → ByteArray) {N : Nat} (hN : w.heap.size ≤ N) : Lasts N (fun es T W => Rb w T0 t B Pb Bx K pv fv (f es) (g es) T W) := by
  rintro es T A C row h hg hr
  have hr2 : ∀ x, row = some x → ∃ o : Obj, A.heap[x]? = some o ∧ o.isCells = false := fun x e => (hr x e).2
  exact ⟨obj_grown hg hr2 h.tb, obj_grown hg hr2 h.pb, obj_grown hg hr2 h.bx, goes_grown h.go hg (fun x e => Nat.le_trans hN (hr x e).1), h.tB, h.tP, h.tX, fun b hb => h.hi b (Nat.le_trans hg.size hb), h.nc.grown h.hi hg hr2⟩

theorem BlkAt.fresh {base : Nat} {u : Nat → Prop} {T : Nat → Nat} {w : World} {K o : Nat} {eb pb : List Nat} (h : BlkF base w K o eb pb) (hu : ∀ b, base ≤ b → b < w.heap.size → ¬ u (T b)) : BlkAt u T w K o eb pb := by
  obtain ⟨a, c, h1, h2, h3, h4, h5⟩ := h.ent
  obtain ⟨a', c', k1, k2, k3, k4, k5⟩ := h.pla
  have ht : base ≤ K := Nat.le_of_not_lt h.tag
  refine ⟨h.lt, hu _ ht h.lt, ⟨a, c, h1, h2, h3, h4, fun b off e hne => ?_⟩, ⟨a', c', k1, k2, k3, k4, fun b off e hne => ?_⟩⟩
  · obtain ⟨b', off', e', hr⟩ := h2.1 hne
    rw [e] at e'; cases e'
    exact hu _ (Nat.le_of_not_lt (h5 b off e hne)) hr.1
  · obtain ⟨b', off', e', hr⟩ := k2.1 hne
    rw [e] at e'; cases e'
    exact hu _ (Nat.le_of_not_lt (k5 b off e hne)) hr.1
theorem BlkAt.mono {u u' : Nat → Prop} {T : Nat → Nat} {w : World} {K o : Nat} {eb pb : List Nat} (h : BlkAt u T w K o eb pb) (hu : ∀ x, u' x → u x) : BlkAt u' T w K o eb pb := by
  obtain ⟨a, c, h1, h2, h3, h4, h5⟩ := h.ent
  obtain ⟨a', c', k1, k2, k3, k4, k5⟩ := h.pla
  exact ⟨h.lt, fun z => h.tag (hu _ z), ⟨a, c, h1, h2, h3, h4, fun b off e hne z => h5 b off e hne (hu _ z)⟩, ⟨a', c', k1, k2, k3, k4, fun b off e hne z => k5 b off e hne (hu _ z)⟩⟩
theorem wkp_is {r : Nat} {cs : List En} (hok : ∀ e ∈ cs, Ok e ∧ 0 ≤ e.2.1) : (wkp (pushes r st0 cs).b 0).map Prod.snd = cs := by
  rw [wkp_snd, pushes_b]
  show (wk ([] ++ tl r 0 [] cs) []).map Prod.fst = cs
  rw [List.nil_append, wk_tl r _ hok 0 [] [] (.inl rfl), szs_map]
/-- A table that is being read, as it lies. -/
structure TbO (t : Nat) (T : Nat → Nat) (w : World) (B : Nat) (ps : List (ByteArray × Nat)) (F : List Nat) (m : Mt) : Prop where
  ob : ∃ pv fa fc, w.heap[B]? = some (.cells (tcs pv (.slice fa F.length fc) m) 63) ∧ OwnK kP (t + 1) T w pv ps ∧ IsB w fa F ∧ (∀ b off, fa = some ⟨b, off, none⟩ → F ≠ [] → T b = 0)
  tB : T B = t
/-- The cells that a round reads and writes. -/
structure Rc (B Bx : Nat) (pv fv : Value) (m : Mt) (N : Nat) (k : ByteArray) (s : Int) (d : Bool) (v : ByteArray) (Pb K : Nat) (g : ByteArray) (W : World) : Prop where
  tb : W.heap[B]? = some (.cells (tcs pv fv m) 63)
  bx : W.heap[Bx]? = some (.cells #[.pointer (some ⟨B, 0, none⟩)] 34)
  ev : W.heap[N]? = some (.cells #[.string k, .int .u64 s, .bool d, .string v] 43)
  pb : W.heap[Pb]? = some (.cells #[.string g, .pointer (some ⟨K, 3, none⟩)] 71)
theorem Rc.below {B Bx : Nat} {pv fv : Value} {m : Mt} {N : Nat} {k : ByteArray} {s : Int} {d : Bool} {v : ByteArray} {Pb K : Nat} {g : ByteArray} {W W' : World} (h : Rc B Bx pv fv m N k s d v Pb K g W) (hb : Below W.heap.size W W') : Rc B Bx pv fv m N k s d v Pb K g W' :=
  ⟨(hb.block _ (Array.getElem?_eq_some_iff.1 h.tb).1).trans h.tb, (hb.block _ (Array.getElem?_eq_some_iff.1 h.bx).1).trans h.bx, (hb.block _ (Array.getElem?_eq_some_iff.1 h.ev).1).trans h.ev, (hb.block _ (Array.getElem?_eq_some_iff.1 h.pb).1).trans h.pb⟩
theorem Rc.all {B Bx : Nat} {pv fv : Value} {m : Mt} {N : Nat} {k : ByteArray} {s : Int} {d : Bool} {v : ByteArray} {Pb K : Nat} {g : ByteArray} {W : World} (h : Rc B Bx pv fv m N k s d v Pb K g W) :
    (W.cell? ⟨Bx, 0, none⟩ = some (.pointer (some ⟨B, 0, none⟩)) ∧ W.cell? ⟨B, 1, none⟩ = some fv ∧ W.cell? ⟨B, 2, none⟩ = some (.int .u64 0) ∧ W.cell? ⟨B, 3, none⟩ = some (.int .i64 m.wt) ∧ W.cell? ⟨B, 4, none⟩ = some (.int .i64 m.by_) ∧ W.cell? ⟨B, 5, none⟩ = some (.int .i64 (m.n : Int)) ∧ W.cell? ⟨B, 6, none⟩ = some (.string m.lo) ∧ W.cell? ⟨B, 7, none⟩ = some (.string m.hi)) ∧
    (W.cell? ⟨N, 0, none⟩ = some (.string k) ∧ W.cell? ⟨N, 1, none⟩ = some (.int .u64 s) ∧ W.cell? ⟨N, 2, none⟩ = some (.bool d) ∧ W.cell? ⟨N, 3, none⟩ = some (.string v)) ∧ W.cell? ⟨Pb, 0, none⟩ = some (.string g) ∧ W.frozen? ⟨Pb, 0, none⟩ = false ∧
    (W.frozen? ⟨B, 2, none⟩ = false ∧ W.frozen? ⟨B, 3, none⟩ = false ∧ W.frozen? ⟨B, 4, none⟩ = false ∧ W.frozen? ⟨B, 5, none⟩ = false ∧ W.frozen? ⟨B, 6, none⟩ = false ∧ W.frozen? ⟨B, 7, none⟩ = false) :=
  ⟨⟨cell_of h.bx 0, cell_of h.tb 1, cell_of h.tb 2, cell_of h.tb 3, cell_of h.tb 4, cell_of h.tb 5, cell_of h.tb 6, cell_of h.tb 7⟩, ⟨cell_of h.ev 0, cell_of h.ev 1, cell_of h.ev 2, cell_of h.ev 3⟩, cell_of h.pb 0, froz_of h.pb 0, froz_of h.tb 2, froz_of h.tb 3, froz_of h.tb 4, froz_of h.tb 5, froz_of h.tb 6, froz_of h.tb 7⟩
/-- What a round leaves. -/
def rbW (W : World) (B Pb : Nat) (m : Mt) (g : ByteArray) : World := ((((((W.setCell ⟨B, 2, none⟩ (.int .u64 0)).setCell ⟨B, 3, none⟩ (.int .i64 m.wt)).setCell ⟨B, 4, none⟩ (.int .i64 m.by_)).setCell ⟨B, 5, none⟩ (.int .i64 (m.n : Int))).setCell ⟨B, 6, none⟩ (.string m.lo)).setCell ⟨B, 7, none⟩ (.string m.hi)).setCell ⟨Pb, 0, none⟩ (.string g)
theorem rb_next {w : World} {T0 : Nat → Nat} {t B Pb Bx K : Nat} {pv fv : Value} {m m' : Mt} {g g' : ByteArray} {T : Nat → Nat} {Wb W : World} {N : Nat} (ht : t ≠ 0) (h : Rb w T0 t B Pb Bx K pv fv m g T Wb) (hb : Below Wb.heap.size Wb W) :
    ∃ T', Rb w T0 t B Pb Bx K pv fv m' g' T' (rbW W B Pb m' g') ∧ Goes (ut t) T Wb T' (rbW W B Pb m' g') ∧ (∀ b, (rbW W B Pb m' g').heap.size ≤ b → T' b = 0) ∧ KeepsFrom N Wb (rbW W B Pb m' g') := by
  have hu0 : ¬ ut t 0 := by unfold ut; omega
  have hBP : B ≠ Pb := fun e => by have h1 := h.tb; rw [e, h.pb] at h1; cases h1
  have hXB : Bx ≠ B := fun e => by have h1 := h.bx; rw [e, h.tb] at h1; simp [tcs] at h1
  have hXP : Bx ≠ Pb := fun e => by have h1 := h.bx; rw [e, h.pb] at h1; simp at h1
  have lB := (Array.getElem?_eq_some_iff.1 h.tb).1
  have lP := (Array.getElem?_eq_some_iff.1 h.pb).1
  have lX := (Array.getElem?_eq_some_iff.1 h.bx).1
  have eB : W.heap[B]? = some (.cells (tcs pv fv m) 63) := (hb.block _ lB).trans h.tb
  have eP : W.heap[Pb]? = some (.cells #[.string g, .pointer (some ⟨K, 3, none⟩)] 71) := (hb.block _ lP).trans h.pb
  have eX : W.heap[Bx]? = some (.cells #[.pointer (some ⟨B, 0, none⟩)] 34) := (hb.block _ lX).trans h.bx
  have sB : Goes (ut t) T W T (rbW W B Pb m' g') := by
    unfold rbW
    have hB : ut t (T B) := .inl h.tB
    have hP : ut t (T Pb) := .inr h.tP
    exact ((((((Goes.setCell hB).trans (Goes.setCell hB)).trans (Goes.setCell hB)).trans (Goes.setCell hB)).trans (Goes.setCell hB)).trans (Goes.setCell hB)).trans (Goes.setCell hP)
  have hgo : Goes (ut t) T Wb T (rbW W B Pb m' g') := (Goes.below hb).trans sB
  have oB : (rbW W B Pb m' g').heap[B]? = some (.cells (tcs pv fv m') 63) := by
    unfold rbW
    rw [Below.heap_setCell _ _ _ _ hBP]
    exact obj_set (obj_set (obj_set (obj_set (obj_set (obj_set eB)))))
  have oP : (rbW W B Pb m' g').heap[Pb]? = some (.cells #[.string g', .pointer (some ⟨K, 3, none⟩)] 71) := by
    unfold rbW
    refine obj_set (cs := #[.string g, .pointer (some ⟨K, 3, none⟩)]) ?_
    rw [Below.heap_setCell _ _ _ _ hBP.symm, Below.heap_setCell _ _ _ _ hBP.symm, Below.heap_setCell _ _ _ _ hBP.symm, Below.heap_setCell _ _ _ _ hBP.symm, Below.heap_setCell _ _ _ _ hBP.symm, Below.heap_setCell _ _ _ _ hBP.symm]
    exact eP
  have oX : (rbW W B Pb m' g').heap[Bx]? = some (.cells #[.pointer (some ⟨B, 0, none⟩)] 34) := by
    unfold rbW
    rw [Below.heap_setCell _ _ _ _ hXP, Below.heap_setCell _ _ _ _ hXB, Below.heap_setCell _ _ _ _ hXB, Below.heap_setCell _ _ _ _ hXB, Below.heap_setCell _ _ _ _ hXB, Below.heap_setCell _ _ _ _ hXB, Below.heap_setCell _ _ _ _ hXB]
    exact eX
  generalize rbW W B Pb m' g' = W9 at *
  have p3 := goes_rt hgo h.nc
  refine ⟨rt T W9, ⟨oB, oP, oX, h.go.trans p3, (rt_cells oB rfl).trans h.tB, (rt_cells oP rfl).trans h.tP, (rt_cells oX rfl).trans h.tX, fun b hb' => p3.high b hb' (h.hi b (Nat.le_trans p3.size hb')), nc_rt _ _⟩, p3, fun b hb' => p3.high b hb' (h.hi b (Nat.le_trans p3.size hb')), keeps_of p3 h.nc hu0 _⟩

end Tbl
end Go.Proofs.YtnhhalabmmcemaaDoor
namespace Go.Proofs.YtnhhalabmmcemaaDoor
namespace Rnd
open Go.RowKit Irw
set_option linter.unusedVariables false
/-- a world in which nothing from before has turned -/
structure Und (w : World) where
  W : World
  ok : Below w.heap.size w W
theorem Und.non (w : World) : Nonempty (Und w) := ⟨⟨w, Below.refl _ _⟩⟩
theorem Und.cell {w : World} {p : Addr} {v : Value} (h : w.cell? p = some v) (V : Und w) : V.W.cell? p = some v := (V.ok.cell (World.block_lt_of_cell? w _ h)).trans h
theorem Und.call {F : Fence} {n : Nat} {P : Program} {f : Nat} {args : Array Value} {w : World} {V : Und w} {v : Value} (h : CallsIn F n P f args V.W fun e w' => e = .returned v ∧ Below V.W.heap.size V.W w') : CallsIn F n P f args V.W fun e w'' => e = .returned v ∧ ∃ V' : Und w, w'' = V'.W :=
  h.mono fun _ w' ⟨he, hb⟩ => ⟨he, ⟨w', V.ok.trans (hb.mono V.ok.size)⟩, rfl⟩
def plain (o : Oper) : Bool := match o.op with | .defer _ => false | _ => true
theorem plain_of {o : Oper} (h : plain o = true) : ∀ c, o.op ≠ .defer c := fun c e => by unfold plain at h; rw [e] at h; cases h
/-- An operation that doesn't defer goes in a round as it goes outside. -/
theorem wpIn_round {n : Nat} {P : Program} {o : Oper} {a : Act} {w : World} {K K' : Act → World → Prop} {Q : Exit → Act → World → Prop} (l : Nat) (hd : plain o = true) (hK : ∀ a w, K a w → K' a w) (h : o.wpIn Fence.wide n P a w K Q) : o.wpIn (Fence.wide.inRound l) n P a w K' Q := by
  have h1 := Oper.wpIn_mono hK h
  unfold Oper.wpIn at h1 ⊢
  refine ⟨h1.1, ?_⟩
  have h2 := h1.2
  rw [Oper.semAt_eq _ _ _ (plain_of hd)] at h2 ⊢
  generalize (execOp a.eval o).run P w = r at h2 ⊢
  cases r with
  | ok x w' => cases x <;> exact h2
  | halt x w' => cases x <;> exact h2
theorem wpOpIn_round {n : Nat} {P : Program} {ops : Array Oper} {i : Nat} {a : Act} {w : World} {K K' : Act → World → Prop} {Q : Exit → Act → World → Prop} (l : Nat) (hd : ∀ o ∈ ops.toList, plain o = true) (hK : ∀ a w, K a w → K' a w) (h : wpOpIn Fence.wide n P ops Q i K a w) : wpOpIn (Fence.wide.inRound l) n P ops Q i K' a w := by
  unfold wpOpIn at h ⊢
  cases ho : ops[i]? with
  | none => rw [ho] at h; exact hK _ _ h
  | some o =>
    rw [ho] at h
    simp only at h ⊢
    have hm : o ∈ ops.toList := by
      have := Array.mem_of_getElem? ho
      exact Array.mem_toList_iff.2 this
    split
    · rename_i hw
      rw [if_pos hw] at h
      exact wpIn_round l (hd o hm) hK h
    · rename_i hw
      rw [if_neg hw] at h
      exact ⟨h.1, hK _ _ h.2⟩
theorem wpAnyIn_round {n : Nat} {P : Program} {md : Region.Mode} {ops : Array Oper} {Q : Exit → Act → World → Prop} (l : Nat) (hd : ∀ o ∈ ops.toList, plain o = true) : ∀ (fuel : Nat) (listed : Array Bool) (a : Act) (w : World), wpAnyIn Fence.wide n P md ops Q fuel listed a w → wpAnyIn (Fence.wide.inRound l) n P md ops Q fuel listed a w := by
  intro fuel
  induction fuel with
  | zero => intro listed a w h; exact h
  | succ fuel ih =>
    intro listed a w h
    exact ⟨h.1, fun i hi => wpOpIn_round l hd (fun a w => ih _ a w) (h.2 i hi)⟩
/-- A region of a round that draws its order, whose operations read what was there before and whose calls turn nothing of it: one walk in the order of the text. -/
theorem wpIn_region_und {n : Nat} {P : Program} {id : Nat} {Q : Exit → Act → World → Prop} {a : Act} {w : World} {l : List Oper} (lp : Nat) (hd : l.all plain = true) (hm : P.follows .mixedOrders = true) (hB : Region.lexB .any l.toArray = true)
    (h : wpQuietIn Fence.wide n P l.toArray (fun w' => ∃ V : Und w, w' = V.W) (fun a' => ∀ w', Below w.heap.size w w' → Q .normal a' w') l a) : (Code.region id l.toArray true).wpIn (Fence.wide.inRound lp) n P Q a w := by
  have e : (fun a' => ∀ w', Below w.heap.size w w' → Q .normal a' w') = (fun a' => ∀ w', (∃ V : Und w, w' = V.W) → Q .normal a' w') := by
    funext a'
    exact propext ⟨fun k w' ⟨V, e⟩ => k w' (e ▸ V.ok), fun k w' hb => k w' ⟨⟨w', hb⟩, rfl⟩⟩
  rw [e] at h
  simp only [Region.lexB, Bool.and_eq_true] at hB
  refine wpIn_region_any hm (wpAnyIn_round lp (fun o ho => List.all_eq_true.1 hd o (by simpa using ho)) _ _ _ _ (wpAnyIn_of_quiet (F := Fence.wide) (C := fun w' => ∃ V : Und w, w' = V.W) (Q := fun a' => ∀ w', (∃ V : Und w, w' = V.W) → Q .normal a' w') rfl (fun _ w' hw' h => h w' hw') _ _ _ _ ⟨⟨w.drew, (Below.refl _ _).drew⟩, rfl⟩ ?_))
  have := wpAnyQIn_lex (F := Fence.wide) (n := n) (P := P) (ops := l.toArray) (C := fun w' => ∃ V : Und w, w' = V.W) (md := .any) hB.1 l.toArray.toList 0 (Array.replicate l.toArray.size false) a (by simp) (by simpa using hB.2) (by simpa using h)
  simpa using this
end Rnd
end Go.Proofs.YtnhhalabmmcemaaDoor
