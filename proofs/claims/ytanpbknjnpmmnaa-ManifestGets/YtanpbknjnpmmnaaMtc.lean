import Derived.Test.YtanpbknjnpmmnaaMtb
namespace Go.Proofs.Ytanpbknjnpmmnaa
namespace Mnf
open Go.RowKit CMath Byt Cod Crw Irw Laws
open Rqc (blk Ro)
set_option linter.unusedVariables false
set_option linter.unusedSimpArgs false
set_option maxRecDepth 20000
/-- lists of bytes that were lent, each in a block of its own, made since w0 -/
structure Tn (w0 W : World) (bf : Nat) (fs : List Sv) (gs : List (List Nat)) : Prop where
  bel : Below w0.heap.size w0 W
  full : IsK kD W (some ⟨bf, 0, none⟩) fs
  ln : gs.length ≤ fs.length
  ok : ∀ (i : Nat) v g, fs[i]? = some v → gs[i]? = some g → v.2.1 = g.length ∧ (v.2.1 ≤ v.2.2 ∧ v.2.2 ≤ v.2.1 + 4) ∧ ∃ b, v.1 = some ⟨b, 0, none⟩ ∧ BRow W b 0 g ∧ ∀ j, W.frozen? ⟨b, j, none⟩ = false
  ds : ∀ (i j : Nat) v u, i < j → fs[i]? = some v → fs[j]? = some u → blk v < blk u
  lo : ∀ v ∈ fs, w0.heap.size ≤ blk v
  byte : ∀ l ∈ gs, ∀ c ∈ l, c < 256
  small : ∀ l ∈ gs, l.length ≤ 400000
theorem Tn.of {w0 W : World} {R : Nat} {vs fs : List Sv} {gs : List (List Nat)} {bf d : Nat} (h : Ro W R vs fs gs (some ⟨bf, 0, none⟩) d) (hb : Below w0.heap.size w0 W) (hlo : ∀ v ∈ fs, w0.heap.size ≤ blk v) (hby : ∀ l ∈ gs, ∀ c ∈ l, c < 256) (hs : ∀ l ∈ gs, l.length ≤ 400000) : Tn w0 W bf fs gs :=
  ⟨hb, h.full, by have := h.fl.ln; omega, fun i v g hv hg => by
    have hi := (List.getElem?_eq_some_iff.1 hg).1
    obtain ⟨q1, q2, b, q3, _, q4, q5⟩ := h.fl.ok i v g hv (by rw [List.getElem?_append_left hi]; exact hg)
    exact ⟨q1, q2, b, q3, Rqc.b_of q4, q5⟩, h.fl.ds, hlo, hby, hs⟩
theorem Tn.below {w0 W W' : World} {bf : Nat} {fs : List Sv} {gs : List (List Nat)} (h : Tn w0 W bf fs gs) (hb : Below W.heap.size W W') : Tn w0 W' bf fs gs :=
  ⟨h.bel.trans (hb.mono h.bel.size), h.full.below hb, h.ln, fun i v g hv hg => by
    obtain ⟨q1, q2, b, q3, q4, q5⟩ := h.ok i v g hv hg
    exact ⟨q1, q2, b, q3, q4.below hb q4.1, fun j => (hb.frozen (p := ⟨b, j, none⟩) q4.1).trans (q5 j)⟩, h.ds, h.lo, h.byte, h.small⟩
theorem Tn.isD {w0 W : World} {bf : Nat} {fs : List Sv} {gs : List (List Nat)} (h : Tn w0 W bf fs gs) : IsD W (some ⟨bf, 0, none⟩) gs := by
  have hl := h.ln
  refine ⟨fs.take gs.length, by rw [List.length_take]; omega, fun hne => ?_, fun i v ws hv hw => ?_⟩
  · obtain ⟨b, off, e, hr⟩ := h.full (by intro z; rw [z] at hne; simp at hne)
    refine ⟨b, off, e, hr.1, fun i x hx j u hu => hr.2 i x ?_ j u hu⟩
    have hi := (List.getElem?_eq_some_iff.1 hx).1
    rw [List.length_take] at hi
    rw [List.getElem?_take_of_lt (by omega)] at hx
    exact hx
  · have hi := (List.getElem?_eq_some_iff.1 hw).1
    rw [List.getElem?_take_of_lt hi] at hv
    obtain ⟨q1, p1, b, q2, q4, _⟩ := h.ok i v ws hv hw
    have p2 := h.small ws (List.mem_of_getElem? hw)
    exact ⟨q1, ⟨fun _ => ⟨b, 0, q2, q4⟩, h.byte ws (List.mem_of_getElem? hw)⟩, (fun e => by rw [q2] at e; cases e), by omega, by omega⟩
/-- one list -/
theorem Tn.at_ {w0 W : World} {bf : Nat} {fs : List Sv} {gs : List (List Nat)} (h : Tn w0 W bf fs gs) {k : Nat} (hk : k < gs.length) : ∃ b c g v, gs[k]? = some g ∧ fs[k]? = some v ∧ v.1 = some ⟨b, 0, none⟩ ∧ W.cell? ⟨bf, k, none⟩ = some (.slice (some ⟨b, 0, none⟩) g.length c) ∧ BRow W b 0 g ∧ (∀ j, W.frozen? ⟨b, j, none⟩ = false) ∧ g.length ≤ c ∧ g.length ≤ 400000 ∧ bf < W.heap.size := by
  have hl := h.ln
  have hv : fs[k]? = some (fs[k]'(by omega)) := List.getElem?_eq_getElem _
  have hg : gs[k]? = some gs[k] := List.getElem?_eq_getElem hk
  obtain ⟨q1, q2, b, q3, q4, q5⟩ := h.ok k _ _ hv hg
  obtain ⟨b', o', e, hr⟩ := h.full (by intro z; rw [z] at hl; have : fs.length = 0 := by rw [z]; rfl
                                       simp at hl; rw [hl] at hk; simp at hk)
  cases e
  have hc := hr.2 k _ hv 0 _ rfl
  rw [show 0 + k * kD.size + 0 = k by show 0 + k * 1 + 0 = _; omega, q1, q3] at hc
  exact ⟨b, _, _, _, hg, hv, q3, hc, q4, q5, by omega, h.small _ (List.mem_of_getElem? hg), hr.1⟩
/-- a byte of a list is turned -/
theorem Tn.set {w0 W : World} {bf : Nat} {fs : List Sv} {gs : List (List Nat)} (h : Tn w0 W bf fs gs) {k b : Nat} {g : List Nat} {v : Sv} (hg : gs[k]? = some g) (hv : fs[k]? = some v) (hb : v.1 = some ⟨b, 0, none⟩) (h1 : 1 < g.length) (y : Nat) (hy : y < 256) : Tn w0 (W.setCell ⟨b, 1, none⟩ (.int .u8 (y : Int))) bf fs (gs.set k (g.set 1 y)) := by
  have hkl := (List.getElem?_eq_some_iff.1 hg).1
  have hbv : blk v = b := by unfold blk; rw [hb]
  have hlo : w0.heap.size ≤ b := by rw [← hbv]; exact h.lo v (List.mem_of_getElem? hv)
  obtain ⟨q1, q2, b', q3, q4, q5⟩ := h.ok k v g hv hg
  obtain rfl : b = b' := by rw [hb] at q3; cases q3; rfl
  have hne : bf ≠ b := by
    intro e
    obtain ⟨b2, o2, e2, hr⟩ := h.full (by intro z; rw [z] at hv; simp at hv)
    cases e2
    have hc := hr.2 k v hv 0 _ rfl
    have hd := q4.2 0 _ (List.getElem?_eq_getElem (by omega))
    obtain ⟨v0, hv0⟩ : ∃ v0, fs[0]? = some v0 := ⟨_, List.getElem?_eq_getElem (Nat.lt_of_le_of_lt (Nat.zero_le _) (List.getElem?_eq_some_iff.1 hv).1)⟩
    have hc0 := hr.2 0 v0 hv0 0 _ rfl
    rw [show 0 + 0 * kD.size + 0 = 0 + 0 by show 0 + 0 * 1 + 0 = _; omega, e, hd] at hc0
    simp at hc0
  have hS : ∀ x, x ≠ b → (W.setCell ⟨b, 1, none⟩ (.int .u8 (y : Int))).heap[x]? = W.heap[x]? := fun x hx => Below.heap_setCell _ _ _ _ (fun e => hx (by simpa using e))
  refine ⟨h.bel.setCell hlo _, ?_, by simpa using h.ln, fun i u g' hu hg' => ?_, h.ds, h.lo, ?_, ?_⟩
  · intro hn
    obtain ⟨b2, o2, e2, hr⟩ := h.full hn
    cases e2
    exact ⟨_, _, rfl, hr.keep (hS _ hne) (by simp)⟩
  · by_cases hi : k = i
    · subst hi
      obtain rfl : v = u := by rw [hv] at hu; cases hu; rfl
      rw [List.getElem?_set_self hkl] at hg'
      cases hg'
      refine ⟨by rw [List.length_set]; exact q1, q2, b, hb, ⟨by simpa using q4.1, fun j x hx => ?_⟩, fun j => by rw [World.frozen?_setCell]; exact q5 j⟩
      rw [Nat.zero_add]
      by_cases hj : 1 = j
      · subst hj
        rw [List.getElem?_set_self h1] at hx
        cases hx
        have := q4.2 1 _ (List.getElem?_eq_getElem h1)
        rw [Nat.zero_add] at this
        exact World.cell?_setCell_same _ _ _ this
      · rw [List.getElem?_set_ne hj] at hx
        have := q4.2 j x hx
        rw [Nat.zero_add] at this
        exact (World.cell?_setCell_other _ _ _ _ (by intro z; injection z with z1 z2; exact hj z2)).trans this
    · rw [List.getElem?_set_ne hi] at hg'
      obtain ⟨p1, p2, c, p3, p4, p5⟩ := h.ok i u g' hu hg'
      have hcu : blk u = c := by unfold blk; rw [p3]
      have hcb : c ≠ b := by
        rw [← hcu, ← hbv]
        rcases Nat.lt_or_gt_of_ne hi with hl | hl
        · have := h.ds k i v u hl hv hu; omega
        · have := h.ds i k u v hl hu hv; omega
      exact ⟨p1, p2, c, p3, p4.keep (hS c hcb) (by simp), fun j => by rw [World.frozen?_setCell]; exact p5 j⟩
  · intro l hl c hc
    rcases List.mem_or_eq_of_mem_set hl with hl | rfl
    · exact h.byte l hl c hc
    · rcases List.mem_or_eq_of_mem_set hc with hc | rfl
      · exact h.byte g (List.mem_of_getElem? hg) c hc
      · exact hy
  · intro l hl
    rcases List.mem_or_eq_of_mem_set hl with hl | rfl
    · exact h.small l hl
    · rw [List.length_set]
      exact h.small g (List.mem_of_getElem? hg)
end Mnf
end Go.Proofs.Ytanpbknjnpmmnaa
