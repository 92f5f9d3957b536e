import Derived.Test.YtkebbmdghnplmaaDoorQt2
import Derived.Test.YtkebbmdghnplmaaDoorQg3
import Derived.Test.YtkebbmdghnplmaaDoorQb1
import Derived.Test.YtkebbmdghnplmaaDoorTs9
namespace Go.Proofs.YtkebbmdghnplmaaDoor
namespace Qt
open Go.RowKit CMath Byt Laws Irw Crw Cod Qb
set_option linter.unusedVariables false
set_option maxRecDepth 100000
set_option linter.unusedSimpArgs false
theorem len_sumS {l : List (En × Nat)} (h : ∀ x ∈ l, 0 < x.2) : l.length ≤ sumS l := by
  induction l with
  | nil => exact Nat.zero_le _
  | cons x l ih =>
    rw [sumS_cons, List.length_cons]
    have h1 := h x (List.mem_cons_self ..)
    have h2 := ih fun y hy => h y (List.mem_cons_of_mem _ hy)
    omega
/-- What stands of a block of at most 131072 bytes. -/
theorem opn_facts {b : List Nat} {y : Nat × List En} (hb : b.length ≤ 131072) (h : opn b = some y) :
    1 ≤ y.1 ∧ chain ⟨#[]⟩ y.2 ∧ (∀ e ∈ y.2, 0 ≤ e.2.1) ∧ (pushes y.1 st0 y.2).b.length ≤ 131072 ∧ (pushes y.1 st0 y.2).p.length ≤ 131072 ∧ y.2.length ≤ 131072 ∧ (∀ e ∈ y.2, e.1.size ≤ 1000000) ∧ (wkp (pushes y.1 st0 y.2).b 0).map Prod.snd = y.2 := by
  obtain ⟨R, m⟩ := y
  obtain ⟨h1, h2, h3, eb, h4⟩ := opn_is h
  have h0 : ∀ e ∈ m, 0 ≤ e.2.1 := fun e he => by
    rw [h4] at he
    obtain ⟨x, hx, rfl⟩ := List.mem_map.1 he
    exact wk_nonneg _ eb [] (Nat.le_refl _) x hx
  have hL := blk_len (pushes R st0 m)
  rw [h3] at hL
  have hok : ∀ e ∈ m, Ok e ∧ 0 ≤ e.2.1 := fun e he => ⟨chain_ok h2 e he, h0 e he⟩
  have hp := pushes_b R m st0
  have h5 := len_sumS (szs_pos R m 0 (strB st0.last))
  have h6 : (pushes R st0 m).b = tl R 0 (strB st0.last) m := by rw [hp]; rfl
  rw [szs_sum, szs_length, ← h6] at h5
  dsimp only
  refine ⟨h1, h2, h0, by omega, by omega, by omega, fun e he => ?_, wkp_made hok⟩
  have := (hok e he).1.k2
  omega
theorem copy_b {w w1 : World} {u : Value} {r : List Nat} {L : Nat} (hL : r.length = L) (ho : w1.ownsRow w.heap.size 5 1 u (0 + L) (cellsB ([] ++ r))) (hg : (w.alloc (.cells #[] 5)).grownBy w1 (some w.heap.size)) (hn : u ≠ .slice none 0 0) (hb : ∀ x ∈ r, x < 256) :
    ∃ g d, u = .slice (some ⟨g, 0, none⟩) L d ∧ L ≤ d ∧ d ≤ 9223372036854775807 ∧ IsB w1 (some ⟨g, 0, none⟩) r ∧ Below w.heap.size w w1 := by
  subst hL
  rw [List.nil_append, Nat.zero_add] at ho
  obtain ⟨g, d, e, h1, h2, h3, h4⟩ := (Own.mk' ho hb hn).isB
  refine ⟨g, d, e, h3, ?_, h4, below_of ((Below.refl _ _).alloc (Nat.le_refl _) _) hg (Nat.le_refl _) (by intro k hk; cases hk; exact Nat.le_refl _)⟩
  rcases ho.2 with ⟨k1, _⟩ | ⟨g', c', cur, k1, _, _, _, k2, _⟩
  · exact absurd k1 hn
  · rw [e] at k1
    cases k1
    unfold maxLen at k2
    exact k2
theorem isSh_new {w : World} {M : Nat} {a : Option Addr} {n c : Nat} {u : TypeId} : IsK kSh (w.alloc (.cells #[.pointer (some ⟨M, 3, none⟩), .slice a n c] u)) (some ⟨w.heap.size, 0, none⟩) [(M, a, n, c)] := by
  refine IsK.of ⟨by simp, fun i z hz j v hv => ?_⟩
  cases i with
  | zero =>
    simp at hz; subst hz
    rw [World.cell?_alloc_at _ _ _ _ rfl]
    match j with
    | 0 => exact hv
    | 1 => exact hv
    | j + 2 => exact absurd hv (by rw [show (kSh.cs (M, a, n, c))[j + 2]? = none from rfl]; simp)
  | succ i => simp at hz
/-- One thing of 'seen'. -/
theorem Seen.at_ {w0 : World} {T : Nat → Nat} {W : World} {a : Option Addr} {n c : Nat} {xs : List (Nat × Sv)} {ys : List (Nat × List Qb.En)} (h : Seen w0 T W (.slice a n c) xs ys) {k : Nat} (hk : k < xs.length) :
    ∃ g o M a1 n1 c1 y, a = some ⟨g, o, none⟩ ∧ g < W.heap.size ∧ W.cell? ⟨g, o + k * 2, none⟩ = some (.pointer (some ⟨M, 3, none⟩)) ∧ W.cell? ⟨g, o + k * 2 + 1, none⟩ = some (.slice a1 n1 c1) ∧ ShOk T W (M, a1, n1, c1) y ∧ ∃ b : List Nat, b.length ≤ 131072 ∧ opn b = some y := by
  obtain ⟨a', c', e, hi, _⟩ := h.ow.form
  cases e
  obtain ⟨g, o, e, hr⟩ := hi.at_ (by omega)
  have hx : xs[k]? = some xs[k] := List.getElem?_eq_getElem hk
  have hy : ys[k]? = some (ys[k]'(by rw [← h.ln]; exact hk)) := List.getElem?_eq_getElem _
  have c0 := hr.2 k _ hx 0 _ rfl
  have c1 := hr.2 k _ hx 1 _ rfl
  exact ⟨g, o, _, _, _, _, _, e, hr.1, c0, c1, h.ok k _ _ hx hy, h.md _ (List.mem_of_getElem? hy)⟩
end Qt
end Go.Proofs.YtkebbmdghnplmaaDoor
