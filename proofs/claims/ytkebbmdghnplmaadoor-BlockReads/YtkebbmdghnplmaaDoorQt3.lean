import Derived.Test.YtkebbmdghnplmaaDoorQg2
import Derived.Test.YtkebbmdghnplmaaDoorQc6
import Derived.Test.YtkebbmdghnplmaaDoorQd4
import Derived.Test.YtkebbmdghnplmaaDoorProg
import Derived.Test.YtkebbmdghnplmaaDoorQb1
import Derived.Test.YtkebbmdghnplmaaDoorQt2
namespace Go.Proofs.YtkebbmdghnplmaaDoor
namespace Qb
open Go.RowKit Go.Shelf CMath Byt Laws Irw Crw Cod Qe
set_option linter.unusedVariables false
set_option linter.unusedSimpArgs false
set_option maxRecDepth 100000

theorem wkp_made {r : Nat} {l : List En} (hok : ∀ e ∈ l, Ok e ∧ 0 ≤ e.2.1) : (wkp (pushes r st0 l).b 0).map Prod.snd = l := by
  rw [wkp_fst]
  have := (wk_from (r := r) hok (Nat.zero_le _) (Nat.zero_mod r)).2
  rw [List.drop_zero] at this
  exact this
theorem gv_neg (l : List En) : gv (-1) l = l := by simp [gv]
/-- Open of what was made. -/
theorem open_made (a : Option Addr) (cap N R : Nat) (l : List En) (w : World) (hR : 1 ≤ R) (hc : chain ⟨#[]⟩ l) (h0 : ∀ e ∈ l, 0 ≤ e.2.1) (hl : l.length ≤ 4000) (ht : Tab w) (ha : IsB w a (blk (pushes R st0 l))) (hN : N = (blk (pushes R st0 l)).length) (hcap : N ≤ cap) (hc12 : cap ≤ 9223372036854775807) (hc0 : a = none → cap = 0) :
    Calls Tryd.prog 13 #[.slice a N cap] w fun e w' => ∃ M, e = .returned (.tuple #[.pointer (some ⟨M, 3, none⟩), .int .i64 0]) ∧ BlkF w.heap.size w' M 3 (pushes R st0 l).b (pushes R st0 l).p ∧ Below w.heap.size w w' := by
  have hok : ∀ e ∈ l, Ok e ∧ 0 ≤ e.2.1 := fun e he => ⟨chain_ok hc e he, h0 e he⟩
  have hbl := pushes_len R l hok
  have hpl := pushes_plen R l st0
  have z1 : st0.p.length = 0 := rfl
  obtain ⟨r', h1, h2, h3⟩ := opn_mk R l hR hc h0 (by omega) (by omega) (by omega)
  have hL := blk_len (pushes R st0 l)
  refine (open_any a cap N (blk (pushes R st0 l)) w ht ha hN hcap hc12 (by omega) hc0).mono fun e w' ⟨hb, h⟩ => ?_
  rw [h2] at h
  obtain ⟨M, he, hk⟩ := h
  dsimp only at hk
  rw [h3] at hk
  exact ⟨M, he, hk, hb⟩
theorem given_made (w : World) (K o R : Nat) (l : List En) (hc : chain ⟨#[]⟩ l) (h0 : ∀ e ∈ l, 0 ≤ e.2.1) (hl : l.length ≤ 4000) (hk : BlkZ w K o (pushes R st0 l).b (pushes R st0 l).p) :
    Calls Tryd.prog 18 #[.pointer (some ⟨K, o, none⟩), .int .i64 (-1)] w fun e w' => GvIs w l e w' := by
  have hok : ∀ e ∈ l, Ok e ∧ 0 ≤ e.2.1 := fun e he => ⟨chain_ok hc e he, h0 e he⟩
  have hbl := pushes_len R l hok
  have := given_any w K o _ _ (-1) hk (by omega)
  rw [gv_neg, wkp_made hok] at this
  exact this
/-- The chapter's first example. -/
def k3 : List En := [(⟨#[97]⟩, 1, false, ⟨#[120]⟩), (⟨#[97, 98]⟩, 2, true, ⟨#[]⟩), (⟨#[98]⟩, 3, false, ⟨#[]⟩)]
theorem k3_chain : chain ⟨#[]⟩ k3 := ⟨by decide, by decide, by decide, trivial⟩
theorem k3_nn : ∀ e ∈ k3, 0 ≤ e.2.1 := by decide
theorem k3_ok : ∀ e ∈ k3, Ok e ∧ 0 ≤ e.2.1 := fun e he => ⟨chain_ok k3_chain e he, k3_nn e he⟩
theorem k3_b : (pushes (Rn 2) st0 k3).b.length = 15 ∧ (pushes (Rn 2) st0 k3).p.length = 8 := by
  have h : Rn 2 = 2 := rfl
  rw [h]
  simp [k3, pushes, push, sh, plc, st0, entB, shr, kB, vB, tag, num, words, four, strB, Byt.strB]
theorem k3_aa : skE k3 ⟨#[97, 97]⟩ = some (⟨#[97, 98]⟩, 2, true, ⟨#[]⟩) := by unfold skE; simp only [Lib.toList_data]; rfl
theorem k3_c : skE k3 ⟨#[99]⟩ = none := by unfold skE; simp only [Lib.toList_data]; rfl

theorem k3_sz : ∀ e ∈ k3, e.1.size ≤ 1000000 ∧ e.2.2.2.size ≤ 1000000 ∧ 0 ≤ e.2.1 := by decide
theorem k3_adds {k : Nat} {x : En} (h : k3[k]? = some x) : adds (lastE ⟨#[]⟩ (k3.take k)) x = 0 := by
  have hk : k < k3.length := (List.getElem?_eq_some_iff.1 h).1
  have hc := k3_chain
  rw [← List.take_append_drop k k3, List.drop_eq_getElem_cons hk, chain_app] at hc
  rw [List.getElem?_eq_getElem hk] at h
  cases h
  exact hc.2.1
structure KnSt (w : World) (M : Nat) (acc : List En) (T : Nat → Nat) (W : World) : Prop where
  ma : MakerAt 1 T W M 2 (pushes (Rn 2) st0 acc)
  bl : Below w.heap.size w W
  hi : Hi T W
  fr : ∀ b, b < w.heap.size → T b = 0
theorem k3_row {W : World} {b : Nat} {u : TypeId} (h : W.heap[b]? = some (.cells #[.string ⟨#[97]⟩, .int .u64 1, .bool false, .string ⟨#[120]⟩, .string ⟨#[97, 98]⟩, .int .u64 2, .bool true, .string ⟨#[]⟩, .string ⟨#[98]⟩, .int .u64 3, .bool false, .string ⟨#[]⟩] u)) : Erw.IsE W (some ⟨b, 0, none⟩) k3 := by
  refine Erw.IsE.of ⟨(Array.getElem?_eq_some_iff.1 h).1, fun i z hz => ?_⟩
  match i, hz with
  | 0, hz => cases hz; exact ⟨by rw [cell_of_obj h]; rfl, by rw [cell_of_obj h]; rfl, by rw [cell_of_obj h]; rfl, by rw [cell_of_obj h]; rfl⟩
  | 1, hz => cases hz; exact ⟨by rw [cell_of_obj h]; rfl, by rw [cell_of_obj h]; rfl, by rw [cell_of_obj h]; rfl, by rw [cell_of_obj h]; rfl⟩
  | 2, hz => cases hz; exact ⟨by rw [cell_of_obj h]; rfl, by rw [cell_of_obj h]; rfl, by rw [cell_of_obj h]; rfl, by rw [cell_of_obj h]; rfl⟩
  | n + 3, hz => simp [k3] at hz
end Qb
end Go.Proofs.YtkebbmdghnplmaaDoor
namespace Go.Proofs.YtkebbmdghnplmaaDoor
namespace Tsr
open Go.RowKit CMath Byt Laws
set_option linter.unusedVariables false
/-- Texts that lie in a block. -/
def TRow (w : World) (b off : Nat) (l : List ByteArray) : Prop := b < w.heap.size ∧ ∀ (i : Nat) (x : ByteArray), l[i]? = some x → w.cell? ⟨b, off + i, none⟩ = some (.string x)
/-- What a slice of texts holds. -/
def IsT (w : World) (a : Option Addr) (l : List ByteArray) : Prop := l ≠ [] → ∃ b off, a = some ⟨b, off, none⟩ ∧ TRow w b off l
theorem TRow.keep {w w' : World} {b off : Nat} {l : List ByteArray} (h : TRow w b off l) (hb : w'.heap[b]? = w.heap[b]?) (hs : w.heap.size ≤ w'.heap.size) : TRow w' b off l :=
  ⟨Nat.lt_of_lt_of_le h.1 hs, fun i x hx => (World.cell?_of_block (w := w) (a := ⟨b, off + i, none⟩) hb).trans (h.2 i x hx)⟩
theorem IsT.below {w w' : World} {a : Option Addr} {l : List ByteArray} (h : IsT w a l) (hb : Below w.heap.size w w') : IsT w' a l := fun hne => by
  obtain ⟨b, off, e, hr⟩ := h hne
  exact ⟨b, off, e, hr.keep (hb.block b hr.1) hb.size⟩
theorem IsT.nil (w : World) (a : Option Addr) : IsT w a [] := fun h => absurd rfl h
theorem IsT.at_ {w : World} {a : Option Addr} {l : List ByteArray} (h : IsT w a l) {k : Nat} (hk : k < l.length) : ∃ b off x, a = some ⟨b, off, none⟩ ∧ l[k]? = some x ∧ b < w.heap.size ∧ w.cell? ⟨b, off + k, none⟩ = some (.string x) := by
  obtain ⟨b, off, e, hr⟩ := h (by rintro rfl; simp at hk)
  have hx : l[k]? = some l[k] := List.getElem?_eq_getElem hk
  exact ⟨b, off, _, e, hx, hr.1, hr.2 k _ hx⟩
end Tsr
end Go.Proofs.YtkebbmdghnplmaaDoor
namespace Go.Proofs.YtkebbmdghnplmaaDoor
namespace Qt
open Go.RowKit CMath Byt Laws Irw Crw Cod Qb
set_option linter.unusedVariables false
set_option maxRecDepth 100000
set_option linter.unusedSimpArgs false
theorem len_sumS {l : List (En × Nat)} (h : ∀ x ∈ l, 0 < x.2) : l.length ≤ sumS l := by
  induction l with
  | nil => exact Nat.zero_le _
  | cons x l ih =>
    rw [sumS_cons, List.length_cons]
    have h1 := h x (List.mem_cons_self ..)
    have h2 := ih fun y hy => h y (List.mem_cons_of_mem _ hy)
    omega
/-- What stands of a block of at most 131072 bytes. -/
theorem opn_facts {b : List Nat} {y : Nat × List En} (hb : b.length ≤ 131072) (h : opn b = some y) :
    1 ≤ y.1 ∧ chain ⟨#[]⟩ y.2 ∧ (∀ e ∈ y.2, 0 ≤ e.2.1) ∧ (pushes y.1 st0 y.2).b.length ≤ 131072 ∧ (pushes y.1 st0 y.2).p.length ≤ 131072 ∧ y.2.length ≤ 131072 ∧ (∀ e ∈ y.2, e.1.size ≤ 1000000) ∧ (wkp (pushes y.1 st0 y.2).b 0).map Prod.snd = y.2 := by
  obtain ⟨R, m⟩ := y
  obtain ⟨h1, h2, h3, eb, h4⟩ := opn_is h
  have h0 : ∀ e ∈ m, 0 ≤ e.2.1 := fun e he => by
    rw [h4] at he
    obtain ⟨x, hx, rfl⟩ := List.mem_map.1 he
    exact wk_nonneg _ eb [] (Nat.le_refl _) x hx
  have hL := blk_len (pushes R st0 m)
  rw [h3] at hL
  have hok : ∀ e ∈ m, Ok e ∧ 0 ≤ e.2.1 := fun e he => ⟨chain_ok h2 e he, h0 e he⟩
  have hp := pushes_b R m st0
  have h5 := len_sumS (szs_pos R m 0 (strB st0.last))
  have h6 : (pushes R st0 m).b = tl R 0 (strB st0.last) m := by rw [hp]; rfl
  rw [szs_sum, szs_length, ← h6] at h5
  dsimp only
  refine ⟨h1, h2, h0, by omega, by omega, by omega, fun e he => ?_, wkp_made hok⟩
  have := (hok e he).1.k2
  omega
theorem copy_b {w w1 : World} {u : Value} {r : List Nat} {L : Nat} (hL : r.length = L) (ho : w1.ownsRow w.heap.size 5 1 u (0 + L) (cellsB ([] ++ r))) (hg : (w.alloc (.cells #[] 5)).grownBy w1 (some w.heap.size)) (hn : u ≠ .slice none 0 0) (hb : ∀ x ∈ r, x < 256) :
    ∃ g d, u = .slice (some ⟨g, 0, none⟩) L d ∧ L ≤ d ∧ d ≤ 9223372036854775807 ∧ IsB w1 (some ⟨g, 0, none⟩) r ∧ Below w.heap.size w w1 := by
  subst hL
  rw [List.nil_append, Nat.zero_add] at ho
  obtain ⟨g, d, e, h1, h2, h3, h4⟩ := (Own.mk' ho hb hn).isB
  refine ⟨g, d, e, h3, ?_, h4, below_of ((Below.refl _ _).alloc (Nat.le_refl _) _) hg (Nat.le_refl _) (by intro k hk; cases hk; exact Nat.le_refl _)⟩
  rcases ho.2 with ⟨k1, _⟩ | ⟨g', c', cur, k1, _, _, _, k2, _⟩
  · exact absurd k1 hn
  · rw [e] at k1
    cases k1
    unfold maxLen at k2
    exact k2
theorem isSh_new {w : World} {M : Nat} {a : Option Addr} {n c : Nat} {u : TypeId} : IsK kSh (w.alloc (.cells #[.pointer (some ⟨M, 3, none⟩), .slice a n c] u)) (some ⟨w.heap.size, 0, none⟩) [(M, a, n, c)] := by
  refine IsK.of ⟨by simp, fun i z hz j v hv => ?_⟩
  cases i with
  | zero =>
    simp at hz; subst hz
    rw [World.cell?_alloc_at _ _ _ _ rfl]
    match j with
    | 0 => exact hv
    | 1 => exact hv
    | j + 2 => exact absurd hv (by rw [show (kSh.cs (M, a, n, c))[j + 2]? = none from rfl]; simp)
  | succ i => simp at hz
/-- One thing of 'seen'. -/
theorem Seen.at_ {w0 : World} {T : Nat → Nat} {W : World} {a : Option Addr} {n c : Nat} {xs : List (Nat × Sv)} {ys : List (Nat × List Qb.En)} (h : Seen w0 T W (.slice a n c) xs ys) {k : Nat} (hk : k < xs.length) :
    ∃ g o M a1 n1 c1 y, a = some ⟨g, o, none⟩ ∧ g < W.heap.size ∧ W.cell? ⟨g, o + k * 2, none⟩ = some (.pointer (some ⟨M, 3, none⟩)) ∧ W.cell? ⟨g, o + k * 2 + 1, none⟩ = some (.slice a1 n1 c1) ∧ ShOk T W (M, a1, n1, c1) y ∧ ∃ b : List Nat, b.length ≤ 131072 ∧ opn b = some y := by
  obtain ⟨a', c', e, hi, _⟩ := h.ow.form
  cases e
  obtain ⟨g, o, e, hr⟩ := hi.at_ (by omega)
  have hx : xs[k]? = some xs[k] := List.getElem?_eq_getElem hk
  have hy : ys[k]? = some (ys[k]'(by rw [← h.ln]; exact hk)) := List.getElem?_eq_getElem _
  have c0 := hr.2 k _ hx 0 _ rfl
  have c1 := hr.2 k _ hx 1 _ rfl
  exact ⟨g, o, _, _, _, _, _, e, hr.1, c0, c1, h.ok k _ _ hx hy, h.md _ (List.mem_of_getElem? hy)⟩
end Qt
end Go.Proofs.YtkebbmdghnplmaaDoor
