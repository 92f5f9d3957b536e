import Derived.Test.YtkebbmdghnplmaaDoorQg2
import Derived.Test.YtkebbmdghnplmaaDoorQc6
import Derived.Test.YtkebbmdghnplmaaDoorQd4
namespace Go.Proofs.YtkebbmdghnplmaaDoor
namespace Qb
open Go.RowKit Go.Shelf CMath Byt Laws Irw Crw Cod Qe
set_option linter.unusedVariables false
set_option linter.unusedSimpArgs false
set_option maxRecDepth 100000

theorem wkp_made {r : Nat} {l : List En} (hok : ∀ e ∈ l, Ok e ∧ 0 ≤ e.2.1) : (wkp (pushes r st0 l).b 0).map Prod.snd = l := by
  rw [wkp_fst]
  have := (wk_from (r := r) hok (Nat.zero_le _) (Nat.zero_mod r)).2
  rw [List.drop_zero] at this
  exact this
theorem gv_neg (l : List En) : gv (-1) l = l := by simp [gv]
/-- Open of what was made. -/
theorem open_made (a : Option Addr) (cap N R : Nat) (l : List En) (w : World) (hR : 1 ≤ R) (hc : chain ⟨#[]⟩ l) (h0 : ∀ e ∈ l, 0 ≤ e.2.1) (hl : l.length ≤ 4000) (ht : Tab w) (ha : IsB w a (blk (pushes R st0 l))) (hN : N = (blk (pushes R st0 l)).length) (hcap : N ≤ cap) (hc12 : cap ≤ 9223372036854775807) (hc0 : a = none → cap = 0) :
    Calls Tryd.prog 13 #[.slice a N cap] w fun e w' => ∃ M, e = .returned (.tuple #[.pointer (some ⟨M, 3, none⟩), .int .i64 0]) ∧ BlkF w.heap.size w' M 3 (pushes R st0 l).b (pushes R st0 l).p ∧ Below w.heap.size w w' := by
  have hok : ∀ e ∈ l, Ok e ∧ 0 ≤ e.2.1 := fun e he => ⟨chain_ok hc e he, h0 e he⟩
  have hbl := pushes_len R l hok
  have hpl := pushes_plen R l st0
  have z1 : st0.p.length = 0 := rfl
  obtain ⟨r', h1, h2, h3⟩ := opn_mk R l hR hc h0 (by omega) (by omega) (by omega)
  have hL := blk_len (pushes R st0 l)
  refine (open_any a cap N (blk (pushes R st0 l)) w ht ha hN hcap hc12 (by omega) hc0).mono fun e w' ⟨hb, h⟩ => ?_
  rw [h2] at h
  obtain ⟨M, he, hk⟩ := h
  dsimp only at hk
  rw [h3] at hk
  exact ⟨M, he, hk, hb⟩
theorem given_made (w : World) (K o R : Nat) (l : List En) (hc : chain ⟨#[]⟩ l) (h0 : ∀ e ∈ l, 0 ≤ e.2.1) (hl : l.length ≤ 4000) (hk : BlkZ w K o (pushes R st0 l).b (pushes R st0 l).p) :
    Calls Tryd.prog 18 #[.pointer (some ⟨K, o, none⟩), .int .i64 (-1)] w fun e w' => GvIs w l e w' := by
  have hok : ∀ e ∈ l, Ok e ∧ 0 ≤ e.2.1 := fun e he => ⟨chain_ok hc e he, h0 e he⟩
  have hbl := pushes_len R l hok
  have := given_any w K o _ _ (-1) hk (by omega)
  rw [gv_neg, wkp_made hok] at this
  exact this
/-- The chapter's first example. -/
def k3 : List En := [(⟨#[97]⟩, 1, false, ⟨#[120]⟩), (⟨#[97, 98]⟩, 2, true, ⟨#[]⟩), (⟨#[98]⟩, 3, false, ⟨#[]⟩)]
theorem k3_chain : chain ⟨#[]⟩ k3 := ⟨by decide, by decide, by decide, trivial⟩
theorem k3_nn : ∀ e ∈ k3, 0 ≤ e.2.1 := by decide
theorem k3_ok : ∀ e ∈ k3, Ok e ∧ 0 ≤ e.2.1 := fun e he => ⟨chain_ok k3_chain e he, k3_nn e he⟩
theorem k3_b : (pushes (Rn 2) st0 k3).b.length = 15 ∧ (pushes (Rn 2) st0 k3).p.length = 8 := by
  have h : Rn 2 = 2 := rfl
  rw [h]
  simp [k3, pushes, push, sh, plc, st0, entB, shr, kB, vB, tag, num, words, four, strB, Byt.strB]
theorem k3_aa : skE k3 ⟨#[97, 97]⟩ = some (⟨#[97, 98]⟩, 2, true, ⟨#[]⟩) := by unfold skE; simp only [Lib.toList_data]; rfl
theorem k3_c : skE k3 ⟨#[99]⟩ = none := by unfold skE; simp only [Lib.toList_data]; rfl

theorem k3_sz : ∀ e ∈ k3, e.1.size ≤ 1000000 ∧ e.2.2.2.size ≤ 1000000 ∧ 0 ≤ e.2.1 := by decide
theorem k3_adds {k : Nat} {x : En} (h : k3[k]? = some x) : adds (lastE ⟨#[]⟩ (k3.take k)) x = 0 := by
  have hk : k < k3.length := (List.getElem?_eq_some_iff.1 h).1
  have hc := k3_chain
  rw [← List.take_append_drop k k3, List.drop_eq_getElem_cons hk, chain_app] at hc
  rw [List.getElem?_eq_getElem hk] at h
  cases h
  exact hc.2.1
structure KnSt (w : World) (M : Nat) (acc : List En) (T : Nat → Nat) (W : World) : Prop where
  ma : MakerAt 1 T W M 2 (pushes (Rn 2) st0 acc)
  bl : Below w.heap.size w W
  hi : Hi T W
  fr : ∀ b, b < w.heap.size → T b = 0
theorem k3_row {W : World} {b : Nat} {u : TypeId} (h : W.heap[b]? = some (.cells #[.string ⟨#[97]⟩, .int .u64 1, .bool false, .string ⟨#[120]⟩, .string ⟨#[97, 98]⟩, .int .u64 2, .bool true, .string ⟨#[]⟩, .string ⟨#[98]⟩, .int .u64 3, .bool false, .string ⟨#[]⟩] u)) : Erw.IsE W (some ⟨b, 0, none⟩) k3 := by
  refine Erw.IsE.of ⟨(Array.getElem?_eq_some_iff.1 h).1, fun i z hz => ?_⟩
  match i, hz with
  | 0, hz => cases hz; exact ⟨by rw [cell_of_obj h]; rfl, by rw [cell_of_obj h]; rfl, by rw [cell_of_obj h]; rfl, by rw [cell_of_obj h]; rfl⟩
  | 1, hz => cases hz; exact ⟨by rw [cell_of_obj h]; rfl, by rw [cell_of_obj h]; rfl, by rw [cell_of_obj h]; rfl, by rw [cell_of_obj h]; rfl⟩
  | 2, hz => cases hz; exact ⟨by rw [cell_of_obj h]; rfl, by rw [cell_of_obj h]; rfl, by rw [cell_of_obj h]; rfl, by rw [cell_of_obj h]; rfl⟩
  | n + 3, hz => simp [k3] at hz
end Qb
end Go.Proofs.YtkebbmdghnplmaaDoor
