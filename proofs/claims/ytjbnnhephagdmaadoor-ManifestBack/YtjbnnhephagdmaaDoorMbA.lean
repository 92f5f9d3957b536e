import Derived.Test.YtjbnnhephagdmaaDoorMb9
namespace Go.Proofs.YtjbnnhephagdmaaDoor
namespace Mnf
open Go.RowKit CMath Byt Cod Crw Irw Laws
set_option linter.unusedVariables false
set_option linter.unusedSimpArgs false
set_option maxRecDepth 20000
/-- a thing of a list of one's own, cell by cell -/
theorem own_cell {α : Type} {K : Knd α} {t : Nat} {T : Nat → Nat} {w : World} {a : Option Addr} {n c : Nat} {l : List α} (h : OwnK K t T w (svV (a, n, c)) l) {m : Nat} {x : α} (hx : l[m]? = some x) : ∃ g, a = some ⟨g, 0, none⟩ ∧ ∀ j u, (K.cs x)[j]? = some u → w.cell? ⟨g, m * K.size + j, none⟩ = some u ∧ w.frozen? ⟨g, m * K.size + j, none⟩ = false := by
  rcases h.1.2 with ⟨h1, h2⟩ | ⟨g, cap, cur, hv2, hb, hh, hc, hm, hr, ht⟩
  · have := (List.getElem?_eq_some_iff.1 hx).1
    omega
  · unfold svV at hv2
    cases hv2
    obtain ⟨_, k2, _⟩ := OwnK.sk h
    refine ⟨g, rfl, fun j u hu => ?_⟩
    obtain ⟨b, off, e, r⟩ := k2 (by rintro rfl; simp at hx)
    cases e
    have := r.2 m x hx j u hu
    rw [Nat.zero_add] at this
    exact ⟨this, frozen_of_row _ _ _ _ _ hh⟩
section
variable {w wr : World} {T : Nat → Nat} {M : List Ed} {s : Sv} {vs : List Ev} {k : Nat}
theorem Rs.at_ {e : Ed} {v : Ev} (h : Rs w T wr (M.set k e) s vs) (hk : k < M.length) (hv : vs[k]? = some v) : EdO T wr k v e := h.eds k v e hv (List.getElem?_set_self hk)
theorem Rs.out' {e : Ed} {l : List Pl} {m g n c a b d : Nat} {si sp : Sv} {y : Int} {p : Pl} (h : Rs w T wr (M.set k { e with out := l }) s vs) (hk : k < M.length) (hv : vs[k]? = some (a, b, d, (some ⟨g, 0, none⟩, n, c), si, sp)) (hp : l[m]? = some p) : Rs w T (wr.setCell ⟨g, m * 2, none⟩ (.int .i64 y)) (M.set k { e with out := l.set m (y, p.2) }) s vs := by
  have := h.out (y := y) hv (List.getElem?_set_self hk) hp
  rw [List.set_set] at this
  exact this
theorem Rs.inn' {e : Ed} {l : List Pd} {m j g n c a b d : Nat} {so sp : Sv} {x y : Pd} {u : Value} (h : Rs w T wr (M.set k { e with inn := l }) s vs) (hk : k < M.length) (hv : vs[k]? = some (a, b, d, so, (some ⟨g, 0, none⟩, n, c), sp)) (hy : l[m]? = some y) (hj : j < 7) (hx : pdC x = (pdC y).set j u) : Rs w T (wr.setCell ⟨g, m * 7 + j, none⟩ u) (M.set k { e with inn := l.set m x }) s vs := by
  have := h.inn hv (List.getElem?_set_self hk) hy hj hx
  rw [List.set_set] at this
  exact this
theorem Rs.ptr' {e : Ed} {l : List ByteArray} {m g n c a b d : Nat} {so si : Sv} {x : ByteArray} (h : Rs w T wr (M.set k { e with ptr := l }) s vs) (hk : k < M.length) (hv : vs[k]? = some (a, b, d, so, si, (some ⟨g, 0, none⟩, n, c))) (hm : m < l.length) : Rs w T (wr.setCell ⟨g, m, none⟩ (.string x)) (M.set k { e with ptr := l.set m x }) s vs := by
  have := h.ptr (x := x) hv (List.getElem?_set_self hk) hm
  rw [List.set_set] at this
  exact this
theorem Rs.cutp' {e : Ed} {l : List ByteArray} {m g nE cE n c a b d : Nat} {ap : Option Addr} {so si : Sv} (h : Rs w T wr (M.set k { e with ptr := l }) (some ⟨g, 0, none⟩, nE, cE) vs) (hk : k < M.length) (hv : vs[k]? = some (a, b, d, so, si, (ap, n, c))) (hm : m ≤ l.length) : Rs w T (wr.setCell ⟨g, k * 6 + 5, none⟩ (.slice ap m c)) (M.set k { e with ptr := l.take m }) (some ⟨g, 0, none⟩, nE, cE) (vs.set k (a, b, d, so, si, (ap, m, c))) := by
  have := h.cutp hv (List.getElem?_set_self hk) hm
  rw [List.set_set] at this
  exact this
end
end Mnf
end Go.Proofs.YtjbnnhephagdmaaDoor
