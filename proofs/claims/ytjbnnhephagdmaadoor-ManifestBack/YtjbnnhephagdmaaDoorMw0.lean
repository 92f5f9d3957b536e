import Derived.Test.YtjbnnhephagdmaaDoorMl3
namespace Go.Proofs.YtjbnnhephagdmaaDoor
namespace Mnf
open Go.RowKit CMath Byt Cod Crw Irw Laws
set_option linter.unusedVariables false
theorem tabs_puts (e : Ed) : tabs e ≤ 256 * (puts e).length := by
  have := puts_len (tabs e) e (Nat.le_refl _)
  omega
theorem sum_len (l : List (List Nat)) : l.length ≤ (l.map bulkD).sum := by
  induction l with
  | nil => simp
  | cons x l ih =>
    rw [List.map_cons, List.sum_cons, List.length_cons]
    unfold bulkD at *
    omega
theorem split_at {α : Type} {es : List α} {k : Nat} {e : α} (hk : es[k]? = some e) : es = es.take k ++ e :: es.drop (k + 1) := by
  obtain ⟨h1, h2⟩ := List.getElem?_eq_some_iff.1 hk
  rw [← h2, ← List.drop_eq_getElem_cons h1, List.take_append_drop]
def pos (es : List Ed) (k : Nat) : Nat := ((es.take k).flatMap puts).length
theorem pos_zero (es : List Ed) : pos es 0 = 0 := by simp [pos]
theorem pos_step {es : List Ed} {k : Nat} {e : Ed} (hk : es[k]? = some e) : pos es (k + 1) = pos es k + (puts e).length := by
  unfold pos
  rw [List.take_add_one, hk]
  simp [List.flatMap_append]
theorem pos_at {es : List Ed} {k : Nat} {e : Ed} (hk : es[k]? = some e) {recs tail : List (List Nat)} (h : recs = es.flatMap puts ++ tail) {j : Nat} {l : List Nat} (hl : (puts e)[j]? = some l) : recs[pos es k + j]? = some l := by
  have hj : j < (puts e).length := (List.getElem?_eq_some_iff.1 hl).1
  have e1 : es.flatMap puts = (es.take k).flatMap puts ++ (puts e ++ (es.drop (k + 1)).flatMap puts) := by
    conv => lhs; rw [split_at hk]
    simp [List.flatMap_append]
  rw [h, e1, List.append_assoc]
  unfold pos
  rw [List.getElem?_append_right (by omega), List.append_assoc, List.getElem?_append_left (by omega)]
  rw [Nat.add_sub_cancel_left]
  exact hl
theorem pos_le {es : List Ed} {recs tail : List (List Nat)} (h : recs = es.flatMap puts ++ tail) {k : Nat} {e : Ed} (hk : es[k]? = some e) : pos es k + (puts e).length ≤ recs.length := by
  have hne : (puts e)[(puts e).length - 1]? = some ((puts e)[(puts e).length - 1]'(by have := puts_len (tabs e) e (Nat.le_refl _); omega)) := List.getElem?_eq_getElem _
  have := (List.getElem?_eq_some_iff.1 (pos_at hk h hne)).1
  have := puts_len (tabs e) e (Nat.le_refl _)
  omega
theorem pos_end {es : List Ed} {recs tail : List (List Nat)} (h : recs = es.flatMap puts ++ tail) {k : Nat} (hk : es.length ≤ k) : pos es k ≤ recs.length := by
  unfold pos
  rw [List.take_of_length_le hk, h, List.length_append]
  omega
theorem es_len (es : List Ed) : es.length ≤ (es.flatMap puts).length := by
  induction es with
  | nil => simp
  | cons e es ih =>
    have h := puts_len (tabs e) e (Nat.le_refl _)
    have h2 : 1 ≤ (puts e).length := by rw [h]; omega
    rw [List.flatMap_cons, List.length_append, List.length_cons]
    omega
/-- an edit of a list as it lies -/
theorem eds_at {w : World} {s : Sv} {es : List Ed} (h : EdsAt w s es) {k : Nat} {e : Ed} (hk : es[k]? = some e) : ∃ b off v, s.1 = some ⟨b, off, none⟩ ∧ b < w.heap.size ∧ (∀ j u, (kE.cs v)[j]? = some u → w.cell? ⟨b, off + k * 6 + j, none⟩ = some u) ∧ EdAt w v e := by
  obtain ⟨vs, h1, h2, h3, h4, h5, h6⟩ := h
  have hl : k < es.length := (List.getElem?_eq_some_iff.1 hk).1
  obtain ⟨b, off, e1, r⟩ := h5 (by rintro rfl; simp at h1; omega)
  have hv : vs[k]? = some (vs[k]'(by omega)) := List.getElem?_eq_getElem _
  exact ⟨b, off, _, e1, r.1, fun j u hu => r.2 k _ hv j u hu, h6 k _ e hv hk⟩
end Mnf
end Go.Proofs.YtjbnnhephagdmaaDoor
