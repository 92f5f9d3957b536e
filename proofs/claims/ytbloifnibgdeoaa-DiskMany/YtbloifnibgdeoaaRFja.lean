import Derived.Test.YtbloifnibgdeoaaRLtw
namespace Go.Proofs.Ytbloifnibgdeoaa
namespace Dsk
open Go.RowKit Go.Shelf Go.Maps Go.Sort Byt Laws
set_option linter.unusedVariables false
set_option maxRecDepth 100000
set_option linter.unusedSimpArgs false

/-- The cells of files that were told. -/
theorem FjOwn.cells {base : Nat} {w : World} {v : Value} {fs : List Fj} {ds : List (Option Addr × Nat)} (h : FjOwn base w v fs ds) {j : Nat} {f : Fj} {x : Option Addr × Nat} (hf : fs[j]? = some f) (hx : ds[j]? = some x) :
    ∃ g cap, v = .slice (some ⟨g, 0, none⟩) fs.length cap ∧ fs.length ≤ cap ∧ cap ≤ 9223372036854775807 ∧ w.cell? ⟨g, j * 3, none⟩ = some (.string f.name) ∧ w.cell? ⟨g, j * 3 + 1, none⟩ = some (.slice x.1 f.data.length x.2) ∧ w.cell? ⟨g, j * 3 + 2, none⟩ = some (.int .i64 f.sure) := by
  have key : ∀ {fs : List Fj} {ds : List (Option Addr × Nat)} {j : Nat} {f : Fj} {x : Option Addr × Nat}, fs[j]? = some f → ds[j]? = some x → ∀ t, t < 3 → (fjRow fs ds)[j * 3 + t]? = ([.string f.name, .slice x.1 f.data.length x.2, .int .i64 f.sure] : List Value)[t]? := by
    intro fs
    induction fs with
    | nil => intro ds j f x hf; simp at hf
    | cons f0 r ih =>
      intro ds j f x hf hx t ht
      cases ds with
      | nil => simp at hx
      | cons x0 dr =>
        cases j with
        | zero =>
          simp at hf hx; subst hf; subst hx
          match t, ht with
          | 0, _ => rfl
          | 1, _ => rfl
          | 2, _ => rfl
        | succ j =>
          simp at hf hx
          have e : (j + 1) * 3 + t = (j * 3 + t) + 3 := by omega
          rw [e, ← ih hf hx t ht]
          rfl
  have hlt : j < fs.length := (List.getElem?_eq_some_iff.1 hf).1
  rcases h.row.2 with ⟨_, h0⟩ | ⟨g, cap, cur, rfl, h1, h2, h3, h4, h5, h6⟩
  · omega
  · have hc : ∀ t, t < 3 → w.cell? ⟨g, j * 3 + t, none⟩ = ([.string f.name, .slice x.1 f.data.length x.2, .int .i64 f.sure] : List Value)[t]? := by
      intro t ht
      rw [Go.Joins.cell_of_block h2, ← key hf hx t ht, ← h6, List.getElem?_take, if_pos (by omega)]
      simp
    exact ⟨g, cap, rfl, h3, h4, hc 0 (by omega), hc 1 (by omega), hc 2 (by omega)⟩


/-- Files that were made anew are files that lie there. -/
theorem FjOwn.at_ {base : Nat} {w w0 : World} {v : Value} {fs : List Fj} {ds ds0 : List (Option Addr × Nat)} {a0 : Option Addr} (h : FjOwn base w v fs ds) (h0 : FjAt w0 a0 fs ds0) :
    ∃ a c, v = .slice a fs.length c ∧ fs.length ≤ c ∧ c ≤ 9223372036854775807 ∧ FjAt w a fs ds := by
  obtain ⟨a, c, e⟩ := own_slice h.row
  subst e
  have hcc : fs.length ≤ c ∧ c ≤ 9223372036854775807 := by
    rcases h.row.2 with ⟨e, e0⟩ | ⟨g, cap, cur, e, q1, q2, q3, q4, q5, q6⟩
    · obtain ⟨_, _, e3⟩ := Value.slice.inj e; omega
    · obtain ⟨_, _, e3⟩ := Value.slice.inj e; unfold maxLen at q4; omega
  refine ⟨a, c, rfl, hcc.1, hcc.2, h.len, fun j f x hf hx => ?_⟩
  obtain ⟨g, cap, e, z1, z2, c0, c1, c2⟩ := h.cells hf hx
  obtain ⟨rfl, _, rfl⟩ := Value.slice.inj e
  have n1 := (h.data j f x hf hx).1
  have hj := (List.getElem?_eq_some_iff.1 hf).1
  obtain ⟨x0, hx0⟩ : ∃ x, ds0[j]? = some x := ⟨_, List.getElem?_eq_getElem (by rw [h0.len]; exact hj)⟩
  obtain ⟨_, _, _, _, _, b1, b2, b3⟩ := h0.at_ j f x0 hf hx0
  have hx2 : f.data.length ≤ x.2 ∧ x.2 ≤ 9223372036854775807 := by
    rcases n1.row.2 with ⟨e, e0⟩ | ⟨g, cap, cur, e, q1, q2, q3, q4, q5, q6⟩
    · obtain ⟨_, _, e3⟩ := Value.slice.inj e; omega
    · obtain ⟨_, _, e3⟩ := Value.slice.inj e; unfold maxLen at q4; omega
  exact ⟨⟨g, 0, rfl, by rw [Nat.zero_add]; exact c0, by rw [Nat.zero_add]; exact c1, by rw [Nat.zero_add]; exact c2⟩, n1.isB, n1.cap, hx2.1, hx2.2, b1, b2, b3⟩
end Dsk
end Go.Proofs.Ytbloifnibgdeoaa
