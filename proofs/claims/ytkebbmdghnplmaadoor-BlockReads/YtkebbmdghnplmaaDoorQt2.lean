import Derived.Test.YtkebbmdghnplmaaDoorQt1
import Derived.Test.YtkebbmdghnplmaaDoorQc6
import Derived.Test.YtkebbmdghnplmaaDoorQd4
namespace Go.Proofs.YtkebbmdghnplmaaDoor
namespace Qt
open Go.RowKit CMath Byt Laws Irw Crw Cod Qb
set_option linter.unusedVariables false
set_option maxRecDepth 100000
set_option linter.unusedSimpArgs false
/-- A block that was opened, beside the document's entries of it: both lie in blocks that no append to the list 'seen' (tag 9) writes. -/
structure ShOk (T : Nat → Nat) (W : World) (x : Nat × Sv) (y : Nat × List Qb.En) : Prop where
  bl : BlkAt (· = 9) T W x.1 3 (pushes y.1 st0 y.2).b (pushes y.1 st0 y.2).p
  en : Erw.IsE W x.2.1 y.2
  tg : ∀ b off, x.2.1 = some ⟨b, off, none⟩ → y.2 ≠ [] → T b ≠ 9
  ln : x.2.2.1 = y.2.length
theorem ShOk.goes {T T' : Nat → Nat} {w w' : World} {x : Nat × Sv} {y : Nat × List Qb.En} (h : ShOk T w x y) (hg : Goes (· = 9) T w T' w') : ShOk T' w' x y := by
  refine ⟨h.bl.goes hg, fun hne => ?_, fun b off e hne => ?_, h.ln⟩
  · obtain ⟨b, off, e, hr⟩ := h.en hne
    exact ⟨b, off, e, hr.keep (hg.block b hr.1 (h.tg b off e hne)) hg.size⟩
  · obtain ⟨b', off', e', hr⟩ := h.en hne
    rw [e] at e'
    cases e'
    rw [hg.tag b hr.1 (h.tg b off e hne)]
    exact h.tg b off e hne
theorem ShOk.below {T : Nat → Nat} {w w' : World} {x : Nat × Sv} {y : Nat × List Qb.En} (h : ShOk T w x y) (hb : Below w.heap.size w w') : ShOk T w' x y := h.goes (Goes.below hb)
/-- The list 'seen', and what each thing of it is. -/
structure Seen (w0 : World) (T : Nat → Nat) (W : World) (v : Value) (xs : List (Nat × Sv)) (ys : List (Nat × List Qb.En)) : Prop where
  ow : OwnK kSh 9 T W v xs
  ln : xs.length = ys.length
  ok : ∀ (i : Nat) x y, xs[i]? = some x → ys[i]? = some y → ShOk T W x y
  md : ∀ y ∈ ys, ∃ b : List Nat, b.length ≤ 131072 ∧ opn b = some y
  bl : Below w0.heap.size w0 W
  hi : Hi T W
  fr : ∀ b, b < w0.heap.size → T b = 0
theorem Seen.below {w0 : World} {T : Nat → Nat} {W W' : World} {v : Value} {xs : List (Nat × Sv)} {ys : List (Nat × List Qb.En)} (h : Seen w0 T W v xs ys) (hb : Below W.heap.size W W') : Seen w0 T W' v xs ys :=
  ⟨h.ow.below hb, h.ln, fun i x y hx hy => (h.ok i x y hx hy).below hb, h.md, h.bl.trans (hb.mono h.bl.size), h.hi.below hb.size, h.fr⟩
theorem Seen.nil (w : World) : Seen w (fun _ => 0) w (.slice none 0 0) [] [] :=
  ⟨OwnK.empty _ _ _, rfl, fun i x y hx => by simp at hx, fun y hy => by simp at hy, Below.refl _ _, fun _ _ => rfl, fun _ _ => rfl⟩
/-- One more, behind an append. -/
theorem Seen.app {w0 : World} {T T' : Nat → Nat} {W W' : World} {v v' : Value} {xs : List (Nat × Sv)} {ys : List (Nat × List Qb.En)} {x : Nat × Sv} {y : Nat × List Qb.En} {b : List Nat} (h : Seen w0 T W v xs ys) (hx : ShOk T W x y) (hb : b.length ≤ 131072) (ho : opn b = some y) (hg : Goes (· = 9) T W T' W') (hv : OwnK kSh 9 T' W' v' (xs ++ [x])) : Seen w0 T' W' v' (xs ++ [x]) (ys ++ [y]) := by
  refine ⟨hv, by simp [h.ln], fun i x1 y1 h1 h2 => ?_, fun z hz => ?_, ?_, h.hi.goes hg, fun b hb => (hg.tag b (Nat.lt_of_lt_of_le hb h.bl.size) (by rw [h.fr b hb]; omega)).trans (h.fr b hb)⟩
  · by_cases hi : i < xs.length
    · rw [List.getElem?_append_left hi] at h1
      rw [List.getElem?_append_left (by rw [← h.ln]; exact hi)] at h2
      exact (h.ok i x1 y1 h1 h2).goes hg
    · have hi2 : i = xs.length := by
        have := (List.getElem?_eq_some_iff.1 h1).1
        simp at this
        omega
      subst hi2
      rw [List.getElem?_concat_length] at h1
      rw [h.ln, List.getElem?_concat_length] at h2
      cases h1
      cases h2
      exact hx.goes hg
  · rcases List.mem_append.1 hz with hz | hz
    · exact h.md z hz
    · rw [List.mem_singleton.1 hz]; exact ⟨b, hb, ho⟩
  · exact h.bl.trans ⟨hg.os, hg.tape, hg.output, hg.size, fun b hb => hg.block b (Nat.lt_of_lt_of_le hb h.bl.size) (by rw [h.fr b hb]; omega)⟩
/-- What the program's Open and the document's leave is one thing more. -/
theorem ShOk.of {T : Nat → Nat} {w w1 w2 : World} {M : Nat} {a : Option Addr} {n c : Nat} {y : Nat × List Qb.En} (hi : Hi T w) (hk : BlkF w.heap.size w1 M 3 (pushes y.1 st0 y.2).b (pushes y.1 st0 y.2).p) (h12 : Below w1.heap.size w1 w2) (hs : w.heap.size ≤ w1.heap.size) (he : Erw.IsE w2 a y.2) (hn : n = y.2.length) (ha : y.2 ≠ [] → ∃ g o, a = some ⟨g, o, none⟩ ∧ w1.heap.size ≤ g) : ShOk T w2 (M, a, n, c) y := by
  have h9 : ∀ b, w.heap.size ≤ b → ¬ T b = 9 := fun b hb => by rw [hi b hb]; omega
  have hup : BlkAt (· = 9) T w1 M 3 (pushes y.1 st0 y.2).b (pushes y.1 st0 y.2).p := by
    obtain ⟨a1, c1, e1, e2, e3, e4, e5⟩ := hk.ent
    obtain ⟨a2, c2, f1, f2, f3, f4, f5⟩ := hk.pla
    exact ⟨hk.lt, h9 _ (Nat.le_of_not_lt hk.tag), ⟨a1, c1, e1, e2, e3, e4, fun b off e hne => h9 _ (Nat.le_of_not_lt (e5 b off e hne))⟩, ⟨a2, c2, f1, f2, f3, f4, fun b off e hne => h9 _ (Nat.le_of_not_lt (f5 b off e hne))⟩⟩
  refine ⟨hup.below h12, he, fun b off e hne => ?_, hn⟩
  obtain ⟨g, o, e2, hg⟩ := ha hne
  have e' : a = some ⟨b, off, none⟩ := e
  rw [e2] at e'
  cases e'
  exact h9 _ (by omega)
end Qt
end Go.Proofs.YtkebbmdghnplmaaDoor
