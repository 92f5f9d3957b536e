import Derived.Test.YtbloifnibgdeoaaByt
import Derived.WalkKit
namespace Go.Proofs.Ytbloifnibgdeoaa
namespace Byt
open Go.RowKit CMath
set_option linter.unusedVariables false

/-- A slice of bytes of the call's own, which may be nil. -/
structure New (T base : Nat) (w : World) (a : Option Addr) (c : Nat) (l : List Nat) : Prop where
  row : w.ownsRow base T 1 (.slice a l.length c) l.length (cellsB l)
  byte : ∀ x ∈ l, x < 256
theorem New.of {T base : Nat} {w : World} {v : Value} {n : Nat} {l : List Nat} (h : w.ownsRow base T 1 v n (cellsB l)) (hl : ∀ x ∈ l, x < 256) : ∃ a c, v = .slice a l.length c ∧ New T base w a c l := by
  obtain ⟨hn, ⟨h1, h2⟩ | ⟨g, c, h1, _⟩⟩ := isB_of_own h hl
  · refine ⟨none, 0, by rw [h1, h2]; rfl, ⟨?_, hl⟩⟩
    rw [hn] at h
    rw [h1] at h
    rw [h2] at h ⊢
    exact h
  · refine ⟨some ⟨g, 0, none⟩, c, by rw [h1, hn], ⟨?_, hl⟩⟩
    rw [h1, hn] at h
    exact h
theorem New.isB {T base : Nat} {w : World} {a : Option Addr} {c : Nat} {l : List Nat} (h : New T base w a c l) : IsB w a l := by
  obtain ⟨hn, ⟨h1, h2⟩ | ⟨g, c, h1, _, _, h3⟩⟩ := isB_of_own h.row h.byte
  · rw [h2]; exact IsB.nil _ _
  · cases h1
    exact IsB.some h3 h.byte
theorem New.cap {T base : Nat} {w : World} {a : Option Addr} {c : Nat} {l : List Nat} (h : New T base w a c l) : a = none → c = 0 := by
  intro e
  subst e
  rcases h.row.2 with ⟨h1, _⟩ | ⟨g, c, cur, h1, _⟩
  · simp at h1; exact h1.2
  · simp at h1
theorem New.le {T base : Nat} {w : World} {a : Option Addr} {c : Nat} {l : List Nat} (h : New T base w a c l) : l.length ≤ c := by
  rcases h.row.2 with ⟨h1, h2⟩ | ⟨g, c, cur, h1, _, _, h5, _⟩
  · omega
  · cases h1; exact h5
theorem New.max {T base : Nat} {w : World} {a : Option Addr} {c : Nat} {l : List Nat} (h : New T base w a c l) : c ≤ 9223372036854775807 := by
  rcases h.row.2 with ⟨h1, h2⟩ | ⟨g, c, cur, h1, _, _, _, h5, _⟩
  · simp at h1; omega
  · cases h1; exact h5
theorem New.below {T base : Nat} {w w' : World} {a : Option Addr} {c : Nat} {l : List Nat} (h : New T base w a c l) (hb : Below w.heap.size w w') : New T base w' a c l := by
  refine ⟨⟨h.row.1, ?_⟩, h.byte⟩
  rcases h.row.2 with h2 | ⟨g, cap, cur, hv, hg, hh, hr⟩
  · exact .inl h2
  · exact .inr ⟨g, cap, cur, hv, hg, (hb.block g (h.row.lt g (by rw [hv]; rfl)).2).trans hh, hr⟩
theorem New.lower {T base base' : Nat} {w : World} {a : Option Addr} {c : Nat} {l : List Nat} (h : New T base w a c l) (hb : base' ≤ base) : New T base' w a c l := by
  refine ⟨⟨h.row.1, ?_⟩, h.byte⟩
  rcases h.row.2 with h2 | ⟨g, cap, cur, hv, hg, hr⟩
  · exact .inl h2
  · exact .inr ⟨g, cap, cur, hv, by omega, hr⟩
theorem New.ofOwn {T base : Nat} {w : World} {v : Value} {l : List Nat} (h : Own T base w v l) : ∃ a c, v = .slice a l.length c ∧ New T base w a c l := New.of h.row h.byte

theorem byte_app {l r : List Nat} (hl : ∀ x ∈ l, x < 256) (hr : ∀ x ∈ r, x < 256) : ∀ x ∈ l ++ r, x < 256 := by
  intro x hx
  rcases List.mem_append.1 hx with hx | hx
  · exact hl x hx
  · exact hr x hx
end Byt
end Go.Proofs.Ytbloifnibgdeoaa
