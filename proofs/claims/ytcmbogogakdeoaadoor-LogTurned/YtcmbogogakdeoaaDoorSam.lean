import Derived.Test.YtcmbogogakdeoaaDoorProg
import Derived.Test.YtcmbogogakdeoaaDoorPut
import Derived.WalkKit
import Derived.WalkSpells
import Derived.WalkLawsBesides
import Derived.Deep.QuietTactic
import Derived.BigQuiet
namespace Go.Proofs.YtcmbogogakdeoaaDoor
namespace Cod
open Go.RowKit CMath Byt
set_option linter.unusedVariables false
set_option maxRecDepth 20000

/-- A slice of bytes of the call's own, which may be nil. -/
structure New (T base : Nat) (w : World) (a : Option Addr) (c : Nat) (l : List Nat) : Prop where
  row : w.ownsRow base T 1 (.slice a l.length c) l.length (cellsB l)
  byte : ∀ x ∈ l, x < 256
theorem New.of {T base : Nat} {w : World} {v : Value} {n : Nat} {l : List Nat} (h : w.ownsRow base T 1 v n (cellsB l)) (hl : ∀ x ∈ l, x < 256) : ∃ a c, v = .slice a l.length c ∧ New T base w a c l := by
  obtain ⟨hn, ⟨h1, h2⟩ | ⟨g, c, h1, _⟩⟩ := isB_of_own h hl
  · refine ⟨none, 0, by rw [h1, h2]; rfl, ⟨?_, hl⟩⟩
    rw [hn] at h
    rw [h1] at h
    rw [h2] at h ⊢
    exact h
  · refine ⟨some ⟨g, 0, none⟩, c, by rw [h1, hn], ⟨?_, hl⟩⟩
    rw [h1, hn] at h
    exact h
theorem New.isB {T base : Nat} {w : World} {a : Option Addr} {c : Nat} {l : List Nat} (h : New T base w a c l) : IsB w a l := by
  obtain ⟨hn, ⟨h1, h2⟩ | ⟨g, c, h1, _, _, h3⟩⟩ := isB_of_own h.row h.byte
  · rw [h2]; exact IsB.nil _ _
  · cases h1
    exact IsB.some h3 h.byte
theorem New.cap {T base : Nat} {w : World} {a : Option Addr} {c : Nat} {l : List Nat} (h : New T base w a c l) : a = none → c = 0 := by
  intro e
  subst e
  rcases h.row.2 with ⟨h1, _⟩ | ⟨g, c, cur, h1, _⟩
  · simp at h1; exact h1.2
  · simp at h1
theorem New.le {T base : Nat} {w : World} {a : Option Addr} {c : Nat} {l : List Nat} (h : New T base w a c l) : l.length ≤ c := by
  rcases h.row.2 with ⟨h1, h2⟩ | ⟨g, c, cur, h1, _, _, h5, _⟩
  · omega
  · cases h1; exact h5
theorem New.max {T base : Nat} {w : World} {a : Option Addr} {c : Nat} {l : List Nat} (h : New T base w a c l) : c ≤ 9223372036854775807 := by
  rcases h.row.2 with ⟨h1, h2⟩ | ⟨g, c, cur, h1, _, _, _, h5, _⟩
  · simp at h1; omega
  · cases h1; exact h5
theorem New.below {T base : Nat} {w w' : World} {a : Option Addr} {c : Nat} {l : List Nat} (h : New T base w a c l) (hb : Below w.heap.size w w') : New T base w' a c l := by
  refine ⟨⟨h.row.1, ?_⟩, h.byte⟩
  rcases h.row.2 with h2 | ⟨g, cap, cur, hv, hg, hh, hr⟩
  · exact .inl h2
  · exact .inr ⟨g, cap, cur, hv, hg, (hb.block g (h.row.lt g (by rw [hv]; rfl)).2).trans hh, hr⟩
theorem New.lower {T base base' : Nat} {w : World} {a : Option Addr} {c : Nat} {l : List Nat} (h : New T base w a c l) (hb : base' ≤ base) : New T base' w a c l := by
  refine ⟨⟨h.row.1, ?_⟩, h.byte⟩
  rcases h.row.2 with h2 | ⟨g, cap, cur, hv, hg, hr⟩
  · exact .inl h2
  · exact .inr ⟨g, cap, cur, hv, by omega, hr⟩
theorem New.ofOwn {T base : Nat} {w : World} {v : Value} {l : List Nat} (h : Own T base w v l) : ∃ a c, v = .slice a l.length c ∧ New T base w a c l := New.of h.row h.byte

theorem byte_app {l r : List Nat} (hl : ∀ x ∈ l, x < 256) (hr : ∀ x ∈ r, x < 256) : ∀ x ∈ l ++ r, x < 256 := by
  intro x hx
  rcases List.mem_append.1 hx with hx | hx
  · exact hl x hx
  · exact hr x hx

set_option maxHeartbeats 1000000 in
theorem same_any (a b : Option Addr) (ca cb n m : Nat) (l : List Nat) (w : World) (ha : IsB w a l) (hb : IsB w b l) (hlen : l.length ≤ 9223372036854775807) (hn : n = l.length) (hm : m = l.length) :
    Calls Tryd.prog 12 #[.slice a n ca, .slice b m cb] w fun e w' => e = .returned (.bool true) ∧ ∃ n, w' = w.drewN n := by
  subst hn
  subst hm
  have HA : Hid (l ≠ [] → ∃ b off, a = some ⟨b, off, none⟩ ∧ BRow w b off l) := ha.1
  have HB : Hid (l ≠ [] → ∃ b' off, b = some ⟨b', off, none⟩ ∧ BRow w b' off l) := hb.1
  clear ha hb
  go_enter Tryd.func12, Tryd.ntmps12
  go_wp2
  go_loopw [5] (fun i wr => ∃ k n : Nat, k ≤ l.length ∧ i = .int .i64 k ∧ wr = w.drewN n) (fun i _ => l.length - (intOf i).toNat)
  case atStart => exact ⟨0, 0, Nat.zero_le _, rfl, rfl⟩
  case round =>
    obtain ⟨k, n, hk, rfl, rfl⟩ := hrel
    by_cases hlt : k < l.length
    · have hne : l ≠ [] := by intro e; rw [e] at hlt; simp at hlt
      obtain ⟨b1, o1, rfl, hr1⟩ := HA.out hne
      obtain ⟨b2, o2, rfl, hr2⟩ := HB.out hne
      obtain ⟨x, hx⟩ : ∃ x, l[k]? = some x := ⟨_, List.getElem?_eq_getElem hlt⟩
      have c0 := hr1.2 k _ hx
      have e0 := hr2.2 k _ hx
      have q1 : (k : Int) < (l.length : Int) := by omega
      clear hx hne
      go_wp2
      go_quiet (fail)
      go_wp2
      go_roundw
      case rel => exact ⟨k + 1, _, by omega, by go_num, rfl⟩
      case measure => simp [intOf]; omega
    · go_wp2
      go_ret
      exact ⟨rfl, _, rfl⟩

end Cod
end Go.Proofs.YtcmbogogakdeoaaDoor
