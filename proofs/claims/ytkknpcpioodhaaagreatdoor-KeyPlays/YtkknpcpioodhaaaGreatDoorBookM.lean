import Derived.Test.YtkknpcpioodhaaaGreatDoorProg
import Derived.Test.YtkknpcpioodhaaaGreatDoorEntsR
import Derived.WalkKit
import Derived.WalkSpells
import Derived.WalkLawsBesides
namespace Go.Proofs.YtkknpcpioodhaaaGreatDoor
namespace Book
open Go.RowKit KMath Cmp Ent Chk Wei Ents
set_option linter.unusedVariables false

/-- A list that was handed out: its block, its capacity, what it holds. -/
abbrev Item := Nat × Nat × List En
def vI (a : Item) : Value := .slice (some ⟨a.1, 0, none⟩) a.2.2.length a.2.1
def OwnI (w : World) (a : Item) : Prop := w.ownsRow 0 49 4 (.slice (some ⟨a.1, 0, none⟩) a.2.2.length a.2.1) a.2.2.length (cellsE a.2.2)

theorem OwnI.lt {w : World} {a : Item} (h : OwnI w a) : a.1 < w.heap.size := (World.ownsRow.lt h _ rfl).2
theorem OwnI.block {w w' : World} {a : Item} (h : OwnI w a) (hb : w'.heap[a.1]? = w.heap[a.1]?) : OwnI w' a := by
  obtain ⟨h1, h2⟩ := h
  refine ⟨h1, ?_⟩
  rcases h2 with ⟨h2, _⟩ | ⟨g, cap, cur, hv, hg, hh, hr⟩
  · cases h2
  · cases hv
    exact .inr ⟨_, _, cur, rfl, hg, hb.trans hh, hr⟩
theorem OwnI.below {w w' : World} {a : Item} (h : OwnI w a) (hb : Below w.heap.size w w') : OwnI w' a := h.block (hb.block _ h.lt)
theorem OwnI.row {w : World} {a : Item} (h : OwnI w a) : EnRow w a.1 0 a.2.2 := by
  refine ⟨h.lt, fun i x hx => ?_⟩
  have hi : i < a.2.2.length := (List.getElem?_eq_some_iff.1 hx).1
  obtain ⟨h0, h1, h2, h3⟩ := cellsE_get a.2.2 i x hx
  refine ⟨?_, ?_, ?_, ?_⟩
  · rw [Nat.zero_add, World.ownsRow.cellAt h _ (by omega)]; exact h0
  · rw [Nat.zero_add, World.ownsRow.cellAt h _ (by omega)]; exact h1
  · rw [Nat.zero_add, World.ownsRow.cellAt h _ (by omega)]; exact h2
  · rw [Nat.zero_add, World.ownsRow.cellAt h _ (by omega)]; exact h3

set_option maxHeartbeats 1000000 in
theorem sameK_any (g1 c1 g2 c2 n : Nat) (es : List En) (w : World) (ha : EnRow w g1 0 es) (hb : EnRow w g2 0 es) (hn : es.length = n) (hl : n ≤ 1000000) :
    Calls Tryz.prog 53 #[.slice (some ⟨g1, 0, none⟩) n c1, .slice (some ⟨g2, 0, none⟩) n c2] w fun e w' => e = .returned (.bool true) ∧ Below w.heap.size w w' := by
  have HA : Hid (EnRow w g1 0 es) := ha
  have HB : Hid (EnRow w g2 0 es) := hb
  have HNN : Hid (es.length = n) := hn
  clear ha hb hn
  go_enter Tryz.func53, Tryz.ntmps53
  go_wp2
  go_loopw [5] (fun i wr => ∃ k : Nat, k ≤ n ∧ i = .int .i64 k ∧ Below w.heap.size w wr) (fun i _ => n - (intOf i).toNat)
  case atStart => exact ⟨0, Nat.zero_le _, rfl, Below.refl _ _⟩
  case round =>
    obtain ⟨k, hk, rfl, hbe⟩ := hrel
    by_cases hlt : k < n
    · have hlt' : k < es.length := by rw [HNN.out]; exact hlt
      obtain ⟨kk, ss, dd, vv, hx⟩ : ∃ kk ss dd vv, es[k]? = some (kk, ss, dd, vv) := ⟨_, _, _, _, List.getElem?_eq_getElem hlt'⟩
      have ha' := HA.out.below hbe HA.out.1
      have hb' := HB.out.below hbe HB.out.1
      have z1 := ha'.1
      have z2 := hb'.1
      obtain ⟨c0, c1', c2', c3⟩ := ha'.2 k _ hx
      obtain ⟨e0, e1, e2, e3⟩ := hb'.2 k _ hx
      simp only [Nat.zero_add] at c0 c1' c2' c3 e0 e1 e2 e3
      have q1 : (k : Int) < (n : Int) := by omega
      have HBE : Hid (Below w.heap.size w wr) := hbe
      have hsz := hbe.size
      clear hx hlt' ha' hb' hbe
      go_wp2
      go_roundw
      case rel => exact ⟨k + 1, by omega, by go_num, (HBE.out.alloc hsz _).alloc (by simp; omega) _⟩
      case measure => simp [intOf]; omega
    · go_wp2
      go_ret
      exact ⟨rfl, hbe⟩

/-- The book's spines: a list of lists, pairs of which hold the same. -/
def Pairs (w : World) (l : List (Item × Item)) : Prop := ∀ p ∈ l, OwnI w p.1 ∧ OwnI w p.2 ∧ p.1.2.2 = p.2.2.2 ∧ p.1.2.2.length ≤ 1000000

theorem Pairs.below {w w' : World} {l : List (Item × Item)} (h : Pairs w l) (hb : Below w.heap.size w w') : Pairs w' l := fun p hp => by
  obtain ⟨h1, h2, h3⟩ := h p hp
  exact ⟨h1.below hb, h2.below hb, h3⟩

/-- A spine: a row of slices, or nil. -/
def Spine (w : World) (v : Value) (l : List Value) : Prop := w.ownsRow 0 66 1 v l.length l
theorem Spine.block {w w' : World} {v : Value} {l : List Value} {base : Nat} {e : TypeId} {size n : Nat} (h : w.ownsRow base e size v n l) (hb : ∀ g, v.ownBlock = some g → w'.heap[g]? = w.heap[g]?) : w'.ownsRow base e size v n l := by
  obtain ⟨h1, h2⟩ := h
  refine ⟨h1, ?_⟩
  rcases h2 with h2 | ⟨g, cap, cur, hv, hg, hh, hr⟩
  · exact .inl h2
  · exact .inr ⟨g, cap, cur, hv, hg, (hb g (by rw [hv]; rfl)).trans hh, hr⟩
theorem own_below {w w' : World} {v : Value} {l : List Value} {base : Nat} {e : TypeId} {size n : Nat} (h : w.ownsRow base e size v n l) (hb : Below w.heap.size w w') : w'.ownsRow base e size v n l :=
  Spine.block h fun g hg => hb.block g (h.lt g hg).2
theorem Spine.shape {w : World} {v : Value} {l : List Value} (h : Spine w v l) (hn : l ≠ []) : ∃ g c, v = .slice (some ⟨g, 0, none⟩) l.length c ∧ g < w.heap.size ∧ ∀ i x, l[i]? = some x → w.cell? ⟨g, i, none⟩ = some x := by
  rcases h.2 with ⟨_, h0⟩ | ⟨g, c, cur, hv, _⟩
  · exact absurd (List.eq_nil_of_length_eq_zero h0) hn
  · have hh : w.ownsRow 0 66 1 (.slice (some ⟨g, 0, none⟩) l.length c) l.length l := by rw [← hv]; exact h
    refine ⟨g, c, hv, (hh.lt g rfl).2, fun i x hx => ?_⟩
    have hi := (List.getElem?_eq_some_iff.1 hx).1
    rw [hh.cellAt i (by omega)]
    exact hx
theorem Spine.len {w : World} {v : Value} {l : List Value} (h : Spine w v l) : ∃ a c, v = .slice a l.length c := by
  rcases h.2 with ⟨hv, h0⟩ | ⟨g, c, cur, hv, _⟩
  · exact ⟨none, 0, by rw [hv, h0]⟩
  · exact ⟨_, c, hv⟩

end Book
end Go.Proofs.YtkknpcpioodhaaaGreatDoor
