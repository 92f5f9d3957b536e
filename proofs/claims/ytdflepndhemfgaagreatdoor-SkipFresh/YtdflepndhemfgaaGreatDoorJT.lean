import Derived.Test.YtdflepndhemfgaaGreatDoorProg
import Derived.Test.YtdflepndhemfgaaGreatDoorJS
namespace Go.Proofs.YtdflepndhemfgaaGreatDoor
namespace BookI
open Go.RowKit Laws Irw
set_option linter.unusedVariables false

theorem own_block {w w' : World} {ty : TypeId} {v : Value} {n : Nat} {vs : List Value} (h : w.ownsRow 0 ty 1 v n vs) (hb : ∀ b, v.ownBlock = some b → w'.heap[b]? = w.heap[b]?) : w'.ownsRow 0 ty 1 v n vs := by
  refine ⟨h.1, ?_⟩
  rcases h.2 with h2 | ⟨g, cap, cur, hv, hg, hh, hr⟩
  · exact .inl h2
  · exact .inr ⟨g, cap, cur, hv, hg, (hb g (by rw [hv]; rfl)).trans hh, hr⟩
/-- The law's own things turn, and the book stays: their tags are 9000000 and above. -/
theorem Kept.goes {u : Nat → Prop} {T T' : Nat → Nat} {w w' : World} {K N : Nat} (h : Kept T w K N) (hg : Goes u T w T' w') (hu : ∀ x, u x → 9000000 ≤ x) : Kept T' w' K N := by
  obtain ⟨⟨f, L, o, x, M, D, h⟩, hz⟩ := h
  have hB : ∀ b, b < w.heap.size → T b < 9000000 → w'.heap[b]? = w.heap[b]? ∧ T' b = T b := fun b hb ht =>
    ⟨hg.block b hb (fun z => by have := hu _ z; omega), hg.tag b hb (fun z => by have := hu _ z; omega)⟩
  refine ⟨⟨f, L, o, x, M, D, { h with core := ⟨⟨Nat.lt_of_lt_of_le h.core.fld.1 hg.size, fun j hj => ?_⟩, ?_, fun j h1 h2 => ⟨own_block (h.core.spine j h1 h2).1 fun b hb => ?_, fun b hb => ?_⟩⟩, outs := fun p hm => ?_, waits := fun i p hi => ?_ }⟩, fun b hb => hg.high b hb (hz b (Nat.le_trans hg.size hb))⟩
  · have e := (hB K h.core.fld.1 (by rw [h.core.tag]; omega)).1
    rw [World.cell?_of_block (a := ⟨K, j, none⟩) e, World.frozen?_of_block (a := ⟨K, j, none⟩) e]
    exact h.core.fld.2 j hj
  · exact (hB K h.core.fld.1 (by rw [h.core.tag]; omega)).2.trans h.core.tag
  · have := (h.core.spine j h1 h2).2 b hb
    exact (hB b ((h.core.spine j h1 h2).1.lt b hb).2 (by omega)).1
  · have := (h.core.spine j h1 h2).2 b hb
    exact (hB b ((h.core.spine j h1 h2).1.lt b hb).2 (by omega)).2.trans this
  · obtain ⟨h1, h2, h3, h4, h5, h6⟩ := h.outs p hm
    have h7 : T p.1.1 = 100 := by
      rcases h6 with h6 | ⟨i, _, h6, _⟩
      · exact h6
      · simp at h6
    obtain ⟨b1, t1⟩ := hB p.1.1 h1.1 (by omega)
    obtain ⟨b2, t2⟩ := hB p.2.1 h2.1 (by omega)
    exact ⟨h1.keep b1 hg.size, h2.keep b2 hg.size, h3, h4, t2.trans h5, .inl (t1.trans h7)⟩
  · obtain ⟨h1, h2, h3, h4, h5, h6⟩ := h.waits i p hi
    have hl : i < x.length := (List.getElem?_eq_some_iff.1 hi).1
    have := h.many
    have := h.few
    obtain ⟨b1, t1⟩ := hB p.1.1 h1.lt (by omega)
    obtain ⟨b2, t2⟩ := hB p.2.1 h2.lt (by omega)
    exact ⟨h1.block b1, h2.block b2, h3, h4, t1.trans h5, t2.trans h6⟩

end BookI
end Go.Proofs.YtdflepndhemfgaaGreatDoor
