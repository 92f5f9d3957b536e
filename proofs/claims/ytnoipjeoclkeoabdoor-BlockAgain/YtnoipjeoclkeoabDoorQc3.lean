import Derived.Test.YtnoipjeoclkeoabDoorQc2
import Derived.Test.YtnoipjeoclkeoabDoorQcM
namespace Go.Proofs.YtnoipjeoclkeoabDoor
namespace Qb
open Go.RowKit Go.Shelf CMath Byt Laws Irw Crw Cod Qe
set_option linter.unusedVariables false
set_option linter.unusedSimpArgs false
set_option maxRecDepth 100000
attribute [local go_sem] Oper.semAt_some

/-- Blocks that hold no cells have the tag 0. -/
def NC (T : Nat → Nat) (w : World) : Prop := ∀ (b : Nat) (o : Obj), w.heap[b]? = some o → o.isCells = false → T b = 0
/-- Tags of blocks that hold cells alone. -/
def rt (T : Nat → Nat) (w : World) : Nat → Nat := fun b => if (∃ o, w.heap[b]? = some o ∧ o.isCells = false) then 0 else T b
open Classical in
theorem rt_cells {T : Nat → Nat} {w : World} {b : Nat} {o : Obj} (h : w.heap[b]? = some o) (ho : o.isCells = true) : rt T w b = T b := by
  unfold rt
  rw [if_neg]
  rintro ⟨o', h', ho'⟩
  rw [h] at h'
  cases h'
  rw [ho] at ho'
  cases ho'
theorem nc_rt (T : Nat → Nat) (w : World) : NC (rt T w) w := fun b o h ho => by unfold rt; rw [if_pos ⟨o, h, ho⟩]
theorem goes_rt {u : Nat → Prop} {T T' : Nat → Nat} {w w' : World} (hg : Goes u T w T' w') (hn : NC T w) : Goes u T w (rt T' w') w' := by
  refine ⟨hg.os, hg.tape, hg.output, hg.size, hg.block, fun b hb hu => ?_, fun b hb h0 => ?_⟩
  · unfold rt
    split
    · rename_i h
      obtain ⟨o, h1, h2⟩ := h
      rw [hg.block b hb hu] at h1
      exact (hn b o h1 h2).symm
    · exact hg.tag b hb hu
  · unfold rt
    split
    · rfl
    · exact hg.high b hb h0
theorem keeps_of {u : Nat → Prop} {T T' : Nat → Nat} {w w' : World} (hg : Goes u T w T' w') (hn : NC T w) (h0 : ¬ u 0) (B : Nat) : KeepsFrom B w w' :=
  ⟨hg.size, fun b o _ h ho => (hg.block b (Array.getElem?_eq_some_iff.1 h).1 (by rw [hn b o h ho]; exact h0)).trans h⟩
theorem NC.grown {T : Nat → Nat} {A C : World} {row : Option Nat} (hn : NC T A) (hi : ∀ b, A.heap.size ≤ b → T b = 0) (hg : A.grownBy C row) (hr : ∀ r, row = some r → ∃ o : Obj, A.heap[r]? = some o ∧ o.isCells = false) : NC T C := fun b o h ho => by
  by_cases hb : b < A.heap.size
  · by_cases hr' : row = some b
    · obtain ⟨o', h1, h2⟩ := hr b hr'
      exact hn b o' h1 h2
    · rw [hg.block b hb (fun e => hr' e.symm)] at h
      exact hn b o h ho
  · exact hi b (by omega)
theorem NC.below {T : Nat → Nat} {w w' : World} (hn : NC T w) (hi : ∀ b, w.heap.size ≤ b → T b = 0) (hb : Below w.heap.size w w') : NC T w' := fun b o h ho => by
  by_cases hlt : b < w.heap.size
  · rw [hb.block b hlt] at h
    exact hn b o h ho
  · exact hi b (by omega)
theorem ownB_rt {t : Nat} {T : Nat → Nat} {w : World} {v : Value} {l : List Nat} (h : OwnB t T w v l) : OwnB t (rt T w) w v l := by
  refine ⟨⟨h.own.1, fun g hv => ?_⟩, h.byte⟩
  rcases h.own.1.2 with ⟨h1, _⟩ | ⟨g', cap, cur, hv', _, hh, _⟩
  · rw [h1] at hv; cases hv
  · rw [hv'] at hv
    cases hv
    rw [rt_cells hh rfl]
    exact h.own.2 _ (by rw [hv']; rfl)
theorem cells_of {w : World} {b j : Nat} {v : Value} (h : w.cell? ⟨b, j, none⟩ = some v) : ∃ o : Obj, w.heap[b]? = some o ∧ o.isCells = true := by
  unfold World.cell? at h
  cases hh : w.heap[b]? with
  | none => simp [hh] at h
  | some o =>
    refine ⟨o, rfl, ?_⟩
    cases o <;> simp [hh, Obj.isCells] at h ⊢
theorem rt_cell {T : Nat → Nat} {w : World} {b j : Nat} {v : Value} (h : w.cell? ⟨b, j, none⟩ = some v) : rt T w b = T b := by
  obtain ⟨o, h1, h2⟩ := cells_of h
  exact rt_cells h1 h2
theorem MakerAt.rt {t : Nat} {T : Nat → Nat} {w : World} {M : Nat} {r : Int} {S : St} (p : MakerAt t T w M r S) : MakerAt t (rt T w) w M r S := by
  obtain ⟨v3, h3, o3⟩ := p.c3
  obtain ⟨v4, h4, o4⟩ := p.c4
  exact ⟨p.lt, (rt_cell p.c0).trans p.tag, p.c0, p.c1, p.c2, ⟨v3, h3, ownB_rt o3⟩, ⟨v4, h4, ownB_rt o4⟩, p.fz, p.last⟩

theorem conv_any (w : World) (a : Option Addr) (n c : Nat) (l : List Nat) (h : IsB w a l) (hn : n = l.length) (hc : a = none → c = 0) : (convert 22 9 (.slice a n c)).run Tryd.prog w = .ok (.string (ofB l)) w := by
  cases a with
  | none =>
    have hl : l = [] := by
      rcases l with _ | ⟨x, t⟩
      · rfl
      · obtain ⟨b, off, e, _⟩ := h.1 (by simp); cases e
    subst hl
    subst hn
    rw [hc rfl]
    exact conv_nil w
  | some ad => exact conv_back w ad c n l h hn
theorem ofB_eq {l l' : List Nat} (h : ∀ x ∈ l, x < 256) (h' : ∀ x ∈ l', x < 256) : ((ofB l).toList == (ofB l').toList) = decide (l = l') := by
  by_cases e : l = l'
  · subst e; simp
  · rw [decide_eq_false e, beq_eq_false_iff_ne]
    intro he
    apply e
    have : ofB l = ofB l' := by
      rw [ByteArray.toList_eq, ByteArray.toList_eq] at he
      exact ByteArray.ext (Array.toList_inj.1 he)
    rw [← strB_ofB h, ← strB_ofB h', this]
set_option maxHeartbeats 1000000 in
theorem equal_any (a a' : Option Addr) (n c n' c' : Nat) (l l' : List Nat) (w : World) (h : IsB w a l) (h' : IsB w a' l') (hn : n = l.length) (hn' : n' = l'.length) (hc : a = none → c = 0) (hc' : a' = none → c' = 0) :
    Calls Tryd.prog 22 #[.slice a n c, .slice a' n' c'] w fun e w' => e = .returned (.bool (decide (l = l'))) ∧ w' = w := by
  have hv1 := conv_any w a n c l h hn hc
  have hv2 := conv_any w a' n' c' l' h' hn' hc'
  rw [← ofB_eq h.2 h'.2]
  clear h h' hn hn' hc hc'
  generalize ofB l = x at *
  generalize ofB l' = y at *
  go_enter Tryd.func22, Tryd.ntmps22
  go_wp2
  go_ret
  exact ⟨rfl, rfl⟩
end Qb
end Go.Proofs.YtnoipjeoclkeoabDoor
