import Derived.Test.YtjnmklbhhlfhcaaGreatDoorProg
import Derived.Test.YtjnmklbhhlfhcaaGreatDoorNH
import Derived.Test.YtjnmklbhhlfhcaaGreatDoorLaws
import Derived.WalkKit
import Derived.WalkSpells
import Derived.WalkLawsBesides
namespace Go.Proofs.YtjnmklbhhlfhcaaGreatDoor
namespace BookB
open Go.RowKit CMath Byt Cod Laws
set_option linter.unusedVariables false

def upd {α : Type} (f : Nat → α) (j : Nat) (v : α) : Nat → α := fun i => if i = j then v else f i
theorem upd_same {α : Type} (f : Nat → α) (j : Nat) (v : α) : upd f j v j = v := by simp [upd]
theorem upd_other {α : Type} (f : Nat → α) {i j : Nat} (v : α) (h : i ≠ j) : upd f j v i = f i := by simp [upd, h]

/-- The type of what a spine holds: lists, or numbers. -/
def ety (j : Nat) : TypeId := if j < 9 then 63 else 3

/-- The book's core: its fields, and its spines, each in a block of its own. T: whose a block is. -/
structure Core (T : Nat → Nat) (w : World) (K : Nat) (f : Nat → Value) (L : Nat → List Value) : Prop where
  fld : Fld w K f
  tag : T K = 1
  spine : ∀ j, 4 ≤ j → j < 12 → w.ownsRow 0 (ety j) 1 (f j) (L j).length (L j) ∧ ∀ b, (f j).ownBlock = some b → T b = j

/-- From one moment to a later one: no block whose tag is t or above has turned. -/
structure Past (t : Nat) (T : Nat → Nat) (w : World) (T' : Nat → Nat) (w' : World) : Prop where
  os : w'.os = w.os
  tape : w'.tape = w.tape
  output : w'.output = w.output
  size : w.heap.size ≤ w'.heap.size
  block : ∀ b, b < w.heap.size → (T b = 0 ∨ t ≤ T b) → w'.heap[b]? = w.heap[b]? ∧ T' b = T b
theorem Past.refl (t : Nat) (T : Nat → Nat) (w : World) : Past t T w T w := ⟨rfl, rfl, rfl, Nat.le_refl _, fun _ _ _ => ⟨rfl, rfl⟩⟩
theorem Past.trans {t : Nat} {T T' T'' : Nat → Nat} {w w' w'' : World} (h : Past t T w T' w') (k : Past t T' w' T'' w'') : Past t T w T'' w'' :=
  ⟨k.os.trans h.os, k.tape.trans h.tape, k.output.trans h.output, Nat.le_trans h.size k.size, fun b hb ht => by
    obtain ⟨h1, h2⟩ := h.block b hb ht
    obtain ⟨k1, k2⟩ := k.block b (Nat.lt_of_lt_of_le hb h.size) (by rw [h2]; exact ht)
    exact ⟨k1.trans h1, k2.trans h2⟩⟩
theorem Past.item {t : Nat} {T T' : Nat → Nat} {w w' : World} (h : Past t T w T' w') {a : Item} (ha : OwnI w a) (ht : T a.1 = 0 ∨ t ≤ T a.1) : OwnI w' a ∧ T' a.1 = T a.1 := by
  obtain ⟨h1, h2⟩ := h.block a.1 ha.lt ht
  exact ⟨ha.block h1, h2⟩

theorem Fld.set {w : World} {K : Nat} {f : Nat → Value} (h : Fld w K f) (j : Nat) (hj : j < 175) (v : Value) : Fld (w.setCell ⟨K, j, none⟩ v) K (upd f j v) := by
  refine ⟨by simpa using h.1, fun i hi => ⟨?_, by simpa using (h.2 i hi).2⟩⟩
  by_cases e : i = j
  · subst e
    rw [upd_same]
    exact World.cell?_setCell_same _ _ _ (h.2 i hi).1
  · rw [upd_other _ _ e, World.cell?_setCell_other _ _ _ _ (fun e' => e (by cases e'; rfl))]
    exact (h.2 i hi).1
theorem Fld.keep {bs : List Nat} {w w' : World} {K : Nat} {f : Nat → Value} (h : Fld w K f) (hk : Keep bs w w') (hn : K ∉ bs) : Fld w' K f :=
  ⟨Nat.lt_of_lt_of_le h.1 hk.size, fun j hj => by rw [hk.cell (p := ⟨K, j, none⟩) h.1 hn, hk.frozen (p := ⟨K, j, none⟩) h.1 hn]; exact h.2 j hj⟩

/-- A store into a field that is no spine. -/
theorem Core.field {T : Nat → Nat} {w : World} {K : Nat} {f : Nat → Value} {L : Nat → List Value} (h : Core T w K f L) (j : Nat) (hj : j < 175) (hn : ¬ (4 ≤ j ∧ j < 12)) (v : Value) :
    Core T (w.setCell ⟨K, j, none⟩ v) K (upd f j v) L := by
  refine ⟨h.fld.set j hj v, h.tag, fun i h1 h2 => ?_⟩
  rw [upd_other _ _ (by omega)]
  obtain ⟨s1, s2⟩ := h.spine i h1 h2
  refine ⟨(Keep.set w K j v).own s1 (fun g hg hm => ?_), s2⟩
  have e1 := s2 g hg
  simp at hm
  rw [hm, h.tag] at e1
  omega
theorem Past.set {t : Nat} {T : Nat → Nat} {w : World} {K : Nat} (hK : T K = 1) (ht : 2 ≤ t) (j : Nat) (v : Value) : Past t T w T (w.setCell ⟨K, j, none⟩ v) :=
  ⟨rfl, rfl, rfl, by simp, fun b hb h => ⟨(Keep.set w K j v).block b hb (by simp; intro e; rw [e, hK] at h; omega), rfl⟩⟩

/-- The fields behind an append to a spine, ahead of the store. -/
theorem Core.mid {T : Nat → Nat} {w w0 w1 : World} {K : Nat} {f : Nat → Value} {L : Nat → List Value} (h : Core T w K f L) (j : Nat) (h1 : 4 ≤ j) (h2 : j < 12)
    (hk : Keep [] w w0) (hgr : w0.grownBy w1 (f j).ownBlock) : Fld w1 K f := by
  refine h.fld.keep ((hk.mono (by simp)).trans (Keep.grown hgr)) (fun hm => ?_)
  have hm' : (f j).ownBlock = some K := by simpa using hm
  have := (h.spine j h1 h2).2 K hm'
  rw [h.tag] at this; omega

/-- AN APPEND TO A SPINE: w: ahead; w1: behind the law, blocks having been made between; then the store. -/
theorem Core.app {T : Nat → Nat} {w w0 w1 : World} {K : Nat} {f : Nat → Value} {L : Nat → List Value} (h : Core T w K f L) (j : Nat) (h1 : 4 ≤ j) (h2 : j < 12) (x : Value)
    (hk : Keep [] w w0) (hgr : w0.grownBy w1 (f j).ownBlock) {g cap : Nat} (hat : (f j).ownBlock = some g ∨ w.heap.size ≤ g)
    (hown : w1.ownsRow 0 (ety j) 1 (.slice (some ⟨g, 0, none⟩) ((L j).length + 1) cap) ((L j).length + 1) (L j ++ [x])) :
    Core (upd T g j) (w1.setCell ⟨K, j, none⟩ (.slice (some ⟨g, 0, none⟩) ((L j).length + 1) cap)) K (upd f j (.slice (some ⟨g, 0, none⟩) ((L j).length + 1) cap)) (upd L j (L j ++ [x])) ∧
      Past 12 T w (upd T g j) (w1.setCell ⟨K, j, none⟩ (.slice (some ⟨g, 0, none⟩) ((L j).length + 1) cap)) := by
  have hKs := h.fld.1
  have hgK : g ≠ K := by
    intro e
    rcases hat with h' | h'
    · have := (h.spine j h1 h2).2 g h'
      rw [e, h.tag] at this; omega
    · omega
  have k01 : Keep ((f j).ownBlock.toList) w w1 := (hk.mono (by simp)).trans (Keep.grown hgr)
  have hKn : K ∉ (f j).ownBlock.toList := fun hm => by
    have hm' : (f j).ownBlock = some K := by simpa using hm
    have := (h.spine j h1 h2).2 K hm'
    rw [h.tag] at this; omega
  have fl1 : Fld w1 K f := h.fld.keep k01 hKn
  have e1 : (L j ++ [x]).length = (L j).length + 1 := by simp
  refine ⟨⟨fl1.set j (by omega) _, by rw [upd_other _ _ (Ne.symm hgK)]; exact h.tag, fun i i1 i2 => ?_⟩, ?_⟩
  · by_cases e : i = j
    · subst e
      rw [upd_same, upd_same, e1]
      refine ⟨(Keep.set w1 K i _).own hown (fun g' hg' hm => ?_), fun b hb => ?_⟩
      · simp [Value.ownBlock] at hg' hm
        exact hgK (hg'.trans hm)
      · have : g = b := by simpa [Value.ownBlock] using hb
        rw [this, upd_same]
    · rw [upd_other _ _ e, upd_other _ _ e]
      obtain ⟨s1, s2⟩ := h.spine i i1 i2
      have hgi : ∀ b, (f i).ownBlock = some b → b ≠ g := fun b hb e' => by
        rcases hat with h' | h'
        · have q1 := (h.spine j h1 h2).2 g h'
          have q2 := s2 b hb
          rw [e', q1] at q2; omega
        · have := (s1.lt b hb).2
          omega
      refine ⟨(Keep.set w1 K j _).own (k01.own s1 (fun b hb hm => ?_)) (fun b hb hm => ?_), fun b hb => ?_⟩
      · have hm' : (f j).ownBlock = some b := by simpa using hm
        have q1 := (h.spine j h1 h2).2 b hm'
        have q2 := s2 b hb
        omega
      · simp at hm
        have q2 := s2 b hb
        rw [hm, h.tag] at q2; omega
      · rw [upd_other _ _ (hgi b hb)]
        exact s2 b hb
  · refine ⟨k01.os, k01.tape, k01.output, by simpa using k01.size, fun b hb ht => ⟨?_, ?_⟩⟩
    · refine ((Keep.set w1 K j _).block b (Nat.lt_of_lt_of_le hb k01.size) (by simp; intro e; rw [e, h.tag] at ht; omega)).trans (k01.block b hb (fun hm => ?_))
      have hm' : (f j).ownBlock = some b := by simpa using hm
      have := (h.spine j h1 h2).2 b hm'
      omega
    · refine upd_other _ _ (fun e => ?_)
      rcases hat with h' | h'
      · have := (h.spine j h1 h2).2 g h'
        rw [← e] at this; omega
      · omega

set_option maxRecDepth 100000 in
set_option maxHeartbeats 1000000 in
theorem due_any (K : Nat) (n : Nat) (t : Int) (w : World) (c0 : w.cell? ⟨K, 0, none⟩ = some (.bool false)) (c2 : w.cell? ⟨K, 2, none⟩ = some (.int .i64 t)) (hn : n ≤ 1000000) :
    Calls Tryz.prog 38 #[.pointer (some ⟨K, 0, none⟩), .int .i64 n] w fun e w' => (∃ d, e = .returned (.int .i64 d)) ∧ w' = w := by
  rcases (show n % 3 = 0 ∨ n % 3 = 1 ∨ n % 3 = 2 by omega) with h | h | h
  · have g1 : ((n : Int) % 3 == 0) = true := by simp; omega
    go_enter Tryz.func38, Tryz.ntmps38
    go_wp2
    go_ret
    exact ⟨⟨_, rfl⟩, rfl⟩
  · have g1 : ((n : Int) % 3 == 0) = false := by simp; omega
    have g2 : ((n : Int) % 3 == 1) = true := by simp; omega
    go_enter Tryz.func38, Tryz.ntmps38
    go_wp2
    go_ret
    exact ⟨⟨_, rfl⟩, rfl⟩
  · have g1 : ((n : Int) % 3 == 0) = false := by simp; omega
    have g2 : ((n : Int) % 3 == 1) = false := by simp; omega
    go_enter Tryz.func38, Tryz.ntmps38
    go_wp2
    go_ret
    exact ⟨⟨_, rfl⟩, rfl⟩

end BookB
end Go.Proofs.YtjnmklbhhlfhcaaGreatDoor
namespace Go.Proofs.YtjnmklbhhlfhcaaGreatDoor
namespace BookB
open Go.RowKit CMath Byt Cod Laws
set_option linter.unusedVariables false

theorem Core.below {T : Nat → Nat} {w w' : World} {K : Nat} {f : Nat → Value} {L : Nat → List Value} (h : Core T w K f L) (hb : Below w.heap.size w w') : Core T w' K f L :=
  ⟨h.fld.below hb, h.tag, fun j h1 h2 => ⟨own_below (h.spine j h1 h2).1 hb, (h.spine j h1 h2).2⟩⟩
theorem Past.below {t : Nat} {T : Nat → Nat} {w w' : World} (hb : Below w.heap.size w w') : Past t T w T w' := ⟨hb.os, hb.tape, hb.output, hb.size, fun b h _ => ⟨hb.block b h, rfl⟩⟩
theorem Past.mono {t t' : Nat} {T T' : Nat → Nat} {w w' : World} (h : Past t T w T' w') (ht : t ≤ t') : Past t' T w T' w' :=
  ⟨h.os, h.tape, h.output, h.size, fun b hb hx => h.block b hb (by omega)⟩
/-- A new block's tag. -/
theorem Core.tagNew {T : Nat → Nat} {w : World} {K : Nat} {f : Nat → Value} {L : Nat → List Value} (h : Core T w K f L) (g t : Nat) (hg : w.heap.size ≤ g) : Core (upd T g t) w K f L := by
  have hK := h.fld.1
  refine ⟨h.fld, by rw [upd_other _ _ (by omega)]; exact h.tag, fun j h1 h2 => ⟨(h.spine j h1 h2).1, fun b hb => ?_⟩⟩
  have := ((h.spine j h1 h2).1.lt b hb).2
  rw [upd_other _ _ (by omega)]
  exact (h.spine j h1 h2).2 b hb
theorem Past.tagNew {t : Nat} {T : Nat → Nat} {w : World} (g s : Nat) (hg : w.heap.size ≤ g) : Past t T w (upd T g s) w := ⟨rfl, rfl, rfl, Nat.le_refl _, fun b hb _ => ⟨rfl, upd_other _ _ (by omega)⟩⟩

theorem Core.len {T : Nat → Nat} {w : World} {K : Nat} {f : Nat → Value} {L : Nat → List Value} (h : Core T w K f L) (j : Nat) (h1 : 4 ≤ j) (h2 : j < 12) : ∃ a c, f j = .slice a (L j).length c ∧ w.cell? ⟨K, j, none⟩ = some (.slice a (L j).length c) := by
  rcases (h.spine j h1 h2).1.2 with ⟨hv, h0⟩ | ⟨g, c, cur, hv, _⟩
  · refine ⟨none, 0, by rw [hv, h0], ?_⟩
    rw [(h.fld.2 j (by omega)).1, hv, h0]
  · exact ⟨_, c, hv, by rw [(h.fld.2 j (by omega)).1, hv]⟩
theorem Core.at {T : Nat → Nat} {w : World} {K : Nat} {f : Nat → Value} {L : Nat → List Value} (h : Core T w K f L) (j : Nat) (h1 : 4 ≤ j) (h2 : j < 12) (hn : L j ≠ []) :
    ∃ g c, f j = .slice (some ⟨g, 0, none⟩) (L j).length c ∧ w.cell? ⟨K, j, none⟩ = some (.slice (some ⟨g, 0, none⟩) (L j).length c) ∧ g < w.heap.size ∧ T g = j ∧ ∀ i x, (L j)[i]? = some x → w.cell? ⟨g, i, none⟩ = some x := by
  obtain ⟨s1, s2⟩ := h.spine j h1 h2
  rcases s1.2 with ⟨_, h0⟩ | ⟨g, c, cur, hv, _⟩
  · exact absurd (List.eq_nil_of_length_eq_zero h0) hn
  · rw [hv] at s1 s2
    refine ⟨g, c, hv, by rw [(h.fld.2 j (by omega)).1, hv], (s1.lt g rfl).2, s2 g rfl, fun i x hx => ?_⟩
    have hi := (List.getElem?_eq_some_iff.1 hx).1
    rw [s1.cellAt i (by omega)]
    exact hx

/-- Pairs of lists that hold the same, each in a block of its own (tags from b on). -/
def Its (b : Nat) (T : Nat → Nat) (w : World) (l : List (Item × Item)) : Prop :=
  ∀ i p, l[i]? = some p → OwnI w p.1 ∧ OwnI w p.2 ∧ p.1.2.2 = p.2.2.2 ∧ p.1.2.2.length ≤ 2000000000000 ∧ T p.1.1 = b + 2 * i ∧ T p.2.1 = b + 2 * i + 1
theorem Its.past {t b : Nat} {T T' : Nat → Nat} {w w' : World} {l : List (Item × Item)} (h : Its b T w l) (hp : Past t T w T' w') (ht : t ≤ b) : Its b T' w' l := fun i p hi => by
  obtain ⟨h1, h2, h3, h4, h5, h6⟩ := h i p hi
  obtain ⟨a1, a2⟩ := hp.item h1 (.inr (by omega))
  obtain ⟨b1, b2⟩ := hp.item h2 (.inr (by omega))
  exact ⟨a1, b1, h3, h4, a2.trans h5, b2.trans h6⟩
theorem Its.snoc {b : Nat} {T : Nat → Nat} {w : World} {l : List (Item × Item)} {p : Item × Item} (h : Its b T w l) (h1 : OwnI w p.1) (h2 : OwnI w p.2) (h3 : p.1.2.2 = p.2.2.2) (h4 : p.1.2.2.length ≤ 2000000000000) (h5 : T p.1.1 = b + 2 * l.length) (h6 : T p.2.1 = b + 2 * l.length + 1) : Its b T w (l ++ [p]) := fun i q hq => by
  by_cases hi : i < l.length
  · rw [List.getElem?_append_left hi] at hq
    exact h i q hq
  · have e : i = l.length := by
      have := (List.getElem?_eq_some_iff.1 hq).1
      simp at this; omega
    subst e
    simp at hq
    subst hq
    exact ⟨h1, h2, h3, h4, h5, h6⟩
theorem Its.pairs {b : Nat} {T : Nat → Nat} {w : World} {l : List (Item × Item)} (h : Its b T w l) : Pairs w l := fun p hp => by
  obtain ⟨i, hi⟩ := List.getElem?_of_mem hp
  obtain ⟨h1, h2, h3, h4, _⟩ := h i p hi
  exact ⟨h1.row, h2.row, h3, by omega, h1.fine, h2.fine⟩

/-- The lists that were written full and laid on. Several of them may lie in one block (spare room); those of fr from k on are not laid on yet, and each lies in a block of its own (tag 200 + its place). -/
def Outs (fr : List Item) (k : Nat) (T : Nat → Nat) (w : World) (o : List (Item × Item)) : Prop :=
  ∀ p ∈ o, BRow w p.1.1 0 p.1.2.2 ∧ BRow w p.2.1 0 p.2.2.2 ∧ (p.1.2.2 = p.2.2.2 ∧ Fine p.1 ∧ Fine p.2) ∧ p.1.2.2.length ≤ 2000000000000 ∧ T p.2.1 = 100 ∧ (T p.1.1 = 100 ∨ ∃ i, k ≤ i ∧ fr[i]? = some p.1 ∧ T p.1.1 = 200 + i)
def Fr (k : Nat) (T : Nat → Nat) (w : World) (fr : List Item) : Prop := ∀ i a, k ≤ i → fr[i]? = some a → OwnI w a ∧ T a.1 = 200 + i ∧ a.2.2.length ≤ 1000000000000
theorem Outs.past {fr : List Item} {k t : Nat} {T T' : Nat → Nat} {w w' : World} {o : List (Item × Item)} (h : Outs fr k T w o) (hp : Past t T w T' w') (ht : t ≤ 100) : Outs fr k T' w' o := fun p hm => by
  obtain ⟨h1, h2, h3, h4, h5, h6⟩ := h p hm
  have g6 : 100 ≤ T p.1.1 := by rcases h6 with h6 | ⟨i, _, _, h6⟩ <;> omega
  obtain ⟨b1, t1⟩ := hp.block p.1.1 h1.1 (.inr (by omega))
  obtain ⟨b2, t2⟩ := hp.block p.2.1 h2.1 (.inr (by omega))
  exact ⟨h1.keep b1 hp.size, h2.keep b2 hp.size, h3, h4, t2.trans h5, by rw [t1]; exact h6⟩
theorem Fr.past {fr : List Item} {k t : Nat} {T T' : Nat → Nat} {w w' : World} (h : Fr k T w fr) (hp : Past t T w T' w') (ht : t ≤ 100) : Fr k T' w' fr := fun i a hi ha => by
  obtain ⟨h1, h2, h3⟩ := h i a hi ha
  obtain ⟨g1, g2⟩ := hp.item h1 (.inr (by omega))
  exact ⟨g1, g2.trans h2, h3⟩
theorem Outs.keep {fr : List Item} {k : Nat} {T : Nat → Nat} {w w' : World} {o : List (Item × Item)} {bs : List Nat} (h : Outs fr k T w o) (hl : fr.length ≤ 100000) (hk : Keep bs w w') (hb : ∀ c ∈ bs, T c < 100 ∨ 1000000 ≤ T c) : Outs fr k T w' o := fun p hm => by
  obtain ⟨h1, h2, h3, h4, h5, h6⟩ := h p hm
  have g6 : 100 ≤ T p.1.1 ∧ T p.1.1 < 1000000 := by
    rcases h6 with h6 | ⟨i, _, hi, h6⟩
    · omega
    · have := (List.getElem?_eq_some_iff.1 hi).1
      omega
  exact ⟨h1.keep (hk.block _ h1.1 (fun hc => by have := hb _ hc; clear h6; omega)) hk.size, h2.keep (hk.block _ h2.1 (fun hc => by have := hb _ hc; clear h6; omega)) hk.size, h3, h4, h5, h6⟩
theorem Fr.keep {fr : List Item} {k : Nat} {T : Nat → Nat} {w w' : World} {bs : List Nat} (h : Fr k T w fr) (hl : fr.length ≤ 100000) (hk : Keep bs w w') (hb : ∀ c ∈ bs, T c < 100 ∨ 1000000 ≤ T c) : Fr k T w' fr := fun i a hi ha => by
  obtain ⟨h1, h2, h3⟩ := h i a hi ha
  have := (List.getElem?_eq_some_iff.1 ha).1
  exact ⟨h1.block (hk.block _ h1.lt (fun hc => by have := hb _ hc; omega)), h2, h3⟩
theorem Outs.retag {fr : List Item} {k : Nat} {T : Nat → Nat} {w : World} {o : List (Item × Item)} (h : Outs fr k T w o) (hl : fr.length ≤ 100000) (g s : Nat) (hg : T g < 100 ∨ 1000000 ≤ T g) : Outs fr k (upd T g s) w o := fun p hm => by
  obtain ⟨h1, h2, h3, h4, h5, h6⟩ := h p hm
  have g6 : 100 ≤ T p.1.1 ∧ T p.1.1 < 1000000 := by
    rcases h6 with h6 | ⟨i, _, hi, h6⟩
    · omega
    · have := (List.getElem?_eq_some_iff.1 hi).1
      omega
  have n1 : p.1.1 ≠ g := fun e => by rw [e] at g6; clear h6; omega
  have n2 : p.2.1 ≠ g := fun e => by rw [e] at h5; clear h6; omega
  exact ⟨h1, h2, h3, h4, by rw [upd_other _ _ n2]; exact h5, by rw [upd_other _ _ n1]; exact h6⟩
theorem Fr.retag {fr : List Item} {k : Nat} {T : Nat → Nat} {w : World} (h : Fr k T w fr) (hl : fr.length ≤ 100000) (g s : Nat) (hg : T g < 100 ∨ 1000000 ≤ T g) : Fr k (upd T g s) w fr := fun i a hi ha => by
  obtain ⟨h1, h2, h3⟩ := h i a hi ha
  have := (List.getElem?_eq_some_iff.1 ha).1
  exact ⟨h1, by rw [upd_other _ _ (fun e => by rw [e] at h2; omega)]; exact h2, h3⟩
theorem Outs.snoc {fr : List Item} {k : Nat} {T : Nat → Nat} {w : World} {o : List (Item × Item)} {p : Item × Item} (h : Outs fr k T w o) (h1 : BRow w p.1.1 0 p.1.2.2) (h2 : BRow w p.2.1 0 p.2.2.2) (h3 : p.1.2.2 = p.2.2.2 ∧ Fine p.1 ∧ Fine p.2) (h4 : p.1.2.2.length ≤ 2000000000000) (h5 : T p.2.1 = 100) (h6 : T p.1.1 = 100 ∨ ∃ i, k ≤ i ∧ fr[i]? = some p.1 ∧ T p.1.1 = 200 + i) : Outs fr k T w (o ++ [p]) := fun q hq => by
  simp at hq
  rcases hq with hq | rfl
  · exact h q hq
  · exact ⟨h1, h2, h3, h4, h5, h6⟩
theorem Outs.more {fr : List Item} {k : Nat} {T : Nat → Nat} {w : World} {o : List (Item × Item)} (h : Outs fr k T w o) (r : List Item) : Outs (fr ++ r) k T w o := fun p hm => by
  obtain ⟨h1, h2, h3, h4, h5, h6⟩ := h p hm
  refine ⟨h1, h2, h3, h4, h5, h6.imp id ?_⟩
  rintro ⟨i, i1, i2, i3⟩
  exact ⟨i, i1, by rw [List.getElem?_append_left (List.getElem?_eq_some_iff.1 i2).1]; exact i2, i3⟩
theorem Outs.done {fr : List Item} {k : Nat} {T : Nat → Nat} {w : World} {o : List (Item × Item)} (h : Outs fr k T w o) (hk : fr.length ≤ k) : Outs [] 0 T w o := fun p hm => by
  obtain ⟨h1, h2, h3, h4, h5, h6⟩ := h p hm
  refine ⟨h1, h2, h3, h4, h5, h6.imp id ?_⟩
  rintro ⟨i, i1, i2, i3⟩
  have := (List.getElem?_eq_some_iff.1 i2).1
  omega
theorem Outs.pairs {fr : List Item} {k : Nat} {T : Nat → Nat} {w : World} {o : List (Item × Item)} (h : Outs fr k T w o) : Pairs w o := fun p hm => by
  obtain ⟨h1, h2, h3, h4, _⟩ := h p hm
  exact ⟨h1, h2, h3.1, by omega, h3.2⟩

/-- What stands between two calls of the book. -/
structure Inv (T : Nat → Nat) (w : World) (K : Nat) (f : Nat → Value) (L : Nat → List Value) (o x : List (Item × Item)) (M D : List Int) (N : Nat) : Prop where
  core : Core T w K f L
  rest : ∀ j, 4 ≤ j → j < 175 → ¬ (4 ≤ j ∧ j < 13) → f j = f0 j
  now : f 0 = .bool false
  bad : f 1 = .bool false
  turn : ∃ t, f 2 = .int .i64 t
  deep : f 3 = .int .i64 0
  seen : ∃ s : Nat, f 12 = .int .i64 s ∧ s ≤ N
  l40 : L 4 = o.map fun p => vI p.1
  l41 : L 5 = o.map fun p => vI p.2
  l42 : L 6 = x.map fun p => vI p.1
  l43 : L 7 = x.map fun p => vI p.2
  l44 : L 8 = []
  l45 : L 9 = M.map (Value.int .i64)
  l46 : L 10 = D.map (Value.int .i64)
  l47 : L 11 = []
  f44 : f 8 = .slice none 0 0
  f47 : f 11 = .slice none 0 0
  lM : M.length = x.length
  lD : D.length = x.length
  outs : Outs [] 0 T w o
  waits : Its 1000000 T w x
  full : ∀ p ∈ x, p.1.2.2.length ≤ p.1.2.1 ∧ p.1.2.2.length ≤ 1000000000000
  many : o.length + 2 * x.length ≤ 2 * N
  few : N ≤ 1000

theorem Inv.held {T : Nat → Nat} {w : World} {K : Nat} {f : Nat → Value} {L : Nat → List Value} {o x : List (Item × Item)} {M D : List Int} {N : Nat} (h : Inv T w K f L o x M D N) : Held w K f o x := by
  have s40 := (h.core.spine 4 (by omega) (by omega)).1
  have s41 := (h.core.spine 5 (by omega) (by omega)).1
  have s42 := (h.core.spine 6 (by omega) (by omega)).1
  have s43 := (h.core.spine 7 (by omega) (by omega)).1
  rw [h.l40] at s40
  rw [h.l41] at s41
  rw [h.l42] at s42
  rw [h.l43] at s43
  exact ⟨h.core.fld, h.rest, h.now, h.bad, s40, s41, s42, s43, h.outs.pairs, h.waits.pairs, by have := h.many; have := h.few; omega, by have := h.many; have := h.few; omega⟩

theorem Inv.below {T : Nat → Nat} {w w' : World} {K : Nat} {f : Nat → Value} {L : Nat → List Value} {o x : List (Item × Item)} {M D : List Int} {N : Nat} (h : Inv T w K f L o x M D N) (hb : Below w.heap.size w w') : Inv T w' K f L o x M D N :=
  { h with core := h.core.below hb, outs := h.outs.past (Past.below (t := 0) hb) (by omega), waits := h.waits.past (Past.below (t := 0) hb) (by omega) }

end BookB
end Go.Proofs.YtjnmklbhhlfhcaaGreatDoor
