import Derived.Test.YtebfokjgeknciabGreatDoorProg
import Derived.Test.YtebfokjgeknciabGreatDoorJH
import Derived.Test.YtebfokjgeknciabGreatDoorLaws
import Derived.WalkKit
import Derived.WalkSpells
import Derived.WalkLawsBesides
namespace Go.Proofs.YtebfokjgeknciabGreatDoor
namespace BookI
open Go.RowKit Laws Irw
set_option linter.unusedVariables false

def upd {α : Type} (f : Nat → α) (j : Nat) (v : α) : Nat → α := fun i => if i = j then v else f i
theorem upd_same {α : Type} (f : Nat → α) (j : Nat) (v : α) : upd f j v j = v := by simp [upd]
theorem upd_other {α : Type} (f : Nat → α) {i j : Nat} (v : α) (h : i ≠ j) : upd f j v i = f i := by simp [upd, h]

/-- The type of what a spine holds: lists, or numbers. -/
def ety (j : Nat) : TypeId := if j < 18 then 33 else 3

/-- The book's core: its fields, and its spines, each in a block of its own. T: whose a block is. -/
structure Core (T : Nat → Nat) (w : World) (K : Nat) (f : Nat → Value) (L : Nat → List Value) : Prop where
  fld : Fld w K f
  tag : T K = 1
  spine : ∀ j, 13 ≤ j → j < 21 → w.ownsRow 0 (ety j) 1 (f j) (L j).length (L j) ∧ ∀ b, (f j).ownBlock = some b → T b = j

/-- From one moment to a later one: no block whose tag is t or above has turned. -/
structure Past (t : Nat) (T : Nat → Nat) (w : World) (T' : Nat → Nat) (w' : World) : Prop where
  os : w'.os = w.os
  tape : w'.tape = w.tape
  output : w'.output = w.output
  size : w.heap.size ≤ w'.heap.size
  block : ∀ b, b < w.heap.size → (T b = 0 ∨ t ≤ T b) → w'.heap[b]? = w.heap[b]? ∧ T' b = T b
theorem Past.refl (t : Nat) (T : Nat → Nat) (w : World) : Past t T w T w := ⟨rfl, rfl, rfl, Nat.le_refl _, fun _ _ _ => ⟨rfl, rfl⟩⟩
theorem Past.trans {t : Nat} {T T' T'' : Nat → Nat} {w w' w'' : World} (h : Past t T w T' w') (k : Past t T' w' T'' w'') : Past t T w T'' w'' :=
  ⟨k.os.trans h.os, k.tape.trans h.tape, k.output.trans h.output, Nat.le_trans h.size k.size, fun b hb ht => by
    obtain ⟨h1, h2⟩ := h.block b hb ht
    obtain ⟨k1, k2⟩ := k.block b (Nat.lt_of_lt_of_le hb h.size) (by rw [h2]; exact ht)
    exact ⟨k1.trans h1, k2.trans h2⟩⟩
theorem Past.item {t : Nat} {T T' : Nat → Nat} {w w' : World} (h : Past t T w T' w') {a : Item} (ha : OwnI w a) (ht : T a.1 = 0 ∨ t ≤ T a.1) : OwnI w' a ∧ T' a.1 = T a.1 := by
  obtain ⟨h1, h2⟩ := h.block a.1 ha.lt ht
  exact ⟨ha.block h1, h2⟩

theorem Fld.set {w : World} {K : Nat} {f : Nat → Value} (h : Fld w K f) (j : Nat) (hj : j < 175) (v : Value) : Fld (w.setCell ⟨K, j, none⟩ v) K (upd f j v) := by
  refine ⟨by simpa using h.1, fun i hi => ⟨?_, by simpa using (h.2 i hi).2⟩⟩
  by_cases e : i = j
  · subst e
    rw [upd_same]
    exact World.cell?_setCell_same _ _ _ (h.2 i hi).1
  · rw [upd_other _ _ e, World.cell?_setCell_other _ _ _ _ (fun e' => e (by cases e'; rfl))]
    exact (h.2 i hi).1
theorem Fld.keep {bs : List Nat} {w w' : World} {K : Nat} {f : Nat → Value} (h : Fld w K f) (hk : Keep bs w w') (hn : K ∉ bs) : Fld w' K f :=
  ⟨Nat.lt_of_lt_of_le h.1 hk.size, fun j hj => by rw [hk.cell (p := ⟨K, j, none⟩) h.1 hn, hk.frozen (p := ⟨K, j, none⟩) h.1 hn]; exact h.2 j hj⟩

/-- A store into a field that is no spine. -/
theorem Core.field {T : Nat → Nat} {w : World} {K : Nat} {f : Nat → Value} {L : Nat → List Value} (h : Core T w K f L) (j : Nat) (hj : j < 175) (hn : ¬ (13 ≤ j ∧ j < 21)) (v : Value) :
    Core T (w.setCell ⟨K, j, none⟩ v) K (upd f j v) L := by
  refine ⟨h.fld.set j hj v, h.tag, fun i h1 h2 => ?_⟩
  rw [upd_other _ _ (by omega)]
  obtain ⟨s1, s2⟩ := h.spine i h1 h2
  refine ⟨(Keep.set w K j v).own s1 (fun g hg hm => ?_), s2⟩
  have e1 := s2 g hg
  simp at hm
  rw [hm, h.tag] at e1
  omega
theorem Past.set {t : Nat} {T : Nat → Nat} {w : World} {K : Nat} (hK : T K = 1) (ht : 2 ≤ t) (j : Nat) (v : Value) : Past t T w T (w.setCell ⟨K, j, none⟩ v) :=
  ⟨rfl, rfl, rfl, by simp, fun b hb h => ⟨(Keep.set w K j v).block b hb (by simp; intro e; rw [e, hK] at h; omega), rfl⟩⟩

/-- The fields behind an append to a spine, ahead of the store. -/
theorem Core.mid {T : Nat → Nat} {w w0 w1 : World} {K : Nat} {f : Nat → Value} {L : Nat → List Value} (h : Core T w K f L) (j : Nat) (h1 : 13 ≤ j) (h2 : j < 21)
    (hk : Keep [] w w0) (hgr : w0.grownBy w1 (f j).ownBlock) : Fld w1 K f := by
  refine h.fld.keep ((hk.mono (by simp)).trans (Keep.grown hgr)) (fun hm => ?_)
  have hm' : (f j).ownBlock = some K := by simpa using hm
  have := (h.spine j h1 h2).2 K hm'
  rw [h.tag] at this; omega

/-- AN APPEND TO A SPINE: w: ahead; w1: behind the law, blocks having been made between; then the store. -/
theorem Core.app {T : Nat → Nat} {w w0 w1 : World} {K : Nat} {f : Nat → Value} {L : Nat → List Value} (h : Core T w K f L) (j : Nat) (h1 : 13 ≤ j) (h2 : j < 21) (x : Value)
    (hk : Keep [] w w0) (hgr : w0.grownBy w1 (f j).ownBlock) {g cap : Nat} (hat : (f j).ownBlock = some g ∨ w.heap.size ≤ g)
    (hown : w1.ownsRow 0 (ety j) 1 (.slice (some ⟨g, 0, none⟩) ((L j).length + 1) cap) ((L j).length + 1) (L j ++ [x])) :
    Core (upd T g j) (w1.setCell ⟨K, j, none⟩ (.slice (some ⟨g, 0, none⟩) ((L j).length + 1) cap)) K (upd f j (.slice (some ⟨g, 0, none⟩) ((L j).length + 1) cap)) (upd L j (L j ++ [x])) ∧
      Past 21 T w (upd T g j) (w1.setCell ⟨K, j, none⟩ (.slice (some ⟨g, 0, none⟩) ((L j).length + 1) cap)) := by
  have hKs := h.fld.1
  have hgK : g ≠ K := by
    intro e
    rcases hat with h' | h'
    · have := (h.spine j h1 h2).2 g h'
      rw [e, h.tag] at this; omega
    · omega
  have k01 : Keep ((f j).ownBlock.toList) w w1 := (hk.mono (by simp)).trans (Keep.grown hgr)
  have hKn : K ∉ (f j).ownBlock.toList := fun hm => by
    have hm' : (f j).ownBlock = some K := by simpa using hm
    have := (h.spine j h1 h2).2 K hm'
    rw [h.tag] at this; omega
  have fl1 : Fld w1 K f := h.fld.keep k01 hKn
  have e1 : (L j ++ [x]).length = (L j).length + 1 := by simp
  refine ⟨⟨fl1.set j (by omega) _, by rw [upd_other _ _ (Ne.symm hgK)]; exact h.tag, fun i i1 i2 => ?_⟩, ?_⟩
  · by_cases e : i = j
    · subst e
      rw [upd_same, upd_same, e1]
      refine ⟨(Keep.set w1 K i _).own hown (fun g' hg' hm => ?_), fun b hb => ?_⟩
      · simp [Value.ownBlock] at hg' hm
        exact hgK (hg'.trans hm)
      · have : g = b := by simpa [Value.ownBlock] using hb
        rw [this, upd_same]
    · rw [upd_other _ _ e, upd_other _ _ e]
      obtain ⟨s1, s2⟩ := h.spine i i1 i2
      have hgi : ∀ b, (f i).ownBlock = some b → b ≠ g := fun b hb e' => by
        rcases hat with h' | h'
        · have q1 := (h.spine j h1 h2).2 g h'
          have q2 := s2 b hb
          rw [e', q1] at q2; omega
        · have := (s1.lt b hb).2
          omega
      refine ⟨(Keep.set w1 K j _).own (k01.own s1 (fun b hb hm => ?_)) (fun b hb hm => ?_), fun b hb => ?_⟩
      · have hm' : (f j).ownBlock = some b := by simpa using hm
        have q1 := (h.spine j h1 h2).2 b hm'
        have q2 := s2 b hb
        omega
      · simp at hm
        have q2 := s2 b hb
        rw [hm, h.tag] at q2; omega
      · rw [upd_other _ _ (hgi b hb)]
        exact s2 b hb
  · refine ⟨k01.os, k01.tape, k01.output, by simpa using k01.size, fun b hb ht => ⟨?_, ?_⟩⟩
    · refine ((Keep.set w1 K j _).block b (Nat.lt_of_lt_of_le hb k01.size) (by simp; intro e; rw [e, h.tag] at ht; omega)).trans (k01.block b hb (fun hm => ?_))
      have hm' : (f j).ownBlock = some b := by simpa using hm
      have := (h.spine j h1 h2).2 b hm'
      omega
    · refine upd_other _ _ (fun e => ?_)
      rcases hat with h' | h'
      · have := (h.spine j h1 h2).2 g h'
        rw [← e] at this; omega
      · omega

set_option maxRecDepth 100000 in
set_option maxHeartbeats 1000000 in
theorem due_any (K : Nat) (n : Nat) (t : Int) (w : World) (c0 : w.cell? ⟨K, 0, none⟩ = some (.bool false)) (c2 : w.cell? ⟨K, 2, none⟩ = some (.int .i64 t)) (hn : n ≤ 1000000) :
    Calls Tryz.prog 32 #[.pointer (some ⟨K, 0, none⟩), .int .i64 n] w fun e w' => (∃ d, e = .returned (.int .i64 d)) ∧ w' = w := by
  rcases (show n % 3 = 0 ∨ n % 3 = 1 ∨ n % 3 = 2 by omega) with h | h | h
  · have g1 : ((n : Int) % 3 == 0) = true := by simp; omega
    go_enter Tryz.func32, Tryz.ntmps32
    go_wp2
    go_ret
    exact ⟨⟨_, rfl⟩, rfl⟩
  · have g1 : ((n : Int) % 3 == 0) = false := by simp; omega
    have g2 : ((n : Int) % 3 == 1) = true := by simp; omega
    go_enter Tryz.func32, Tryz.ntmps32
    go_wp2
    go_ret
    exact ⟨⟨_, rfl⟩, rfl⟩
  · have g1 : ((n : Int) % 3 == 0) = false := by simp; omega
    have g2 : ((n : Int) % 3 == 1) = false := by simp; omega
    go_enter Tryz.func32, Tryz.ntmps32
    go_wp2
    go_ret
    exact ⟨⟨_, rfl⟩, rfl⟩

end BookI
end Go.Proofs.YtebfokjgeknciabGreatDoor
