import Derived.Test.YtebfokjgeknciabGreatDoorProg
import Derived.Test.YtebfokjgeknciabGreatDoorIRw
import Derived.WalkKit
import Derived.WalkSpells
import Derived.WalkLawsBesides
import Derived.Deep.QuietTactic
import Derived.BigQuiet
namespace Go.Proofs.YtebfokjgeknciabGreatDoor
namespace BookI
open Go.RowKit Laws Irw
set_option linter.unusedVariables false

theorem bcell {W w1 : World} (hb : Below W.heap.size W w1) : (∀ b o, b < W.heap.size → w1.cell? ⟨b, o, none⟩ = W.cell? ⟨b, o, none⟩) ∧ (∀ b o, b < W.heap.size → w1.frozen? ⟨b, o, none⟩ = W.frozen? ⟨b, o, none⟩) :=
  ⟨fun b o h => hb.cell (p := ⟨b, o, none⟩) h, fun b o h => hb.frozen (p := ⟨b, o, none⟩) h⟩
theorem infoIn : (Tryz.prog.info? 3).map (fun i => (i.zero, i.size, i.bytes)) = some (some (.int .i64 0), 1, 8) := by kernel_rfl
theorem cells1 (l : List Int) : (cellsI l).length = l.length * 1 := by rw [cellsI_length, Nat.mul_one]

theorem row_of_own {w : World} {base g n c : Nat} {l : List Int} {e : TypeId} (h : w.ownsRow base e 1 (.slice (some ⟨g, 0, none⟩) n c) n (cellsI l)) (hn : n = l.length) : IRow w g 0 l := by
  refine ⟨(h.lt g rfl).2, fun i x hx => ?_⟩
  have hi : i < l.length := (List.getElem?_eq_some_iff.1 hx).1
  rw [Nat.zero_add, h.cellAt _ (by omega)]
  exact cellsI_get hx
/-- A list that was handed out: its block, its capacity, what it holds. One that is nil: capacity nilC, and some dead block that stands for it. -/
abbrev Item := Nat × Nat × List Int
def nilC : Nat := 1180591620717411303424
def vI (a : Item) : Value := if a.2.1 = nilC then .slice none 0 0 else .slice (some ⟨a.1, 0, none⟩) a.2.2.length a.2.1
def OwnI (w : World) (a : Item) : Prop := (a.2.1 = nilC ∧ a.2.2 = [] ∧ a.1 < w.heap.size) ∨ (a.2.1 ≠ nilC ∧ w.ownsRow 0 3 1 (.slice (some ⟨a.1, 0, none⟩) a.2.2.length a.2.1) a.2.2.length (cellsI a.2.2))
theorem vI_nil {a : Item} (h : a.2.1 = nilC) : vI a = .slice none 0 0 := if_pos h
theorem vI_not {a : Item} (h : a.2.1 ≠ nilC) : vI a = .slice (some ⟨a.1, 0, none⟩) a.2.2.length a.2.1 := if_neg h
theorem own_cap {w : World} {base g n c : Nat} {e : TypeId} {xs : List Value} (h : w.ownsRow base e 1 (.slice (some ⟨g, 0, none⟩) n c) n xs) : c ≠ nilC := by
  rcases h.2 with ⟨h1, _⟩ | ⟨g', c', cur, h1, _, _, _, h5, _⟩
  · cases h1
  · cases h1
    unfold maxLen at h5
    unfold nilC
    omega
theorem OwnI.of {w : World} {g c : Nat} {l : List Int} (h : w.ownsRow 0 3 1 (.slice (some ⟨g, 0, none⟩) l.length c) l.length (cellsI l)) : OwnI w (g, c, l) := .inr ⟨own_cap h, h⟩
theorem OwnI.own {w : World} {a : Item} (h : OwnI w a) (hn : a.2.1 ≠ nilC) : w.ownsRow 0 3 1 (.slice (some ⟨a.1, 0, none⟩) a.2.2.length a.2.1) a.2.2.length (cellsI a.2.2) := by
  rcases h with ⟨h1, _⟩ | ⟨_, h2⟩
  · exact absurd h1 hn
  · exact h2
theorem OwnI.empty {w : World} {a : Item} (h : OwnI w a) (hn : a.2.1 = nilC) : a.2.2 = [] := by
  rcases h with ⟨_, h1, _⟩ | ⟨h1, _⟩
  · exact h1
  · exact absurd hn h1
theorem OwnI.lt {w : World} {a : Item} (h : OwnI w a) : a.1 < w.heap.size := by
  rcases h with ⟨_, _, h1⟩ | ⟨_, h2⟩
  · exact h1
  · exact (World.ownsRow.lt h2 _ rfl).2
/-- The value of an item: some address, its length, some capacity. -/
theorem vI_form {w : World} {a : Item} (h : OwnI w a) : ∃ ad c, vI a = .slice ad a.2.2.length c ∧ (a.2.2 ≠ [] → ad = some ⟨a.1, 0, none⟩) ∧ (ad = none → c = 0) := by
  by_cases hn : a.2.1 = nilC
  · exact ⟨none, 0, by rw [vI_nil hn, h.empty hn]; rfl, fun hh => absurd (h.empty hn) hh, fun _ => rfl⟩
  · exact ⟨_, _, vI_not hn, fun _ => rfl, fun e => by cases e⟩
/-- One that is nil holds nothing. -/
def Fine (a : Item) : Prop := a.2.1 = nilC → a.2.2 = []
theorem OwnI.fine {w : World} {a : Item} (h : OwnI w a) : Fine a := fun hn => h.empty hn
theorem Fine.form {a : Item} (h : Fine a) : ∃ ad c, vI a = .slice ad a.2.2.length c ∧ (a.2.2 ≠ [] → ad = some ⟨a.1, 0, none⟩) ∧ (ad = none → c = 0) := by
  by_cases hn : a.2.1 = nilC
  · exact ⟨none, 0, by rw [vI_nil hn, h hn]; rfl, fun hh => absurd (h hn) hh, fun _ => rfl⟩
  · exact ⟨_, _, vI_not hn, fun _ => rfl, fun e => by cases e⟩
theorem OwnI.block {w w' : World} {a : Item} (h : OwnI w a) (hb : w'.heap[a.1]? = w.heap[a.1]?) : OwnI w' a := by
  rcases h with ⟨h1, h2, h3⟩ | ⟨h0, h1, h2⟩
  · exact .inl ⟨h1, h2, (Array.getElem?_eq_some_iff.1 (hb.trans (Array.getElem?_eq_getElem h3))).1⟩
  · refine .inr ⟨h0, h1, ?_⟩
    rcases h2 with ⟨h2, _⟩ | ⟨g, cap, cur, hv, hg, hh, hr⟩
    · cases h2
    · cases hv
      exact .inr ⟨_, _, cur, rfl, hg, hb.trans hh, hr⟩
theorem OwnI.below {w w' : World} {a : Item} (h : OwnI w a) (hb : Below w.heap.size w w') : OwnI w' a := h.block (hb.block _ h.lt)
theorem OwnI.row {w : World} {a : Item} (h : OwnI w a) : IRow w a.1 0 a.2.2 := by
  by_cases hn : a.2.1 = nilC
  · rw [h.empty hn]
    exact ⟨h.lt, fun i x hx => by simp at hx⟩
  · exact row_of_own (h.own hn) rfl

set_option maxHeartbeats 1000000 in
theorem sameK_any (a1 : Option Addr) (c1 : Nat) (a2 : Option Addr) (c2 g1 g2 n : Nat) (l : List Int) (w : World) (ha : IRow w g1 0 l) (hb : IRow w g2 0 l) (e1 : l ≠ [] → a1 = some ⟨g1, 0, none⟩) (e2 : l ≠ [] → a2 = some ⟨g2, 0, none⟩) (hn : l.length = n) (hl : n ≤ 4000000000000) :
    Calls Tryz.prog 66 #[.slice a1 n c1, .slice a2 n c2] w fun e w' => e = .returned (.bool true) ∧ Below w.heap.size w w' := by
  have HA : Hid (IRow w g1 0 l) := ha
  have HB : Hid (IRow w g2 0 l) := hb
  have HNN : Hid (l.length = n) := hn
  have HE1 : Hid (l ≠ [] → a1 = some ⟨g1, 0, none⟩) := e1
  have HE2 : Hid (l ≠ [] → a2 = some ⟨g2, 0, none⟩) := e2
  clear ha hb hn e1 e2
  go_enter Tryz.func66, Tryz.ntmps66
  go_wp2
  go_loopw [5] (fun i wr => ∃ k : Nat, k ≤ n ∧ i = .int .i64 k ∧ Below w.heap.size w wr) (fun i _ => n - (intOf i).toNat)
  case atStart => exact ⟨0, Nat.zero_le _, rfl, Below.refl _ _⟩
  case round =>
    obtain ⟨k, hk, rfl, hbe⟩ := hrel
    by_cases hlt : k < n
    · have hlt' : k < l.length := by rw [HNN.out]; exact hlt
      have hne : l ≠ [] := by rintro rfl; simp at hlt'
      obtain rfl := HE1.out hne
      obtain rfl := HE2.out hne
      obtain ⟨x, hx⟩ : ∃ x, l[k]? = some x := ⟨_, List.getElem?_eq_getElem hlt'⟩
      have ha' := HA.out.below hbe HA.out.1
      have hb' := HB.out.below hbe HB.out.1
      have z1 := ha'.1
      have z2 := hb'.1
      have c0 := ha'.2 k _ hx
      have e0 := hb'.2 k _ hx
      simp only [Nat.zero_add] at c0 e0
      have q1 : (k : Int) < (n : Int) := by omega
      have HBE : Hid (Below w.heap.size w wr) := hbe
      have hsz := hbe.size
      clear hx hlt' ha' hb' hbe
      go_wp2
      go_roundw
      case rel => exact ⟨k + 1, by omega, by go_num, HBE.out⟩
      case measure => simp [intOf]; omega
    · go_wp2
      go_ret
      exact ⟨rfl, hbe⟩

/-- The book's spines: a list of lists, pairs of which hold the same. -/
def Pairs (w : World) (l : List (Item × Item)) : Prop := ∀ p ∈ l, IRow w p.1.1 0 p.1.2.2 ∧ IRow w p.2.1 0 p.2.2.2 ∧ p.1.2.2 = p.2.2.2 ∧ p.1.2.2.length ≤ 4000000000000 ∧ Fine p.1 ∧ Fine p.2

theorem Pairs.below {w w' : World} {l : List (Item × Item)} (h : Pairs w l) (hb : Below w.heap.size w w') : Pairs w' l := fun p hp => by
  obtain ⟨h1, h2, h3⟩ := h p hp
  exact ⟨h1.below hb h1.1, h2.below hb h2.1, h3⟩

/-- A spine: a row of slices, or nil. -/
def Spine (w : World) (v : Value) (l : List Value) : Prop := w.ownsRow 0 33 1 v l.length l
theorem Spine.block {w w' : World} {v : Value} {l : List Value} {base : Nat} {e : TypeId} {size n : Nat} (h : w.ownsRow base e size v n l) (hb : ∀ g, v.ownBlock = some g → w'.heap[g]? = w.heap[g]?) : w'.ownsRow base e size v n l := by
  obtain ⟨h1, h2⟩ := h
  refine ⟨h1, ?_⟩
  rcases h2 with h2 | ⟨g, cap, cur, hv, hg, hh, hr⟩
  · exact .inl h2
  · exact .inr ⟨g, cap, cur, hv, hg, (hb g (by rw [hv]; rfl)).trans hh, hr⟩
theorem own_below {w w' : World} {v : Value} {l : List Value} {base : Nat} {e : TypeId} {size n : Nat} (h : w.ownsRow base e size v n l) (hb : Below w.heap.size w w') : w'.ownsRow base e size v n l :=
  Spine.block h fun g hg => hb.block g (h.lt g hg).2
theorem Spine.shape {w : World} {v : Value} {l : List Value} (h : Spine w v l) (hn : l ≠ []) : ∃ g c, v = .slice (some ⟨g, 0, none⟩) l.length c ∧ g < w.heap.size ∧ ∀ i x, l[i]? = some x → w.cell? ⟨g, i, none⟩ = some x := by
  rcases h.2 with ⟨_, h0⟩ | ⟨g, c, cur, hv, _⟩
  · exact absurd (List.eq_nil_of_length_eq_zero h0) hn
  · have hh : w.ownsRow 0 33 1 (.slice (some ⟨g, 0, none⟩) l.length c) l.length l := by rw [← hv]; exact h
    refine ⟨g, c, hv, (hh.lt g rfl).2, fun i x hx => ?_⟩
    have hi := (List.getElem?_eq_some_iff.1 hx).1
    rw [hh.cellAt i (by omega)]
    exact hx
theorem Spine.len {w : World} {v : Value} {l : List Value} (h : Spine w v l) : ∃ a c, v = .slice a l.length c := by
  rcases h.2 with ⟨hv, h0⟩ | ⟨g, c, cur, hv, _⟩
  · exact ⟨none, 0, by rw [hv, h0]⟩
  · exact ⟨_, c, hv⟩

end BookI
end Go.Proofs.YtebfokjgeknciabGreatDoor
