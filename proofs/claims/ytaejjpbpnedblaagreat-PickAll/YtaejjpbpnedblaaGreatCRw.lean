import Derived.WalkKit
import Derived.WalkSpells
import Derived.Below
import Derived.Deep.AppendLies
import Derived.Maps.AppendAt
import Derived.Laws.OwnMore
import Derived.Test.YtaejjpbpnedblaaGreatLaws
import Derived.Test.YtaejjpbpnedblaaGreatProg
namespace Go.Proofs.YtaejjpbpnedblaaGreat
namespace Irw
open Go.RowKit Laws
set_option linter.unusedVariables false

/-- Ints that lie in a block. -/
def IRow (w : World) (b off : Nat) (l : List Int) : Prop := b < w.heap.size ∧ ∀ (i : Nat) (x : Int), l[i]? = some x → w.cell? ⟨b, off + i, none⟩ = some (.int .i64 x)
/-- What a slice of ints holds. -/
def IsI (w : World) (a : Option Addr) (l : List Int) : Prop := l ≠ [] → ∃ b off, a = some ⟨b, off, none⟩ ∧ IRow w b off l
theorem IRow.keep {w w' : World} {b off : Nat} {l : List Int} (h : IRow w b off l) (hb : w'.heap[b]? = w.heap[b]?) (hs : w.heap.size ≤ w'.heap.size) : IRow w' b off l :=
  ⟨Nat.lt_of_lt_of_le h.1 hs, fun i x hx => (World.cell?_of_block (w := w) (a := ⟨b, off + i, none⟩) hb).trans (h.2 i x hx)⟩
theorem IRow.below {w w' : World} {B b off : Nat} {l : List Int} (h : IRow w b off l) (hb : Below B w w') (hB : b < B) : IRow w' b off l := h.keep (hb.block b hB) hb.size
theorem IsI.below {w w' : World} {a : Option Addr} {l : List Int} (h : IsI w a l) (hb : Below w.heap.size w w') : IsI w' a l := fun hne => by
  obtain ⟨b, off, e, hr⟩ := h hne
  exact ⟨b, off, e, hr.below hb hr.1⟩
theorem IsI.nil (w : World) (a : Option Addr) : IsI w a [] := fun h => absurd rfl h
theorem IsI.of {w : World} {b off : Nat} {l : List Int} (h : IRow w b off l) : IsI w (some ⟨b, off, none⟩) l := fun _ => ⟨b, off, rfl, h⟩
theorem IsI.at_ {w : World} {a : Option Addr} {l : List Int} (h : IsI w a l) (hn : 0 < l.length) : ∃ b off, a = some ⟨b, off, none⟩ ∧ IRow w b off l := h (by rintro rfl; simp at hn)
theorem IRow.cell {w : World} {b off : Nat} {l : List Int} (h : IRow w b off l) {i : Nat} (hi : i < l.length) : w.cell? ⟨b, off + i, none⟩ = some (.int .i64 (l.getD i 0)) := h.2 i _ (by simp [hi])
theorem IRow.take {w : World} {b off : Nat} {l : List Int} (h : IRow w b off l) (n : Nat) : IRow w b off (l.take n) :=
  ⟨h.1, fun i x hx => h.2 i x (by
    rw [List.getElem?_take] at hx
    split at hx
    · exact hx
    · cases hx)⟩
theorem IRow.drop {w : World} {b off : Nat} {l : List Int} (h : IRow w b off l) (n : Nat) : IRow w b (off + n) (l.drop n) :=
  ⟨h.1, fun i x hx => by
    rw [List.getElem?_drop] at hx
    have := h.2 (n + i) x hx
    rwa [← Nat.add_assoc] at this⟩
theorem IsI.take {w : World} {a : Option Addr} {l : List Int} (h : IsI w a l) (n : Nat) : IsI w a (l.take n) := fun hne => by
  obtain ⟨b, off, e, hr⟩ := h (by intro e; rw [e] at hne; simp at hne)
  exact ⟨b, off, e, hr.take n⟩

def cellsI (l : List Int) : List Value := l.map (Value.int .i64)
theorem cellsI_length (l : List Int) : (cellsI l).length = l.length := by simp [cellsI]
theorem cellsI_append (l r : List Int) : cellsI (l ++ r) = cellsI l ++ cellsI r := by simp [cellsI]
theorem cellsI_one (l : List Int) : ∀ u ∈ cellsI l, u.oneCell' = true := by
  intro u hu
  simp [cellsI] at hu
  obtain ⟨x, _, rfl⟩ := hu
  rfl
theorem cellsI_get {l : List Int} {i : Nat} {x : Int} (h : l[i]? = some x) : (cellsI l)[i]? = some (.int .i64 x) := by simp [cellsI, h]
theorem cellsI_inv {l : List Int} {i : Nat} {u : Value} (h : (cellsI l)[i]? = some u) : ∃ x, l[i]? = some x ∧ u = .int .i64 x := by
  simp [cellsI] at h
  obtain ⟨x, h1, h2⟩ := h
  exact ⟨x, h1, h2.symm⟩
theorem cellsI_take (l : List Int) (n : Nat) : (cellsI l).take n = cellsI (l.take n) := by simp [cellsI, List.map_take]
theorem add_plain' (b off t : Nat) : (⟨b, off, none⟩ : Addr).add t = ⟨b, off + t, none⟩ := by unfold Addr.add; by_cases ht : t = 0 <;> simp [ht]
theorem news_of {w : World} {a : Option Addr} {l : List Int} (h : IsI w a l) : ∀ ad, a = Option.some ad → ∀ j u, (cellsI l)[j]? = Option.some u → w.cell? (ad.add j) = Option.some u := by
  intro ad had j u hu
  obtain ⟨x, hx, rfl⟩ := cellsI_inv hu
  obtain ⟨b, off, h', hlt, hr⟩ := h (by intro e; rw [e] at hx; simp at hx)
  rw [had] at h'
  cases h'
  rw [add_plain']
  exact hr j x hx

/-! Lists of one's own, told by tags of blocks. -/

/-- Whose a block is. -/
def upd (T : Nat → Nat) (g t : Nat) : Nat → Nat := fun b => if b = g then t else T b
theorem upd_same (T : Nat → Nat) (g t : Nat) : upd T g t g = t := by simp [upd]
theorem upd_other (T : Nat → Nat) {g b : Nat} (t : Nat) (h : b ≠ g) : upd T g t b = T b := by simp [upd, h]

/-- A list of ints of one's own (nil, or in a block of that tag, from its beginning on, maybe with spare room). -/
def OwnL (t : Nat) (T : Nat → Nat) (w : World) (v : Value) (l : List Int) : Prop := w.ownsRow 0 3 1 v l.length (cellsI l) ∧ ∀ g, v.ownBlock = some g → T g = t
/-- From one moment to a later one: only blocks of tags that t tells have turned; tags stay. -/
structure Goes (t : Nat → Prop) (T : Nat → Nat) (w : World) (T' : Nat → Nat) (w' : World) : Prop where
  os : w'.os = w.os
  tape : w'.tape = w.tape
  output : w'.output = w.output
  size : w.heap.size ≤ w'.heap.size
  block : ∀ b, b < w.heap.size → ¬ t (T b) → w'.heap[b]? = w.heap[b]?
  tag : ∀ b, b < w.heap.size → ¬ t (T b) → T' b = T b
  high : ∀ b, w'.heap.size ≤ b → T b = 0 → T' b = 0
theorem Goes.refl (t : Nat → Prop) (T : Nat → Nat) (w : World) : Goes t T w T w := ⟨rfl, rfl, rfl, Nat.le_refl _, fun _ _ _ => rfl, fun _ _ _ => rfl, fun _ _ h => h⟩
theorem Goes.trans {t : Nat → Prop} {T T' T'' : Nat → Nat} {w w' w'' : World} (h : Goes t T w T' w') (k : Goes t T' w' T'' w'') : Goes t T w T'' w'' :=
  ⟨k.os.trans h.os, k.tape.trans h.tape, k.output.trans h.output, Nat.le_trans h.size k.size, fun b hb ht => (k.block b (Nat.lt_of_lt_of_le hb h.size) (by rw [h.tag b hb ht]; exact ht)).trans (h.block b hb ht), fun b hb ht => (k.tag b (Nat.lt_of_lt_of_le hb h.size) (by rw [h.tag b hb ht]; exact ht)).trans (h.tag b hb ht), fun b hb h0 => k.high b hb (h.high b (Nat.le_trans k.size hb) h0)⟩
theorem Goes.mono {t t' : Nat → Prop} {T T' : Nat → Nat} {w w' : World} (h : Goes t T w T' w') (ht : ∀ x, t x → t' x) : Goes t' T w T' w' :=
  ⟨h.os, h.tape, h.output, h.size, fun b hb hn => h.block b hb fun z => hn (ht _ z), fun b hb hn => h.tag b hb fun z => hn (ht _ z), h.high⟩
theorem Goes.below {t : Nat → Prop} {T : Nat → Nat} {w w' : World} (h : Below w.heap.size w w') : Goes t T w T w' := ⟨h.os, h.tape, h.output, h.size, fun b hb _ => h.block b hb, fun _ _ _ => rfl, fun _ _ h => h⟩
theorem Goes.setCell {t : Nat → Prop} {T : Nat → Nat} {w : World} {p j : Nat} {v : Value} (h : t (T p)) : Goes t T w T (w.setCell ⟨p, j, none⟩ v) :=
  ⟨rfl, rfl, rfl, by simp, fun b hb ht => Below.heap_setCell w _ v b (fun e => ht (by rw [e]; exact h)), fun _ _ _ => rfl, fun _ _ h => h⟩
/-- Nothing that was there before has turned; tags tell what was made since. -/
structure Old (w0 : World) (T : Nat → Nat) (w : World) : Prop where
  below : Below w0.heap.size w0 w
  zero : ∀ b, b < w0.heap.size ∨ w.heap.size ≤ b → T b = 0
theorem Old.goes {t : Nat → Prop} {T T' : Nat → Nat} {w0 w w' : World} (h : Old w0 T w) (hg : Goes t T w T' w') (ht : ¬ t 0) : Old w0 T' w' :=
  ⟨⟨hg.os.trans h.below.os, hg.tape.trans h.below.tape, hg.output.trans h.below.output, Nat.le_trans h.below.size hg.size, fun b hb => (hg.block b (Nat.lt_of_lt_of_le hb h.below.size) (by rw [h.zero b (.inl hb)]; exact ht)).trans (h.below.block b hb)⟩,
    fun b hb => by
      rcases hb with hb | hb
      · rw [hg.tag b (Nat.lt_of_lt_of_le hb h.below.size) (by rw [h.zero b (.inl hb)]; exact ht)]; exact h.zero b (.inl hb)
      · exact hg.high b hb (h.zero b (.inr (Nat.le_trans hg.size hb)))⟩
theorem Old.first (w : World) : Old w (fun _ => 0) w := ⟨Below.refl _ _, fun _ _ => rfl⟩
theorem Goes.cell {t : Nat → Prop} {T T' : Nat → Nat} {w w' : World} (hg : Goes t T w T' w') {b j : Nat} (hb : b < w.heap.size) (h0 : ¬ t (T b)) : w'.cell? ⟨b, j, none⟩ = w.cell? ⟨b, j, none⟩ := World.cell?_of_block (a := ⟨b, j, none⟩) (hg.block b hb h0)
theorem OwnL.goes {s : Nat} {t : Nat → Prop} {T T' : Nat → Nat} {w w' : World} {v : Value} {l : List Int} (h : OwnL s T w v l) (hg : Goes t T w T' w') (hs : ¬ t s) : OwnL s T' w' v l := by
  have hlt := fun g hv => (h.1.lt g hv).2
  refine ⟨⟨h.1.1, ?_⟩, fun g hv => (hg.tag g (hlt g hv) (by rw [h.2 g hv]; exact hs)).trans (h.2 g hv)⟩
  rcases h.1.2 with h1 | ⟨g, cap, cur, hv, hb, hh, hr⟩
  · exact .inl h1
  · have hv' : v.ownBlock = some g := by rw [hv]; rfl
    exact .inr ⟨g, cap, cur, hv, hb, (hg.block g (hlt g hv') (by rw [h.2 g hv']; exact hs)).trans hh, hr⟩
theorem OwnL.below {s : Nat} {T : Nat → Nat} {w w' : World} {v : Value} {l : List Int} (h : OwnL s T w v l) (hb : Below w.heap.size w w') : OwnL s T w' v l := h.goes (Goes.below (t := fun _ => False) hb) (fun z => z)
theorem OwnL.form {s : Nat} {T : Nat → Nat} {w : World} {v : Value} {l : List Int} (h : OwnL s T w v l) : ∃ a c, v = .slice a l.length c ∧ IsI w a l ∧ l.length ≤ c ∧ (a = none → c = 0) ∧ (∀ g off, a = some ⟨g, off, none⟩ → off = 0 ∧ T g = s ∧ g < w.heap.size) := by
  rcases h.1.2 with ⟨h1, h2⟩ | ⟨g, cap, cur, hv, hb, hh, hc, hr⟩
  · refine ⟨none, 0, by rw [h1, h2], ?_, by omega, by simp, by simp⟩
    have : l = [] := List.eq_nil_of_length_eq_zero h2
    rw [this]; exact IsI.nil _ _
  · refine ⟨some ⟨g, 0, none⟩, cap, hv, ?_, hc, by simp, ?_⟩
    · have h1 := h.1
      rw [hv] at h1
      refine IsI.of ⟨(h1.lt g rfl).2, fun i x hx => ?_⟩
      have hi : i < l.length := (List.getElem?_eq_some_iff.1 hx).1
      rw [Nat.zero_add, h1.cellAt _ (by omega)]
      exact cellsI_get hx
    · intro g' off e
      simp only [Option.some.injEq, Addr.mk.injEq] at e
      obtain ⟨rfl, rfl, _⟩ := e
      have hv' : v.ownBlock = some g := by rw [hv]; rfl
      exact ⟨rfl, h.2 g hv', (h.1.lt g hv').2⟩
theorem OwnL.isI {t : Nat} {T : Nat → Nat} {w : World} {a : Option Addr} {n c : Nat} {l : List Int} (h : OwnL t T w (.slice a n c) l) : IsI w a l ∧ n = l.length ∧ (a = none → c = 0) ∧ n ≤ c := by
  obtain ⟨a', c', e, hi, h1, h2, _⟩ := h.form
  simp only [Value.slice.injEq] at e
  obtain ⟨rfl, rfl, rfl⟩ := e
  exact ⟨hi, rfl, h2, h1⟩
theorem OwnL.nil (t : Nat) (T : Nat → Nat) (w : World) : OwnL t T w (.slice none 0 0) [] := ⟨World.ownsRow_nil _ _ _ _, by simp [Value.ownBlock]⟩
/-- its first part -/
theorem OwnL.cut {t : Nat} {T : Nat → Nat} {w : World} {g n c : Nat} {l : List Int} (h : OwnL t T w (.slice (some ⟨g, 0, none⟩) n c) l) {k : Nat} (hk : k ≤ l.length) : OwnL t T w (.slice (some ⟨g, 0, none⟩) k c) (l.take k) := by
  refine ⟨⟨by simp [cellsI], ?_⟩, h.2⟩
  rcases h.1.2 with ⟨h1, h2⟩ | ⟨g', cap, cur, hv, hb, hh, hc, hm, hs, ht⟩
  · cases h1
  · cases hv
    refine .inr ⟨g, c, cur, by rw [List.length_take, Nat.min_eq_left hk], hb, hh, by rw [List.length_take]; omega, hm, hs, ?_⟩
    have := congrArg (List.take k) ht
    rw [List.take_take, Nat.mul_one, Nat.min_eq_left hk] at this
    rw [List.length_take, Nat.min_eq_left hk, Nat.mul_one, this, cellsI_take]
/-- a cell is written -/
theorem OwnL.set {t : Nat} {T : Nat → Nat} {w : World} {g n c : Nat} {l : List Int} (h : OwnL t T w (.slice (some ⟨g, 0, none⟩) n c) l) (j : Nat) (x : Int) (hn : n = l.length) : OwnL t T (w.setCell ⟨g, j, none⟩ (.int .i64 x)) (.slice (some ⟨g, 0, none⟩) n c) (l.set j x) := by
  have h1 := h.1
  subst hn
  have h2 := h1.stored j (.int .i64 x)
  refine ⟨?_, h.2⟩
  rw [List.length_set]
  have e : (cellsI l).set j (.int .i64 x) = cellsI (l.set j x) := by simp [cellsI, List.map_set]
  rw [← e]
  exact h2.1

/-- something is appended -/
theorem OwnL.grown {t : Nat} {T : Nat → Nat} {w w' : World} {v : Value} {g n c H : Nat} {l r : List Int} (h : OwnL t T w v l) (hgr : w.grownBy w' v.ownBlock) (hown : w'.ownsRow 0 3 1 (.slice (some ⟨g, 0, none⟩) n c) n (cellsI l ++ cellsI r)) (hn : n = l.length + r.length)
    (hat : v.ownBlock = some g ∨ g = H) (hH : w.heap.size ≤ H) : OwnL t (upd T g t) w' (.slice (some ⟨g, 0, none⟩) n c) (l ++ r) ∧ Goes (· = t) T w (upd T g t) w' := by
  refine ⟨⟨?_, fun g' e => ?_⟩, hgr.os, hgr.tape, hgr.output, hgr.size, fun b hb ht => ?_, fun b hb _ => ?_, fun b hb h0 => ?_⟩
  · rw [List.length_append, ← hn, cellsI_append]; exact hown
  · simp only [Value.ownBlock, Option.some.injEq] at e
    subst e; exact upd_same _ _ _
  · refine hgr.block b hb (fun e => ht ?_)
    exact h.2 b e.symm
  · by_cases e : b = g
    · subst e
      rcases hat with e | e
      · rw [upd_same, h.2 _ e]
      · omega
    · exact upd_other _ _ e
  · rw [upd_other _ _ (by have := (hown.lt g rfl).2; omega)]; exact h0

theorem OwnL.retag {t : Nat} {T : Nat → Nat} {w : World} {v : Value} {l : List Int} (h : OwnL t T w v l) {g s : Nat} (hg : w.heap.size ≤ g) : OwnL t (upd T g s) w v l :=
  ⟨h.1, fun g' e => by rw [upd_other _ _ (by have := (h.1.lt g' e).2; omega)]; exact h.2 g' e⟩
theorem IsI.none {w : World} {l : List Int} (h : IsI w none l) : l = [] := by
  by_cases hne : l = []
  · exact hne
  · obtain ⟨b, off, e, _⟩ := h hne
    cases e

/-- append of what a slice holds onto a list of one's own -/
theorem run_appL {P : Program} (w : World) (t ty : TypeId) (i : TypeInfo) (ht : P.underlying t = some (.slice 3)) (hi : P.info? 3 = some i) (hz : i.zero = some (.int .i64 0)) (hsize : i.size = 1) (hby : i.bytes = 8)
    (s : Nat) (T : Nat → Nat) (v : Value) (l : List Int) (hown : OwnL s T w v l) (ao : Option Addr) (m c : Nat) (r : List Int) (hm : m = r.length) (hn : ao = none → c = 0) (hr : IsI w ao r) (h40 : l.length + r.length ≤ 1000000000000) :
    ∃ v' T' w', (Builtin.append_ #[t, t] ty #[v, .slice ao m c]).run P w = .ok v' w' ∧ OwnL s T' w' v' (l ++ r) ∧ Goes (· = s) T w T' w' ∧ (v'.ownBlock = v.ownBlock ∨ v'.ownBlock = some w.heap.size) ∧ (0 < r.length → v' ≠ .slice none 0 0) := by
  subst hm
  cases ao with
  | none =>
    have hr0 := hr.none
    subst hr0
    obtain rfl := hn rfl
    have hrun := run_append_owned_none (P := P) (w := w) 0 t ty 3 i 1 ht hi v l.length (cellsI l) hown.1
    exact ⟨v, T, w, hrun, by rw [List.append_nil]; exact hown, Goes.refl _ _ _, .inl rfl, by simp⟩
  | some ad =>
    obtain ⟨v', w', hrun, h2, h3, h4, h5⟩ := run_append_own_at (P := P) w 0 t ty 3 i (.int .i64 0) 1 8 ht hi hz hsize hby rfl (by omega) v l.length (cellsI l) hown.1 ad r.length c (cellsI r) (by rw [cellsI_length]; omega) (news_of hr ad rfl) (cellsI_one r) (by unfold maxLen; omega) (by omega) (Nat.zero_le _)
    rcases h2.2 with ⟨e1, e2⟩ | ⟨g, cap, cur, hv, _⟩
    · have hl : l = [] := List.eq_nil_of_length_eq_zero (by omega)
      have hr0 : r = [] := List.eq_nil_of_length_eq_zero (by omega)
      subst hl; subst hr0
      have hv := (h4.1 e1).1
      refine ⟨v', T, w', hrun, ⟨by rw [e1]; exact World.ownsRow_nil _ _ _ _, by rw [e1]; simp [Value.ownBlock]⟩, ⟨h3.os, h3.tape, h3.output, h3.size, fun b hb _ => h3.block b hb (by rw [hv]; simp [Value.ownBlock]), fun _ _ _ => rfl, fun _ _ h => h⟩, h5, by simp⟩
    · subst hv
      have hat : v.ownBlock = some g ∨ g = w.heap.size := by
        rcases h5 with h5 | h5
        · exact .inl (by rw [← h5]; rfl)
        · exact .inr (by simpa [Value.ownBlock] using h5)
      obtain ⟨k1, k2⟩ := hown.grown h3 h2 rfl hat (Nat.le_refl _)
      exact ⟨_, _, w', hrun, k1, k2, h5, by simp⟩
theorem wp_appL {P : Program} (w : World) {o : Oper} {a : Act} {K : Act → World → Prop} {Q : Exit → Act → World → Prop} (s x : Operand) (t : TypeId)
    (ho : o.op = .call { callee := .builtin .append, args := #[s, x], argTypes := #[t, t] })
    (i : TypeInfo) (ht : P.underlying t = some (.slice 3)) (hi : P.info? 3 = some i) (hz : i.zero = some (.int .i64 0)) (hsize : i.size = 1) (hby : i.bytes = 8)
    (g : Nat) (T : Nat → Nat) (v : Value) (l : List Int) (hs : a.eval s = v) (hown : OwnL g T w v l) (ao : Option Addr) (m c : Nat) (r : List Int) (hx : a.eval x = .slice ao m c) (hm : m = r.length) (hn : ao = none → c = 0) (hr : IsI w ao r) (h40 : l.length + r.length ≤ 1000000000000)
    (h : ∀ a' c' T' w', OwnL g T' w' (.slice a' (l.length + r.length) c') (l ++ r) → Goes (· = g) T w T' w' → ((Value.slice a' (l.length + r.length) c').ownBlock = v.ownBlock ∨ (Value.slice a' (l.length + r.length) c').ownBlock = some w.heap.size) → K (a.put o.dst (.slice a' (l.length + r.length) c')) w') : o.wp P a w K Q := by
  obtain ⟨v', T', w', hr, h2, h3, h4, h5⟩ := run_appL (P := P) w t o.type i ht hi hz hsize hby g T v l hown ao m c r hm hn hr h40
  unfold Oper.wp execOp
  simp only [ho, resolve, invoke, builtin, Sem.run_bind, Sem.run_pure, Result.andThen_ok, List.map_toArray, List.map_cons, List.map_nil, hs, hx, hr]
  obtain ⟨a', c', rfl, _⟩ := h2.form
  rw [List.length_append] at h2 h4 ⊢
  exact h a' c' T' w' h2 h3 h4
theorem wpList_appL {P : Program} (w : World) {ops : Array Oper} {rest : List Oper} {o : Oper} {a : Act} {Q : Exit → Act → World → Prop} (hgd : o.guard = none) (s x : Operand) (t : TypeId)
    (ho : o.op = .call { callee := .builtin .append, args := #[s, x], argTypes := #[t, t] })
    (i : TypeInfo) (ht : P.underlying t = some (.slice 3)) (hi : P.info? 3 = some i) (hz : i.zero = some (.int .i64 0)) (hsize : i.size = 1) (hby : i.bytes = 8)
    (g : Nat) (T : Nat → Nat) (v : Value) (l : List Int) (hs : a.eval s = v) (hown : OwnL g T w v l) (ao : Option Addr) (m c : Nat) (r : List Int) (hx : a.eval x = .slice ao m c) (hm : m = r.length) (hn : ao = none → c = 0) (hr : IsI w ao r) (h40 : l.length + r.length ≤ 1000000000000)
    (h : ∀ a' c' T' w', OwnL g T' w' (.slice a' (l.length + r.length) c') (l ++ r) → Goes (· = g) T w T' w' → ((Value.slice a' (l.length + r.length) c').ownBlock = v.ownBlock ∨ (Value.slice a' (l.length + r.length) c').ownBlock = some w.heap.size) → wpList P ops Q rest (a.put o.dst (.slice a' (l.length + r.length) c')) w') : wpList P ops Q (o :: rest) a w :=
  wpList_plain hgd fun _ hK => wp_appL w s x t ho i ht hi hz hsize hby g T v l hs hown ao m c r hx hm hn hr h40 fun a' c' T' w' h2 h3 h4 => hK _ _ (h a' c' T' w' h2 h3 h4)
theorem step_appL {P : Program} (w : World) {ops : Array Oper} {o : Oper} {a : Act} {K : Act → World → Prop} {Q : Exit → Act → World → Prop} {E : Prop} (hgd : o.guard = none) (s x : Operand) (t : TypeId)
    (ho : o.op = .call { callee := .builtin .append, args := #[s, x], argTypes := #[t, t] })
    (i : TypeInfo) (ht : P.underlying t = some (.slice 3)) (hi : P.info? 3 = some i) (hz : i.zero = some (.int .i64 0)) (hsize : i.size = 1) (hby : i.bytes = 8)
    (g : Nat) (T : Nat → Nat) (v : Value) (l : List Int) (hs : a.eval s = v) (hown : OwnL g T w v l) (ao : Option Addr) (m c : Nat) (r : List Int) (hx : a.eval x = .slice ao m c) (hm : m = r.length) (hn : ao = none → c = 0) (hr : IsI w ao r) (h40 : l.length + r.length ≤ 1000000000000)
    (h : ∀ a' c' T' w', OwnL g T' w' (.slice a' (l.length + r.length) c') (l ++ r) → Goes (· = g) T w T' w' → ((Value.slice a' (l.length + r.length) c').ownBlock = v.ownBlock ∨ (Value.slice a' (l.length + r.length) c').ownBlock = some w.heap.size) → K (a.put o.dst (.slice a' (l.length + r.length) c')) w') :
    if Region.wanted o (yielded ops a.tmps) = true then Oper.wp P o a w K Q else E := by
  have hw : Region.wanted o (yielded ops a.tmps) = true := by simp [Region.wanted, hgd]
  rw [if_pos hw]
  exact wp_appL w s x t ho i ht hi hz hsize hby g T v l hs hown ao m c r hx hm hn hr h40 h

end Irw
end Go.Proofs.YtaejjpbpnedblaaGreat
namespace Go.Proofs.YtaejjpbpnedblaaGreat
namespace Crw
open Go.RowKit Laws Irw
set_option linter.unusedVariables false

/-! Lists of any kind of thing: rows of so many cells a thing. -/
structure Knd (α : Type) where
  ty : TypeId
  size : Nat
  bytes : Nat
  zero : Value
  cs : α → List Value
  len : ∀ x, (cs x).length = size
  one : ∀ x, ∀ u ∈ cs x, u.oneCell' = true
  pos : 0 < size
  zc : zero.cells.size = size
  b16 : bytes ≤ 128
variable {α : Type}
def Knd.cells (K : Knd α) : List α → List Value
  | [] => []
  | x :: r => K.cs x ++ K.cells r
theorem Knd.cells_length (K : Knd α) (l : List α) : (K.cells l).length = l.length * K.size := by
  induction l with
  | nil => simp [Knd.cells]
  | cons e r ih => simp only [Knd.cells, List.length_append, List.length_cons, ih, K.len, Nat.succ_mul]; omega
theorem Knd.cells_append (K : Knd α) (l r : List α) : K.cells (l ++ r) = K.cells l ++ K.cells r := by
  induction l with
  | nil => rfl
  | cons e l ih => simp only [List.cons_append, Knd.cells, ih, List.append_assoc]
theorem Knd.cells_one (K : Knd α) (l : List α) : ∀ u ∈ K.cells l, u.oneCell' = true := by
  induction l with
  | nil => intro u hu; simp [Knd.cells] at hu
  | cons e r ih =>
    intro u hu
    rcases List.mem_append.1 hu with hu | hu
    · exact K.one e u hu
    · exact ih u hu
theorem Knd.cells_get (K : Knd α) (l : List α) : ∀ (i : Nat) (e : α), l[i]? = some e → ∀ j, j < K.size → (K.cells l)[i * K.size + j]? = (K.cs e)[j]? := by
  induction l with
  | nil => intro i e h; simp at h
  | cons x r ih =>
    intro i e h j hj
    cases i with
    | zero =>
      simp at h; subst h
      rw [Nat.zero_mul, Nat.zero_add, Knd.cells, List.getElem?_append_left (by rw [K.len]; exact hj)]
    | succ i =>
      have := ih i e (by simpa using h) j hj
      rw [Knd.cells, List.getElem?_append_right (by rw [K.len, Nat.succ_mul]; omega), K.len, ← this]
      congr 1
      rw [Nat.succ_mul]; omega
def KRow (K : Knd α) (w : World) (b off : Nat) (l : List α) : Prop := b < w.heap.size ∧ ∀ (i : Nat) (e : α), l[i]? = some e → ∀ j u, (K.cs e)[j]? = some u → w.cell? ⟨b, off + i * K.size + j, none⟩ = some u
def IsK (K : Knd α) (w : World) (a : Option Addr) (l : List α) : Prop := l ≠ [] → ∃ b off, a = some ⟨b, off, none⟩ ∧ KRow K w b off l
variable {K : Knd α}
theorem KRow.keep {w w' : World} {b off : Nat} {l : List α} (h : KRow K w b off l) (hb : w'.heap[b]? = w.heap[b]?) (hs : w.heap.size ≤ w'.heap.size) : KRow K w' b off l :=
  ⟨Nat.lt_of_lt_of_le h.1 hs, fun i e he j u hu => (World.cell?_of_block (a := ⟨b, _, none⟩) hb).trans (h.2 i e he j u hu)⟩
theorem IsK.below {w w' : World} {a : Option Addr} {l : List α} (h : IsK K w a l) (hb : Below w.heap.size w w') : IsK K w' a l := fun hne => by
  obtain ⟨b, off, e, hr⟩ := h hne
  exact ⟨b, off, e, hr.keep (hb.block _ hr.1) hb.size⟩
theorem IsK.keep {w w' : World} {a : Option Addr} {l : List α} (h : IsK K w a l) (hb : ∀ b, b < w.heap.size → (∃ off, a = some ⟨b, off, none⟩) → w'.heap[b]? = w.heap[b]?) (hs : w.heap.size ≤ w'.heap.size) : IsK K w' a l := fun hne => by
  obtain ⟨b, off, e, hr⟩ := h hne
  exact ⟨b, off, e, hr.keep (hb _ hr.1 ⟨off, e⟩) hs⟩
theorem IsK.nil (w : World) (a : Option Addr) : IsK K w a [] := fun h => absurd rfl h
theorem IsK.at_ {w : World} {a : Option Addr} {l : List α} (h : IsK K w a l) (hn : 0 < l.length) : ∃ b off, a = some ⟨b, off, none⟩ ∧ KRow K w b off l := h (by rintro rfl; simp at hn)
theorem IsK.of {w : World} {b off : Nat} {l : List α} (h : KRow K w b off l) : IsK K w (some ⟨b, off, none⟩) l := fun _ => ⟨b, off, rfl, h⟩
theorem IsK.none {w : World} {l : List α} (h : IsK K w none l) : l = [] := by
  by_cases hne : l = []
  · exact hne
  · obtain ⟨b, off, e, _⟩ := h hne
    cases e
theorem newsK {w : World} {a : Option Addr} {l : List α} (h : IsK K w a l) : ∀ ad, a = Option.some ad → ∀ j u, (K.cells l)[j]? = Option.some u → w.cell? (ad.add j) = Option.some u := by
  intro ad had j u hu
  have hp := K.pos
  have hj : j < l.length * K.size := by rw [← K.cells_length]; exact (List.getElem?_eq_some_iff.1 hu).1
  have hi : j / K.size < l.length := Nat.div_lt_of_lt_mul (by rw [Nat.mul_comm]; exact hj)
  obtain ⟨b, off, h', hlt, hr⟩ := h (by rintro rfl; simp at hj)
  rw [had] at h'
  cases h'
  rw [add_plain']
  have hm := Nat.mod_lt j hp
  have e : j = j / K.size * K.size + j % K.size := by rw [Nat.mul_comm]; exact (Nat.div_add_mod j K.size).symm
  have hg := K.cells_get l (j / K.size) _ (List.getElem?_eq_getElem hi) (j % K.size) hm
  rw [← e, hu] at hg
  have := hr (j / K.size) _ (List.getElem?_eq_getElem hi) (j % K.size) u hg.symm
  rw [Nat.add_assoc, ← e] at this
  exact this

/-- A list of one's own. -/
def OwnK (K : Knd α) (t : Nat) (T : Nat → Nat) (w : World) (v : Value) (l : List α) : Prop := w.ownsRow 0 K.ty K.size v l.length (K.cells l) ∧ ∀ g, v.ownBlock = some g → T g = t
theorem OwnK.goes {s : Nat} {t : Nat → Prop} {T T' : Nat → Nat} {w w' : World} {v : Value} {l : List α} (h : OwnK K s T w v l) (hg : Goes t T w T' w') (hs : ¬ t s) : OwnK K s T' w' v l := by
  have hlt := fun g hv => (h.1.lt g hv).2
  refine ⟨⟨h.1.1, ?_⟩, fun g hv => (hg.tag g (hlt g hv) (by rw [h.2 g hv]; exact hs)).trans (h.2 g hv)⟩
  rcases h.1.2 with h1 | ⟨g, cap, cur, hv, hb, hh, hr⟩
  · exact .inl h1
  · have hv' : v.ownBlock = some g := by rw [hv]; rfl
    exact .inr ⟨g, cap, cur, hv, hb, (hg.block g (hlt g hv') (by rw [h.2 g hv']; exact hs)).trans hh, hr⟩
theorem OwnK.below {s : Nat} {T : Nat → Nat} {w w' : World} {v : Value} {l : List α} (h : OwnK K s T w v l) (hb : Below w.heap.size w w') : OwnK K s T w' v l := h.goes (Goes.below (t := fun _ => False) hb) (fun z => z)
theorem OwnK.form {s : Nat} {T : Nat → Nat} {w : World} {v : Value} {l : List α} (h : OwnK K s T w v l) : ∃ a c, v = .slice a l.length c ∧ IsK K w a l ∧ l.length ≤ c ∧ (a = none → c = 0) ∧ ∀ b off, a = some ⟨b, off, none⟩ → T b = s ∧ b < w.heap.size := by
  rcases h.1.2 with ⟨h1, h2⟩ | ⟨g, cap, cur, hv, hb, hh, hc, hr⟩
  · refine ⟨none, 0, by rw [h1, h2], ?_, by omega, by simp, fun b off e => by cases e⟩
    have : l = [] := List.eq_nil_of_length_eq_zero h2
    rw [this]; exact IsK.nil _ _
  · have hv' : v.ownBlock = some g := by rw [hv]; rfl
    refine ⟨some ⟨g, 0, none⟩, cap, hv, ?_, hc, by simp, fun b off e => by cases e; exact ⟨h.2 _ hv', (h.1.lt _ hv').2⟩⟩
    have h1 := h.1
    rw [hv] at h1
    refine IsK.of ⟨(h1.lt g rfl).2, fun i e he j u hu => ?_⟩
    have hi : i < l.length := (List.getElem?_eq_some_iff.1 he).1
    have hj : j < K.size := by rw [← K.len e]; exact (List.getElem?_eq_some_iff.1 hu).1
    have hd := K.cells_get l i e he j hj
    rw [Nat.zero_add, h1.cellAt _ (by
      have : (i + 1) * K.size ≤ l.length * K.size := Nat.mul_le_mul_right _ hi
      rw [Nat.succ_mul] at this
      omega), hd]
    exact hu
theorem OwnK.empty (t : Nat) (T : Nat → Nat) (w : World) : OwnK K t T w (.slice none 0 0) [] := ⟨World.ownsRow_nil _ _ _ _, by simp [Value.ownBlock]⟩
/-- something is appended -/
theorem OwnK.grown {t : Nat} {T : Nat → Nat} {w w' : World} {v : Value} {g n c H : Nat} {l r : List α} (h : OwnK K t T w v l) (hgr : w.grownBy w' v.ownBlock) (hown : w'.ownsRow 0 K.ty K.size (.slice (some ⟨g, 0, none⟩) n c) n (K.cells l ++ K.cells r)) (hn : n = l.length + r.length)
    (hat : v.ownBlock = some g ∨ g = H) (hH : w.heap.size ≤ H) : OwnK K t (upd T g t) w' (.slice (some ⟨g, 0, none⟩) n c) (l ++ r) ∧ Goes (· = t) T w (upd T g t) w' := by
  refine ⟨⟨?_, fun g' e => ?_⟩, hgr.os, hgr.tape, hgr.output, hgr.size, fun b hb ht => ?_, fun b hb _ => ?_, fun b hb h0 => ?_⟩
  · rw [List.length_append, ← hn, Knd.cells_append]; exact hown
  · simp only [Value.ownBlock, Option.some.injEq] at e
    subst e; exact upd_same _ _ _
  · refine hgr.block b hb (fun e => ht ?_)
    exact h.2 b e.symm
  · by_cases e : b = g
    · subst e
      rcases hat with e | e
      · rw [upd_same, h.2 _ e]
      · omega
    · exact upd_other _ _ e
  · rw [upd_other _ _ (by have := (hown.lt g rfl).2; omega)]; exact h0

/-- append of what a slice holds onto a list of one's own -/
theorem run_appK {P : Program} (K : Knd α) (w : World) (t ty : TypeId) (i : TypeInfo) (ht : P.underlying t = some (.slice K.ty)) (hi : P.info? K.ty = some i) (hz : i.zero = some K.zero) (hsize : i.size = K.size) (hby : i.bytes = K.bytes)
    (s : Nat) (T : Nat → Nat) (v : Value) (l : List α) (hown : OwnK K s T w v l) (ao : Option Addr) (m c : Nat) (r : List α) (hm : m = r.length) (hn : ao = none → c = 0) (hr : IsK K w ao r) (h40 : l.length + r.length ≤ 1000000000000) :
    ∃ v' T' w', (Builtin.append_ #[t, t] ty #[v, .slice ao m c]).run P w = .ok v' w' ∧ OwnK K s T' w' v' (l ++ r) ∧ Goes (· = s) T w T' w' ∧ (v'.ownBlock = v.ownBlock ∨ v'.ownBlock = some w.heap.size) ∧ (0 < r.length → v' ≠ .slice none 0 0) := by
  subst hm
  cases ao with
  | none =>
    have hr0 := hr.none
    subst hr0
    obtain rfl := hn rfl
    have hrun := run_append_owned_none (P := P) (w := w) 0 t ty K.ty i K.size ht hi v l.length (K.cells l) hown.1
    exact ⟨v, T, w, hrun, by rw [List.append_nil]; exact hown, Goes.refl _ _ _, .inl rfl, by simp⟩
  | some ad =>
    obtain ⟨v', w', hrun, h2, h3, h4, h5⟩ := run_append_own_at (P := P) w 0 t ty K.ty i K.zero K.size K.bytes ht hi hz hsize hby K.zc K.pos v l.length (K.cells l) hown.1 ad r.length c (K.cells r) (by rw [K.cells_length]) (newsK hr ad rfl) (K.cells_one r) (by unfold maxLen; omega) (by
        have := Nat.mul_le_mul h40 K.b16
        omega) (Nat.zero_le _)
    rcases h2.2 with ⟨e1, e2⟩ | ⟨g, cap, cur, hv, _⟩
    · have hl : l = [] := List.eq_nil_of_length_eq_zero (by omega)
      have hr0 : r = [] := List.eq_nil_of_length_eq_zero (by omega)
      subst hl; subst hr0
      have hv := (h4.1 e1).1
      refine ⟨v', T, w', hrun, ⟨by rw [e1]; exact World.ownsRow_nil _ _ _ _, by rw [e1]; simp [Value.ownBlock]⟩, ⟨h3.os, h3.tape, h3.output, h3.size, fun b hb _ => h3.block b hb (by rw [hv]; simp [Value.ownBlock]), fun _ _ _ => rfl, fun _ _ h => h⟩, h5, by simp⟩
    · subst hv
      have hat : v.ownBlock = some g ∨ g = w.heap.size := by
        rcases h5 with h5 | h5
        · exact .inl (by rw [← h5]; rfl)
        · exact .inr (by simpa [Value.ownBlock] using h5)
      obtain ⟨k1, k2⟩ := hown.grown h3 h2 rfl hat (Nat.le_refl _)
      exact ⟨_, _, w', hrun, k1, k2, h5, by simp⟩
theorem wp_appK {P : Program} (K : Knd α) (w : World) {o : Oper} {a : Act} {C : Act → World → Prop} {Q : Exit → Act → World → Prop} (s x : Operand) (t : TypeId)
    (ho : o.op = .call { callee := .builtin .append, args := #[s, x], argTypes := #[t, t] })
    (i : TypeInfo) (ht : P.underlying t = some (.slice K.ty)) (hi : P.info? K.ty = some i) (hz : i.zero = some K.zero) (hsize : i.size = K.size) (hby : i.bytes = K.bytes)
    (g : Nat) (T : Nat → Nat) (v : Value) (l : List α) (hs : a.eval s = v) (hown : OwnK K g T w v l) (ao : Option Addr) (m c : Nat) (r : List α) (hx : a.eval x = .slice ao m c) (hm : m = r.length) (hn : ao = none → c = 0) (hr : IsK K w ao r) (h40 : l.length + r.length ≤ 1000000000000)
    (h : ∀ a' c' T' w', OwnK K g T' w' (.slice a' (l.length + r.length) c') (l ++ r) → Goes (· = g) T w T' w' → C (a.put o.dst (.slice a' (l.length + r.length) c')) w') : o.wp P a w C Q := by
  obtain ⟨v', T', w', hr, h2, h3, h4, h5⟩ := run_appK (P := P) K w t o.type i ht hi hz hsize hby g T v l hown ao m c r hm hn hr h40
  unfold Oper.wp execOp
  simp only [ho, resolve, invoke, builtin, Sem.run_bind, Sem.run_pure, Result.andThen_ok, List.map_toArray, List.map_cons, List.map_nil, hs, hx, hr]
  obtain ⟨a', c', rfl, _⟩ := h2.form
  rw [List.length_append] at h2 h4 ⊢
  exact h a' c' T' w' h2 h3
theorem wpList_appK {P : Program} (K : Knd α) (w : World) {ops : Array Oper} {rest : List Oper} {o : Oper} {a : Act} {Q : Exit → Act → World → Prop} (hgd : o.guard = none) (s x : Operand) (t : TypeId)
    (ho : o.op = .call { callee := .builtin .append, args := #[s, x], argTypes := #[t, t] })
    (i : TypeInfo) (ht : P.underlying t = some (.slice K.ty)) (hi : P.info? K.ty = some i) (hz : i.zero = some K.zero) (hsize : i.size = K.size) (hby : i.bytes = K.bytes)
    (g : Nat) (T : Nat → Nat) (v : Value) (l : List α) (hs : a.eval s = v) (hown : OwnK K g T w v l) (ao : Option Addr) (m c : Nat) (r : List α) (hx : a.eval x = .slice ao m c) (hm : m = r.length) (hn : ao = none → c = 0) (hr : IsK K w ao r) (h40 : l.length + r.length ≤ 1000000000000)
    (h : ∀ a' c' T' w', OwnK K g T' w' (.slice a' (l.length + r.length) c') (l ++ r) → Goes (· = g) T w T' w' → wpList P ops Q rest (a.put o.dst (.slice a' (l.length + r.length) c')) w') : wpList P ops Q (o :: rest) a w :=
  wpList_plain hgd fun _ hK => wp_appK K w s x t ho i ht hi hz hsize hby g T v l hs hown ao m c r hx hm hn hr h40 fun a' c' T' w' h2 h3 => hK _ _ (h a' c' T' w' h2 h3)
theorem step_appK {P : Program} (K : Knd α) (w : World) {ops : Array Oper} {o : Oper} {a : Act} {C : Act → World → Prop} {Q : Exit → Act → World → Prop} {E : Prop} (hgd : o.guard = none) (s x : Operand) (t : TypeId)
    (ho : o.op = .call { callee := .builtin .append, args := #[s, x], argTypes := #[t, t] })
    (i : TypeInfo) (ht : P.underlying t = some (.slice K.ty)) (hi : P.info? K.ty = some i) (hz : i.zero = some K.zero) (hsize : i.size = K.size) (hby : i.bytes = K.bytes)
    (g : Nat) (T : Nat → Nat) (v : Value) (l : List α) (hs : a.eval s = v) (hown : OwnK K g T w v l) (ao : Option Addr) (m c : Nat) (r : List α) (hx : a.eval x = .slice ao m c) (hm : m = r.length) (hn : ao = none → c = 0) (hr : IsK K w ao r) (h40 : l.length + r.length ≤ 1000000000000)
    (h : ∀ a' c' T' w', OwnK K g T' w' (.slice a' (l.length + r.length) c') (l ++ r) → Goes (· = g) T w T' w' → C (a.put o.dst (.slice a' (l.length + r.length) c')) w') :
    if Region.wanted o (yielded ops a.tmps) = true then Oper.wp P o a w C Q else E := by
  have hw : Region.wanted o (yielded ops a.tmps) = true := by simp [Region.wanted, hgd]
  rw [if_pos hw]
  exact wp_appK K w s x t ho i ht hi hz hsize hby g T v l hs hown ao m c r hx hm hn hr h40 h
end Crw
end Go.Proofs.YtaejjpbpnedblaaGreat
