import Derived.Test.YtnhhalabmmcemaaDoorProg
import Derived.Test.YtnhhalabmmcemaaDoorIRw
import Derived.Laws.OwnMore
namespace Go.Proofs.YtnhhalabmmcemaaDoor
namespace Erw
open Go.RowKit Laws Irw
set_option linter.unusedVariables false

/-! Entries: rows of four cells each. -/
abbrev En := ByteArray × Int × Bool × ByteArray
def ez : En := (⟨#[]⟩, 0, false, ⟨#[]⟩)
def cell4 (e : En) : List Value := [.string e.1, .int .u64 e.2.1, .bool e.2.2.1, .string e.2.2.2]
def entV (e : En) : Value := .agg #[.string e.1, .int .u64 e.2.1, .bool e.2.2.1, .string e.2.2.2]
def cellsE : List En → List Value
  | [] => []
  | e :: r => .string e.1 :: .int .u64 e.2.1 :: .bool e.2.2.1 :: .string e.2.2.2 :: cellsE r
theorem cellsE_length (l : List En) : (cellsE l).length = l.length * 4 := by
  induction l with
  | nil => rfl
  | cons e r ih => simp only [cellsE, List.length_cons, ih]; omega
theorem cellsE_append (l r : List En) : cellsE (l ++ r) = cellsE l ++ cellsE r := by
  induction l with
  | nil => rfl
  | cons e l ih => simp only [List.cons_append, cellsE, ih]
theorem cellsE_take (l : List En) : ∀ k, (cellsE l).take (k * 4) = cellsE (l.take k) := by
  induction l with
  | nil => intro k; simp [cellsE]
  | cons e r ih =>
    intro k
    cases k with
    | zero => simp [cellsE]
    | succ k =>
      rw [show (k + 1) * 4 = k * 4 + 4 by omega]
      simp only [List.take_succ_cons, cellsE, ih]
theorem cellsE_one (l : List En) : ∀ u ∈ cellsE l, u.oneCell' = true := by
  induction l with
  | nil => intro u hu; simp [cellsE] at hu
  | cons e r ih =>
    intro u hu
    simp only [cellsE, List.mem_cons] at hu
    rcases hu with rfl | rfl | rfl | rfl | hu
    · rfl
    · rfl
    · rfl
    · rfl
    · exact ih u hu
theorem cellsE_get (l : List En) : ∀ (i : Nat) (e : En), l[i]? = some e → (cellsE l)[i * 4]? = some (.string e.1) ∧ (cellsE l)[i * 4 + 1]? = some (.int .u64 e.2.1) ∧ (cellsE l)[i * 4 + 2]? = some (.bool e.2.2.1) ∧ (cellsE l)[i * 4 + 3]? = some (.string e.2.2.2) := by
  induction l with
  | nil => intro i e h; simp at h
  | cons x r ih =>
    intro i e h
    cases i with
    | zero => simp at h; subst h; exact ⟨rfl, rfl, rfl, rfl⟩
    | succ i =>
      have := ih i e (by simpa using h)
      rw [show (i + 1) * 4 = i * 4 + 4 by omega]
      simpa [cellsE, Nat.add_right_comm] using this
theorem cellsE_set (l : List En) : ∀ (i : Nat) (e : En), i < l.length → ((((cellsE l).set (i * 4) (.string e.1)).set (i * 4 + 1) (.int .u64 e.2.1)).set (i * 4 + 2) (.bool e.2.2.1)).set (i * 4 + 3) (.string e.2.2.2) = cellsE (l.set i e) := by
  induction l with
  | nil => intro i e h; simp at h
  | cons x r ih =>
    intro i e h
    cases i with
    | zero => rfl
    | succ i =>
      rw [show (i + 1) * 4 = i * 4 + 4 by omega]
      have := ih i e (by simpa using h)
      simp only [cellsE, List.set_cons_succ, show i * 4 + 4 + 1 = i * 4 + 1 + 4 by omega, show i * 4 + 4 + 2 = i * 4 + 2 + 4 by omega, show i * 4 + 4 + 3 = i * 4 + 3 + 4 by omega, this]

def ERow (w : World) (b off : Nat) (l : List En) : Prop := b < w.heap.size ∧ ∀ (i : Nat) (e : En), l[i]? = some e → w.cell? ⟨b, off + i * 4, none⟩ = some (.string e.1) ∧ w.cell? ⟨b, off + i * 4 + 1, none⟩ = some (.int .u64 e.2.1) ∧ w.cell? ⟨b, off + i * 4 + 2, none⟩ = some (.bool e.2.2.1) ∧ w.cell? ⟨b, off + i * 4 + 3, none⟩ = some (.string e.2.2.2)
def IsE (w : World) (a : Option Addr) (l : List En) : Prop := l ≠ [] → ∃ b off, a = some ⟨b, off, none⟩ ∧ ERow w b off l
theorem ERow.keep {w w' : World} {b off : Nat} {l : List En} (h : ERow w b off l) (hb : w'.heap[b]? = w.heap[b]?) (hs : w.heap.size ≤ w'.heap.size) : ERow w' b off l :=
  ⟨Nat.lt_of_lt_of_le h.1 hs, fun i e he => by
    obtain ⟨h0, h1, h2, h3⟩ := h.2 i e he
    exact ⟨(World.cell?_of_block (a := ⟨b, _, none⟩) hb).trans h0, (World.cell?_of_block (a := ⟨b, _, none⟩) hb).trans h1, (World.cell?_of_block (a := ⟨b, _, none⟩) hb).trans h2, (World.cell?_of_block (a := ⟨b, _, none⟩) hb).trans h3⟩⟩
theorem ERow.below {w w' : World} {B b off : Nat} {l : List En} (h : ERow w b off l) (hb : Below B w w') (hB : b < B) : ERow w' b off l := h.keep (hb.block b hB) hb.size
theorem IsE.below {w w' : World} {a : Option Addr} {l : List En} (h : IsE w a l) (hb : Below w.heap.size w w') : IsE w' a l := fun hne => by
  obtain ⟨b, off, e, hr⟩ := h hne
  exact ⟨b, off, e, hr.below hb hr.1⟩
theorem IsE.nil (w : World) (a : Option Addr) : IsE w a [] := fun h => absurd rfl h
theorem IsE.at_ {w : World} {a : Option Addr} {l : List En} (h : IsE w a l) (hn : 0 < l.length) : ∃ b off, a = some ⟨b, off, none⟩ ∧ ERow w b off l := h (by rintro rfl; simp at hn)
theorem IsE.of {w : World} {b off : Nat} {l : List En} (h : ERow w b off l) : IsE w (some ⟨b, off, none⟩) l := fun _ => ⟨b, off, rfl, h⟩
theorem IsE.none {w : World} {l : List En} (h : IsE w none l) : l = [] := by
  by_cases hne : l = []
  · exact hne
  · obtain ⟨b, off, e, _⟩ := h hne
    cases e
theorem news_of {w : World} {a : Option Addr} {l : List En} (h : IsE w a l) : ∀ ad, a = Option.some ad → ∀ j u, (cellsE l)[j]? = Option.some u → w.cell? (ad.add j) = Option.some u := by
  intro ad had j u hu
  have hj : j < l.length * 4 := by rw [← cellsE_length]; exact (List.getElem?_eq_some_iff.1 hu).1
  have hi : j / 4 < l.length := by omega
  obtain ⟨b, off, h', hlt, hr⟩ := h (by rintro rfl; simp at hj)
  rw [had] at h'
  cases h'
  rw [add_plain']
  obtain ⟨c0, c1, c2, c3⟩ := hr (j / 4) _ (List.getElem?_eq_getElem hi)
  obtain ⟨d0, d1, d2, d3⟩ := cellsE_get l (j / 4) _ (List.getElem?_eq_getElem hi)
  rcases (show j = j / 4 * 4 ∨ j = j / 4 * 4 + 1 ∨ j = j / 4 * 4 + 2 ∨ j = j / 4 * 4 + 3 by omega) with e | e | e | e
  · rw [e] at hu ⊢; rw [d0] at hu; cases hu; exact c0
  · rw [e] at hu ⊢; rw [d1] at hu; cases hu; rw [← Nat.add_assoc]; exact c1
  · rw [e] at hu ⊢; rw [d2] at hu; cases hu; rw [← Nat.add_assoc]; exact c2
  · rw [e] at hu ⊢; rw [d3] at hu; cases hu; rw [← Nat.add_assoc]; exact c3

/-- A list of entries of one's own. -/
def OwnE (t : Nat) (T : Nat → Nat) (w : World) (v : Value) (l : List En) : Prop := w.ownsRow 0 43 4 v l.length (cellsE l) ∧ ∀ g, v.ownBlock = some g → T g = t
theorem OwnE.goes {s : Nat} {t : Nat → Prop} {T T' : Nat → Nat} {w w' : World} {v : Value} {l : List En} (h : OwnE s T w v l) (hg : Goes t T w T' w') (hs : ¬ t s) : OwnE s T' w' v l := by
  have hlt := fun g hv => (h.1.lt g hv).2
  refine ⟨⟨h.1.1, ?_⟩, fun g hv => (hg.tag g (hlt g hv) (by rw [h.2 g hv]; exact hs)).trans (h.2 g hv)⟩
  rcases h.1.2 with h1 | ⟨g, cap, cur, hv, hb, hh, hr⟩
  · exact .inl h1
  · have hv' : v.ownBlock = some g := by rw [hv]; rfl
    exact .inr ⟨g, cap, cur, hv, hb, (hg.block g (hlt g hv') (by rw [h.2 g hv']; exact hs)).trans hh, hr⟩
theorem OwnE.below {s : Nat} {T : Nat → Nat} {w w' : World} {v : Value} {l : List En} (h : OwnE s T w v l) (hb : Below w.heap.size w w') : OwnE s T w' v l := h.goes (Goes.below (t := fun _ => False) hb) (fun z => z)
theorem OwnE.form {s : Nat} {T : Nat → Nat} {w : World} {v : Value} {l : List En} (h : OwnE s T w v l) : ∃ a c, v = .slice a l.length c ∧ IsE w a l ∧ l.length ≤ c ∧ (a = none → c = 0) := by
  rcases h.1.2 with ⟨h1, h2⟩ | ⟨g, cap, cur, hv, hb, hh, hc, hr⟩
  · refine ⟨none, 0, by rw [h1, h2], ?_, by omega, by simp⟩
    have : l = [] := List.eq_nil_of_length_eq_zero h2
    rw [this]; exact IsE.nil _ _
  · refine ⟨some ⟨g, 0, none⟩, cap, hv, ?_, hc, by simp⟩
    have h1 := h.1
    rw [hv] at h1
    refine IsE.of ⟨(h1.lt g rfl).2, fun i e he => ?_⟩
    have hi : i < l.length := (List.getElem?_eq_some_iff.1 he).1
    obtain ⟨d0, d1, d2, d3⟩ := cellsE_get l i e he
    rw [Nat.zero_add]
    exact ⟨by rw [h1.cellAt _ (by omega)]; exact d0, by rw [h1.cellAt _ (by omega)]; exact d1, by rw [h1.cellAt _ (by omega)]; exact d2, by rw [h1.cellAt _ (by omega)]; exact d3⟩
theorem OwnE.isE {t : Nat} {T : Nat → Nat} {w : World} {a : Option Addr} {n c : Nat} {l : List En} (h : OwnE t T w (.slice a n c) l) : IsE w a l ∧ n = l.length ∧ (a = none → c = 0) ∧ n ≤ c := by
  obtain ⟨a', c', e, hi, h1, h2⟩ := h.form
  simp only [Value.slice.injEq] at e
  obtain ⟨rfl, rfl, rfl⟩ := e
  exact ⟨hi, rfl, h2, h1⟩
theorem OwnE.empty (t : Nat) (T : Nat → Nat) (w : World) : OwnE t T w (.slice none 0 0) [] := ⟨World.ownsRow_nil _ _ _ _, by simp [Value.ownBlock]⟩
theorem OwnE.blk {t : Nat} {T : Nat → Nat} {w : World} {a : Option Addr} {n c : Nat} {l : List En} (h : OwnE t T w (.slice a n c) l) (h0 : 0 < l.length) : ∃ g, a = Option.some ⟨g, 0, none⟩ := by
  rcases h.1.2 with ⟨h1, h2⟩ | ⟨g, cap, cur, hv, _⟩
  · omega
  · simp only [Value.slice.injEq] at hv
    exact ⟨g, hv.1⟩
theorem OwnE.frozen {t : Nat} {T : Nat → Nat} {w : World} {g n c : Nat} {l : List En} (h : OwnE t T w (.slice (Option.some ⟨g, 0, Option.none⟩) n c) l) (j : Nat) : w.frozen? ⟨g, j, Option.none⟩ = false := by
  have h1 := h.1
  rw [← h.isE.2.1] at h1
  exact h1.frozenAt _
theorem OwnE.cut {t : Nat} {T : Nat → Nat} {w : World} {g n c : Nat} {l : List En} (h : OwnE t T w (.slice (Option.some ⟨g, 0, Option.none⟩) n c) l) {k : Nat} (hk : k ≤ l.length) : OwnE t T w (.slice (Option.some ⟨g, 0, Option.none⟩) k c) (l.take k) := by
  refine ⟨⟨by rw [cellsE_length], ?_⟩, h.2⟩
  rcases h.1.2 with ⟨h1, h2⟩ | ⟨g', cap, cur, hv, hb, hh, hc, hm, hs, ht⟩
  · cases h1
  · cases hv
    refine .inr ⟨g, c, cur, by rw [List.length_take, Nat.min_eq_left hk], hb, hh, by rw [List.length_take]; omega, hm, hs, ?_⟩
    have := congrArg (List.take (k * 4)) ht
    rw [List.take_take, Nat.min_eq_left (by omega)] at this
    rw [List.length_take, Nat.min_eq_left hk, this, cellsE_take]
theorem OwnE.set {t : Nat} {T : Nat → Nat} {w : World} {g n c : Nat} {l : List En} (h : OwnE t T w (.slice (Option.some ⟨g, 0, Option.none⟩) n c) l) (i : Nat) (e : En) (hi : i < l.length) :
    OwnE t T ((((w.setCell ⟨g, i * 4, Option.none⟩ (.string e.1)).setCell ⟨g, i * 4 + 1, Option.none⟩ (.int .u64 e.2.1)).setCell ⟨g, i * 4 + 2, Option.none⟩ (.bool e.2.2.1)).setCell ⟨g, i * 4 + 3, Option.none⟩ (.string e.2.2.2)) (.slice (Option.some ⟨g, 0, Option.none⟩) n c) (l.set i e) := by
  have hn := h.isE.2.1
  have h1 := h.1
  subst hn
  have h2 := ((((h1.stored (i * 4) (.string e.1)).1.stored (i * 4 + 1) (.int .u64 e.2.1)).1.stored (i * 4 + 2) (.bool e.2.2.1)).1.stored (i * 4 + 3) (.string e.2.2.2)).1
  rw [cellsE_set l i e hi] at h2
  exact ⟨by rw [List.length_set]; exact h2, h.2⟩
theorem infoE : (Tryd.prog.info? 43).map (fun i => (i.zero, i.size, i.bytes)) = Option.some (Option.some (.agg #[.string ⟨#[]⟩, .int .u64 0, .bool false, .string ⟨#[]⟩]), 4, 48) := by kernel_rfl

end Erw
end Go.Proofs.YtnhhalabmmcemaaDoor
namespace Go.Proofs.YtnhhalabmmcemaaDoor
namespace Erw
open Go.RowKit Laws Irw
set_option linter.unusedVariables false

/-- something is appended -/
theorem OwnE.grown {t : Nat} {T : Nat → Nat} {w w' : World} {v : Value} {g n c H : Nat} {l r : List En} (h : OwnE t T w v l) (hgr : w.grownBy w' v.ownBlock) (hown : w'.ownsRow 0 43 4 (.slice (some ⟨g, 0, none⟩) n c) n (cellsE l ++ cellsE r)) (hn : n = l.length + r.length)
    (hat : v.ownBlock = some g ∨ g = H) (hH : w.heap.size ≤ H) : OwnE t (upd T g t) w' (.slice (some ⟨g, 0, none⟩) n c) (l ++ r) ∧ Goes (· = t) T w (upd T g t) w' := by
  refine ⟨⟨?_, fun g' e => ?_⟩, hgr.os, hgr.tape, hgr.output, hgr.size, fun b hb ht => ?_, fun b hb _ => ?_, fun b hb h0 => ?_⟩
  · rw [List.length_append, ← hn, cellsE_append]; exact hown
  · simp only [Value.ownBlock, Option.some.injEq] at e
    subst e; exact upd_same _ _ _
  · refine hgr.block b hb (fun e => ht ?_)
    exact h.2 b e.symm
  · by_cases e : b = g
    · subst e
      rcases hat with e | e
      · rw [upd_same, h.2 _ e]
      · omega
    · exact upd_other _ _ e
  · rw [upd_other _ _ (by have := (hown.lt g rfl).2; omega)]; exact h0

/-- append of what a slice holds onto a list of one's own -/
theorem run_appE {P : Program} (w : World) (t ty : TypeId) (i : TypeInfo) (ht : P.underlying t = some (.slice 43)) (hi : P.info? 43 = some i) (hz : i.zero = some (.agg #[.string ⟨#[]⟩, .int .u64 0, .bool false, .string ⟨#[]⟩])) (hsize : i.size = 4) (hby : i.bytes = 48)
    (s : Nat) (T : Nat → Nat) (v : Value) (l : List En) (hown : OwnE s T w v l) (ao : Option Addr) (m c : Nat) (r : List En) (hm : m = r.length) (hn : ao = none → c = 0) (hr : IsE w ao r) (h40 : l.length + r.length ≤ 2932031007402) :
    ∃ v' T' w', (Builtin.append_ #[t, t] ty #[v, .slice ao m c]).run P w = .ok v' w' ∧ OwnE s T' w' v' (l ++ r) ∧ Goes (· = s) T w T' w' ∧ (v'.ownBlock = v.ownBlock ∨ v'.ownBlock = some w.heap.size) ∧ (0 < r.length → v' ≠ .slice none 0 0) := by
  subst hm
  cases ao with
  | none =>
    have hr0 := hr.none
    subst hr0
    obtain rfl := hn rfl
    have hrun := run_append_owned_none (P := P) (w := w) 0 t ty 43 i 4 ht hi v l.length (cellsE l) hown.1
    exact ⟨v, T, w, hrun, by rw [List.append_nil]; exact hown, Goes.refl _ _ _, .inl rfl, by simp⟩
  | some ad =>
    obtain ⟨v', w', hrun, h2, h3, h4, h5⟩ := run_append_own_at (P := P) w 0 t ty 43 i (.agg #[.string ⟨#[]⟩, .int .u64 0, .bool false, .string ⟨#[]⟩]) 4 48 ht hi hz hsize hby rfl (by omega) v l.length (cellsE l) hown.1 ad r.length c (cellsE r) (by rw [cellsE_length]) (news_of hr ad rfl) (cellsE_one r) (by unfold maxLen; omega) (by omega) (Nat.zero_le _)
    rcases h2.2 with ⟨e1, e2⟩ | ⟨g, cap, cur, hv, _⟩
    · have hl : l = [] := List.eq_nil_of_length_eq_zero (by omega)
      have hr0 : r = [] := List.eq_nil_of_length_eq_zero (by omega)
      subst hl; subst hr0
      have hv := (h4.1 e1).1
      refine ⟨v', T, w', hrun, ⟨by rw [e1]; exact World.ownsRow_nil _ _ _ _, by rw [e1]; simp [Value.ownBlock]⟩, ⟨h3.os, h3.tape, h3.output, h3.size, fun b hb _ => h3.block b hb (by rw [hv]; simp [Value.ownBlock]), fun _ _ _ => rfl, fun _ _ h => h⟩, h5, by simp⟩
    · subst hv
      have hat : v.ownBlock = some g ∨ g = w.heap.size := by
        rcases h5 with h5 | h5
        · exact .inl (by rw [← h5]; rfl)
        · exact .inr (by simpa [Value.ownBlock] using h5)
      obtain ⟨k1, k2⟩ := hown.grown h3 h2 rfl hat (Nat.le_refl _)
      exact ⟨_, _, w', hrun, k1, k2, h5, by simp⟩
theorem wp_appE {P : Program} (w : World) {o : Oper} {a : Act} {K : Act → World → Prop} {Q : Exit → Act → World → Prop} (s x : Operand) (t : TypeId)
    (ho : o.op = .call { callee := .builtin .append, args := #[s, x], argTypes := #[t, t] })
    (i : TypeInfo) (ht : P.underlying t = some (.slice 43)) (hi : P.info? 43 = some i) (hz : i.zero = some (.agg #[.string ⟨#[]⟩, .int .u64 0, .bool false, .string ⟨#[]⟩])) (hsize : i.size = 4) (hby : i.bytes = 48)
    (g : Nat) (T : Nat → Nat) (v : Value) (l : List En) (hs : a.eval s = v) (hown : OwnE g T w v l) (ao : Option Addr) (m c : Nat) (r : List En) (hx : a.eval x = .slice ao m c) (hm : m = r.length) (hn : ao = none → c = 0) (hr : IsE w ao r) (h40 : l.length + r.length ≤ 2932031007402)
    (h : ∀ a' c' T' w', OwnE g T' w' (.slice a' (l.length + r.length) c') (l ++ r) → Goes (· = g) T w T' w' → ((Value.slice a' (l.length + r.length) c').ownBlock = v.ownBlock ∨ (Value.slice a' (l.length + r.length) c').ownBlock = some w.heap.size) → K (a.put o.dst (.slice a' (l.length + r.length) c')) w') : o.wp P a w K Q := by
  obtain ⟨v', T', w', hr, h2, h3, h4, h5⟩ := run_appE (P := P) w t o.type i ht hi hz hsize hby g T v l hown ao m c r hm hn hr h40
  unfold Oper.wp execOp
  simp only [ho, resolve, invoke, builtin, Sem.run_bind, Sem.run_pure, Result.andThen_ok, List.map_toArray, List.map_cons, List.map_nil, hs, hx, hr]
  obtain ⟨a', c', rfl, _⟩ := h2.form
  rw [List.length_append] at h2 h4 ⊢
  exact h a' c' T' w' h2 h3 h4
theorem wpList_appE {P : Program} (w : World) {ops : Array Oper} {rest : List Oper} {o : Oper} {a : Act} {Q : Exit → Act → World → Prop} (hgd : o.guard = none) (s x : Operand) (t : TypeId)
    (ho : o.op = .call { callee := .builtin .append, args := #[s, x], argTypes := #[t, t] })
    (i : TypeInfo) (ht : P.underlying t = some (.slice 43)) (hi : P.info? 43 = some i) (hz : i.zero = some (.agg #[.string ⟨#[]⟩, .int .u64 0, .bool false, .string ⟨#[]⟩])) (hsize : i.size = 4) (hby : i.bytes = 48)
    (g : Nat) (T : Nat → Nat) (v : Value) (l : List En) (hs : a.eval s = v) (hown : OwnE g T w v l) (ao : Option Addr) (m c : Nat) (r : List En) (hx : a.eval x = .slice ao m c) (hm : m = r.length) (hn : ao = none → c = 0) (hr : IsE w ao r) (h40 : l.length + r.length ≤ 2932031007402)
    (h : ∀ a' c' T' w', OwnE g T' w' (.slice a' (l.length + r.length) c') (l ++ r) → Goes (· = g) T w T' w' → ((Value.slice a' (l.length + r.length) c').ownBlock = v.ownBlock ∨ (Value.slice a' (l.length + r.length) c').ownBlock = some w.heap.size) → wpList P ops Q rest (a.put o.dst (.slice a' (l.length + r.length) c')) w') : wpList P ops Q (o :: rest) a w :=
  wpList_plain hgd fun _ hK => wp_appE w s x t ho i ht hi hz hsize hby g T v l hs hown ao m c r hx hm hn hr h40 fun a' c' T' w' h2 h3 h4 => hK _ _ (h a' c' T' w' h2 h3 h4)
theorem step_appE {P : Program} (w : World) {ops : Array Oper} {o : Oper} {a : Act} {K : Act → World → Prop} {Q : Exit → Act → World → Prop} {E : Prop} (hgd : o.guard = none) (s x : Operand) (t : TypeId)
    (ho : o.op = .call { callee := .builtin .append, args := #[s, x], argTypes := #[t, t] })
    (i : TypeInfo) (ht : P.underlying t = some (.slice 43)) (hi : P.info? 43 = some i) (hz : i.zero = some (.agg #[.string ⟨#[]⟩, .int .u64 0, .bool false, .string ⟨#[]⟩])) (hsize : i.size = 4) (hby : i.bytes = 48)
    (g : Nat) (T : Nat → Nat) (v : Value) (l : List En) (hs : a.eval s = v) (hown : OwnE g T w v l) (ao : Option Addr) (m c : Nat) (r : List En) (hx : a.eval x = .slice ao m c) (hm : m = r.length) (hn : ao = none → c = 0) (hr : IsE w ao r) (h40 : l.length + r.length ≤ 2932031007402)
    (h : ∀ a' c' T' w', OwnE g T' w' (.slice a' (l.length + r.length) c') (l ++ r) → Goes (· = g) T w T' w' → ((Value.slice a' (l.length + r.length) c').ownBlock = v.ownBlock ∨ (Value.slice a' (l.length + r.length) c').ownBlock = some w.heap.size) → K (a.put o.dst (.slice a' (l.length + r.length) c')) w') :
    if Region.wanted o (yielded ops a.tmps) = true then Oper.wp P o a w K Q else E := by
  have hw : Region.wanted o (yielded ops a.tmps) = true := by simp [Region.wanted, hgd]
  rw [if_pos hw]
  exact wp_appE w s x t ho i ht hi hz hsize hby g T v l hs hown ao m c r hx hm hn hr h40 h

end Erw
end Go.Proofs.YtnhhalabmmcemaaDoor
