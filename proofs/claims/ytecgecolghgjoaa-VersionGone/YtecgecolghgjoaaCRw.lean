import Derived.Test.YtecgecolghgjoaaProg
import Derived.Test.YtecgecolghgjoaaIRw
import Derived.Laws.OwnMore
namespace Go.Proofs.Ytecgecolghgjoaa
namespace Crw
open Go.RowKit Laws Irw
set_option linter.unusedVariables false

/-! Lists of any kind of thing: rows of so many cells a thing. -/
structure Knd (α : Type) where
  ty : TypeId
  size : Nat
  bytes : Nat
  zero : Value
  cs : α → List Value
  len : ∀ x, (cs x).length = size
  one : ∀ x, ∀ u ∈ cs x, u.oneCell' = true
  pos : 0 < size
  zc : zero.cells.size = size
  b16 : bytes ≤ 128
variable {α : Type}
def Knd.cells (K : Knd α) : List α → List Value
  | [] => []
  | x :: r => K.cs x ++ K.cells r
theorem Knd.cells_length (K : Knd α) (l : List α) : (K.cells l).length = l.length * K.size := by
  induction l with
  | nil => simp [Knd.cells]
  | cons e r ih => simp only [Knd.cells, List.length_append, List.length_cons, ih, K.len, Nat.succ_mul]; omega
theorem Knd.cells_append (K : Knd α) (l r : List α) : K.cells (l ++ r) = K.cells l ++ K.cells r := by
  induction l with
  | nil => rfl
  | cons e l ih => simp only [List.cons_append, Knd.cells, ih, List.append_assoc]
theorem Knd.cells_one (K : Knd α) (l : List α) : ∀ u ∈ K.cells l, u.oneCell' = true := by
  induction l with
  | nil => intro u hu; simp [Knd.cells] at hu
  | cons e r ih =>
    intro u hu
    rcases List.mem_append.1 hu with hu | hu
    · exact K.one e u hu
    · exact ih u hu
theorem Knd.cells_get (K : Knd α) (l : List α) : ∀ (i : Nat) (e : α), l[i]? = some e → ∀ j, j < K.size → (K.cells l)[i * K.size + j]? = (K.cs e)[j]? := by
  induction l with
  | nil => intro i e h; simp at h
  | cons x r ih =>
    intro i e h j hj
    cases i with
    | zero =>
      simp at h; subst h
      rw [Nat.zero_mul, Nat.zero_add, Knd.cells, List.getElem?_append_left (by rw [K.len]; exact hj)]
    | succ i =>
      have := ih i e (by simpa using h) j hj
      rw [Knd.cells, List.getElem?_append_right (by rw [K.len, Nat.succ_mul]; omega), K.len, ← this]
      congr 1
      rw [Nat.succ_mul]; omega
def KRow (K : Knd α) (w : World) (b off : Nat) (l : List α) : Prop := b < w.heap.size ∧ ∀ (i : Nat) (e : α), l[i]? = some e → ∀ j u, (K.cs e)[j]? = some u → w.cell? ⟨b, off + i * K.size + j, none⟩ = some u
def IsK (K : Knd α) (w : World) (a : Option Addr) (l : List α) : Prop := l ≠ [] → ∃ b off, a = some ⟨b, off, none⟩ ∧ KRow K w b off l
variable {K : Knd α}
theorem KRow.keep {w w' : World} {b off : Nat} {l : List α} (h : KRow K w b off l) (hb : w'.heap[b]? = w.heap[b]?) (hs : w.heap.size ≤ w'.heap.size) : KRow K w' b off l :=
  ⟨Nat.lt_of_lt_of_le h.1 hs, fun i e he j u hu => (World.cell?_of_block (a := ⟨b, _, none⟩) hb).trans (h.2 i e he j u hu)⟩
theorem IsK.below {w w' : World} {a : Option Addr} {l : List α} (h : IsK K w a l) (hb : Below w.heap.size w w') : IsK K w' a l := fun hne => by
  obtain ⟨b, off, e, hr⟩ := h hne
  exact ⟨b, off, e, hr.keep (hb.block _ hr.1) hb.size⟩
theorem IsK.keep {w w' : World} {a : Option Addr} {l : List α} (h : IsK K w a l) (hb : ∀ b, b < w.heap.size → (∃ off, a = some ⟨b, off, none⟩) → w'.heap[b]? = w.heap[b]?) (hs : w.heap.size ≤ w'.heap.size) : IsK K w' a l := fun hne => by
  obtain ⟨b, off, e, hr⟩ := h hne
  exact ⟨b, off, e, hr.keep (hb _ hr.1 ⟨off, e⟩) hs⟩
theorem IsK.nil (w : World) (a : Option Addr) : IsK K w a [] := fun h => absurd rfl h
theorem IsK.at_ {w : World} {a : Option Addr} {l : List α} (h : IsK K w a l) (hn : 0 < l.length) : ∃ b off, a = some ⟨b, off, none⟩ ∧ KRow K w b off l := h (by rintro rfl; simp at hn)
theorem IsK.of {w : World} {b off : Nat} {l : List α} (h : KRow K w b off l) : IsK K w (some ⟨b, off, none⟩) l := fun _ => ⟨b, off, rfl, h⟩
theorem IsK.none {w : World} {l : List α} (h : IsK K w none l) : l = [] := by
  by_cases hne : l = []
  · exact hne
  · obtain ⟨b, off, e, _⟩ := h hne
    cases e
theorem newsK {w : World} {a : Option Addr} {l : List α} (h : IsK K w a l) : ∀ ad, a = Option.some ad → ∀ j u, (K.cells l)[j]? = Option.some u → w.cell? (ad.add j) = Option.some u := by
  intro ad had j u hu
  have hp := K.pos
  have hj : j < l.length * K.size := by rw [← K.cells_length]; exact (List.getElem?_eq_some_iff.1 hu).1
  have hi : j / K.size < l.length := Nat.div_lt_of_lt_mul (by rw [Nat.mul_comm]; exact hj)
  obtain ⟨b, off, h', hlt, hr⟩ := h (by rintro rfl; simp at hj)
  rw [had] at h'
  cases h'
  rw [add_plain']
  have hm := Nat.mod_lt j hp
  have e : j = j / K.size * K.size + j % K.size := by rw [Nat.mul_comm]; exact (Nat.div_add_mod j K.size).symm
  have hg := K.cells_get l (j / K.size) _ (List.getElem?_eq_getElem hi) (j % K.size) hm
  rw [← e, hu] at hg
  have := hr (j / K.size) _ (List.getElem?_eq_getElem hi) (j % K.size) u hg.symm
  rw [Nat.add_assoc, ← e] at this
  exact this

/-- A list of one's own. -/
def OwnK (K : Knd α) (t : Nat) (T : Nat → Nat) (w : World) (v : Value) (l : List α) : Prop := w.ownsRow 0 K.ty K.size v l.length (K.cells l) ∧ ∀ g, v.ownBlock = some g → T g = t
theorem OwnK.goes {s : Nat} {t : Nat → Prop} {T T' : Nat → Nat} {w w' : World} {v : Value} {l : List α} (h : OwnK K s T w v l) (hg : Goes t T w T' w') (hs : ¬ t s) : OwnK K s T' w' v l := by
  have hlt := fun g hv => (h.1.lt g hv).2
  refine ⟨⟨h.1.1, ?_⟩, fun g hv => (hg.tag g (hlt g hv) (by rw [h.2 g hv]; exact hs)).trans (h.2 g hv)⟩
  rcases h.1.2 with h1 | ⟨g, cap, cur, hv, hb, hh, hr⟩
  · exact .inl h1
  · have hv' : v.ownBlock = some g := by rw [hv]; rfl
    exact .inr ⟨g, cap, cur, hv, hb, (hg.block g (hlt g hv') (by rw [h.2 g hv']; exact hs)).trans hh, hr⟩
theorem OwnK.below {s : Nat} {T : Nat → Nat} {w w' : World} {v : Value} {l : List α} (h : OwnK K s T w v l) (hb : Below w.heap.size w w') : OwnK K s T w' v l := h.goes (Goes.below (t := fun _ => False) hb) (fun z => z)
theorem OwnK.form {s : Nat} {T : Nat → Nat} {w : World} {v : Value} {l : List α} (h : OwnK K s T w v l) : ∃ a c, v = .slice a l.length c ∧ IsK K w a l ∧ l.length ≤ c ∧ (a = none → c = 0) ∧ ∀ b off, a = some ⟨b, off, none⟩ → T b = s ∧ b < w.heap.size := by
  rcases h.1.2 with ⟨h1, h2⟩ | ⟨g, cap, cur, hv, hb, hh, hc, hr⟩
  · refine ⟨none, 0, by rw [h1, h2], ?_, by omega, by simp, fun b off e => by cases e⟩
    have : l = [] := List.eq_nil_of_length_eq_zero h2
    rw [this]; exact IsK.nil _ _
  · have hv' : v.ownBlock = some g := by rw [hv]; rfl
    refine ⟨some ⟨g, 0, none⟩, cap, hv, ?_, hc, by simp, fun b off e => by cases e; exact ⟨h.2 _ hv', (h.1.lt _ hv').2⟩⟩
    have h1 := h.1
    rw [hv] at h1
    refine IsK.of ⟨(h1.lt g rfl).2, fun i e he j u hu => ?_⟩
    have hi : i < l.length := (List.getElem?_eq_some_iff.1 he).1
    have hj : j < K.size := by rw [← K.len e]; exact (List.getElem?_eq_some_iff.1 hu).1
    have hd := K.cells_get l i e he j hj
    rw [Nat.zero_add, h1.cellAt _ (by
      have : (i + 1) * K.size ≤ l.length * K.size := Nat.mul_le_mul_right _ hi
      rw [Nat.succ_mul] at this
      omega), hd]
    exact hu
theorem OwnK.empty (t : Nat) (T : Nat → Nat) (w : World) : OwnK K t T w (.slice none 0 0) [] := ⟨World.ownsRow_nil _ _ _ _, by simp [Value.ownBlock]⟩
/-- something is appended -/
theorem OwnK.grown {t : Nat} {T : Nat → Nat} {w w' : World} {v : Value} {g n c H : Nat} {l r : List α} (h : OwnK K t T w v l) (hgr : w.grownBy w' v.ownBlock) (hown : w'.ownsRow 0 K.ty K.size (.slice (some ⟨g, 0, none⟩) n c) n (K.cells l ++ K.cells r)) (hn : n = l.length + r.length)
    (hat : v.ownBlock = some g ∨ g = H) (hH : w.heap.size ≤ H) : OwnK K t (upd T g t) w' (.slice (some ⟨g, 0, none⟩) n c) (l ++ r) ∧ Goes (· = t) T w (upd T g t) w' := by
  refine ⟨⟨?_, fun g' e => ?_⟩, hgr.os, hgr.tape, hgr.output, hgr.size, fun b hb ht => ?_, fun b hb _ => ?_, fun b hb h0 => ?_⟩
  · rw [List.length_append, ← hn, Knd.cells_append]; exact hown
  · simp only [Value.ownBlock, Option.some.injEq] at e
    subst e; exact upd_same _ _ _
  · refine hgr.block b hb (fun e => ht ?_)
    exact h.2 b e.symm
  · by_cases e : b = g
    · subst e
      rcases hat with e | e
      · rw [upd_same, h.2 _ e]
      · omega
    · exact upd_other _ _ e
  · rw [upd_other _ _ (by have := (hown.lt g rfl).2; omega)]; exact h0

/-- append of what a slice holds onto a list of one's own -/
theorem run_appK {P : Program} (K : Knd α) (w : World) (t ty : TypeId) (i : TypeInfo) (ht : P.underlying t = some (.slice K.ty)) (hi : P.info? K.ty = some i) (hz : i.zero = some K.zero) (hsize : i.size = K.size) (hby : i.bytes = K.bytes)
    (s : Nat) (T : Nat → Nat) (v : Value) (l : List α) (hown : OwnK K s T w v l) (ao : Option Addr) (m c : Nat) (r : List α) (hm : m = r.length) (hn : ao = none → c = 0) (hr : IsK K w ao r) (h40 : l.length + r.length ≤ 1000000000000) :
    ∃ v' T' w', (Builtin.append_ #[t, t] ty #[v, .slice ao m c]).run P w = .ok v' w' ∧ OwnK K s T' w' v' (l ++ r) ∧ Goes (· = s) T w T' w' ∧ (v'.ownBlock = v.ownBlock ∨ v'.ownBlock = some w.heap.size) ∧ (0 < r.length → v' ≠ .slice none 0 0) := by
  subst hm
  cases ao with
  | none =>
    have hr0 := hr.none
    subst hr0
    obtain rfl := hn rfl
    have hrun := run_append_owned_none (P := P) (w := w) 0 t ty K.ty i K.size ht hi v l.length (K.cells l) hown.1
    exact ⟨v, T, w, hrun, by rw [List.append_nil]; exact hown, Goes.refl _ _ _, .inl rfl, by simp⟩
  | some ad =>
    obtain ⟨v', w', hrun, h2, h3, h4, h5⟩ := run_append_own_at (P := P) w 0 t ty K.ty i K.zero K.size K.bytes ht hi hz hsize hby K.zc K.pos v l.length (K.cells l) hown.1 ad r.length c (K.cells r) (by rw [K.cells_length]) (newsK hr ad rfl) (K.cells_one r) (by unfold maxLen; omega) (by
        have := Nat.mul_le_mul h40 K.b16
        omega) (Nat.zero_le _)
    rcases h2.2 with ⟨e1, e2⟩ | ⟨g, cap, cur, hv, _⟩
    · have hl : l = [] := List.eq_nil_of_length_eq_zero (by omega)
      have hr0 : r = [] := List.eq_nil_of_length_eq_zero (by omega)
      subst hl; subst hr0
      have hv := (h4.1 e1).1
      refine ⟨v', T, w', hrun, ⟨by rw [e1]; exact World.ownsRow_nil _ _ _ _, by rw [e1]; simp [Value.ownBlock]⟩, ⟨h3.os, h3.tape, h3.output, h3.size, fun b hb _ => h3.block b hb (by rw [hv]; simp [Value.ownBlock]), fun _ _ _ => rfl, fun _ _ h => h⟩, h5, by simp⟩
    · subst hv
      have hat : v.ownBlock = some g ∨ g = w.heap.size := by
        rcases h5 with h5 | h5
        · exact .inl (by rw [← h5]; rfl)
        · exact .inr (by simpa [Value.ownBlock] using h5)
      obtain ⟨k1, k2⟩ := hown.grown h3 h2 rfl hat (Nat.le_refl _)
      exact ⟨_, _, w', hrun, k1, k2, h5, by simp⟩
theorem wp_appK {P : Program} (K : Knd α) (w : World) {o : Oper} {a : Act} {C : Act → World → Prop} {Q : Exit → Act → World → Prop} (s x : Operand) (t : TypeId)
    (ho : o.op = .call { callee := .builtin .append, args := #[s, x], argTypes := #[t, t] })
    (i : TypeInfo) (ht : P.underlying t = some (.slice K.ty)) (hi : P.info? K.ty = some i) (hz : i.zero = some K.zero) (hsize : i.size = K.size) (hby : i.bytes = K.bytes)
    (g : Nat) (T : Nat → Nat) (v : Value) (l : List α) (hs : a.eval s = v) (hown : OwnK K g T w v l) (ao : Option Addr) (m c : Nat) (r : List α) (hx : a.eval x = .slice ao m c) (hm : m = r.length) (hn : ao = none → c = 0) (hr : IsK K w ao r) (h40 : l.length + r.length ≤ 1000000000000)
    (h : ∀ a' c' T' w', OwnK K g T' w' (.slice a' (l.length + r.length) c') (l ++ r) → Goes (· = g) T w T' w' → C (a.put o.dst (.slice a' (l.length + r.length) c')) w') : o.wp P a w C Q := by
  obtain ⟨v', T', w', hr, h2, h3, h4, h5⟩ := run_appK (P := P) K w t o.type i ht hi hz hsize hby g T v l hown ao m c r hm hn hr h40
  unfold Oper.wp execOp
  simp only [ho, resolve, invoke, builtin, Sem.run_bind, Sem.run_pure, Result.andThen_ok, List.map_toArray, List.map_cons, List.map_nil, hs, hx, hr]
  obtain ⟨a', c', rfl, _⟩ := h2.form
  rw [List.length_append] at h2 h4 ⊢
  exact h a' c' T' w' h2 h3
theorem wpList_appK {P : Program} (K : Knd α) (w : World) {ops : Array Oper} {rest : List Oper} {o : Oper} {a : Act} {Q : Exit → Act → World → Prop} (hgd : o.guard = none) (s x : Operand) (t : TypeId)
    (ho : o.op = .call { callee := .builtin .append, args := #[s, x], argTypes := #[t, t] })
    (i : TypeInfo) (ht : P.underlying t = some (.slice K.ty)) (hi : P.info? K.ty = some i) (hz : i.zero = some K.zero) (hsize : i.size = K.size) (hby : i.bytes = K.bytes)
    (g : Nat) (T : Nat → Nat) (v : Value) (l : List α) (hs : a.eval s = v) (hown : OwnK K g T w v l) (ao : Option Addr) (m c : Nat) (r : List α) (hx : a.eval x = .slice ao m c) (hm : m = r.length) (hn : ao = none → c = 0) (hr : IsK K w ao r) (h40 : l.length + r.length ≤ 1000000000000)
    (h : ∀ a' c' T' w', OwnK K g T' w' (.slice a' (l.length + r.length) c') (l ++ r) → Goes (· = g) T w T' w' → wpList P ops Q rest (a.put o.dst (.slice a' (l.length + r.length) c')) w') : wpList P ops Q (o :: rest) a w :=
  wpList_plain hgd fun _ hK => wp_appK K w s x t ho i ht hi hz hsize hby g T v l hs hown ao m c r hx hm hn hr h40 fun a' c' T' w' h2 h3 => hK _ _ (h a' c' T' w' h2 h3)
theorem step_appK {P : Program} (K : Knd α) (w : World) {ops : Array Oper} {o : Oper} {a : Act} {C : Act → World → Prop} {Q : Exit → Act → World → Prop} {E : Prop} (hgd : o.guard = none) (s x : Operand) (t : TypeId)
    (ho : o.op = .call { callee := .builtin .append, args := #[s, x], argTypes := #[t, t] })
    (i : TypeInfo) (ht : P.underlying t = some (.slice K.ty)) (hi : P.info? K.ty = some i) (hz : i.zero = some K.zero) (hsize : i.size = K.size) (hby : i.bytes = K.bytes)
    (g : Nat) (T : Nat → Nat) (v : Value) (l : List α) (hs : a.eval s = v) (hown : OwnK K g T w v l) (ao : Option Addr) (m c : Nat) (r : List α) (hx : a.eval x = .slice ao m c) (hm : m = r.length) (hn : ao = none → c = 0) (hr : IsK K w ao r) (h40 : l.length + r.length ≤ 1000000000000)
    (h : ∀ a' c' T' w', OwnK K g T' w' (.slice a' (l.length + r.length) c') (l ++ r) → Goes (· = g) T w T' w' → C (a.put o.dst (.slice a' (l.length + r.length) c')) w') :
    if Region.wanted o (yielded ops a.tmps) = true then Oper.wp P o a w C Q else E := by
  have hw : Region.wanted o (yielded ops a.tmps) = true := by simp [Region.wanted, hgd]
  rw [if_pos hw]
  exact wp_appK K w s x t ho i ht hi hz hsize hby g T v l hs hown ao m c r hx hm hn hr h40 h
end Crw
end Go.Proofs.Ytecgecolghgjoaa
