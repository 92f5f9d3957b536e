import Derived.Test.YtecgecolghgjoaaCRw
import Derived.Test.YtecgecolghgjoaaVrN
namespace Go.Proofs.Ytecgecolghgjoaa
namespace Vr
open Go.RowKit Laws Irw Crw
set_option linter.unusedVariables false
set_option linter.unusedSimpArgs false

abbrev Sv := Option Addr × Nat × Nat
def svV (s : Sv) : Value := .slice s.1 s.2.1 s.2.2
def nS : Sv := (none, 0, 0)
def Zb (w : World) (B : Nat) (vs : List Value) : Prop := B < w.heap.size ∧ (∀ j v, vs[j]? = some v → w.cell? ⟨B, j, none⟩ = some v) ∧ ∀ j, w.frozen? ⟨B, j, none⟩ = false
theorem Zb.below {w w' : World} {B : Nat} {vs : List Value} (h : Zb w B vs) (hb : Below w.heap.size w w') : Zb w' B vs :=
  ⟨Nat.lt_of_lt_of_le h.1 hb.size, fun j v hv => (hb.cell (p := ⟨B, j, none⟩) h.1).trans (h.2.1 j v hv), fun j => (hb.frozen (p := ⟨B, j, none⟩) h.1).trans (h.2.2 j)⟩
theorem Zb.keep {w w' : World} {B : Nat} {vs : List Value} (h : Zb w B vs) (hb : w'.heap[B]? = w.heap[B]?) (hs : w.heap.size ≤ w'.heap.size) : Zb w' B vs :=
  ⟨Nat.lt_of_lt_of_le h.1 hs, fun j v hv => (World.cell?_of_block (a := ⟨B, j, none⟩) hb).trans (h.2.1 j v hv), fun j => (World.frozen?_of_block (a := ⟨B, j, none⟩) hb).trans (h.2.2 j)⟩
def sets (w : World) (B : Nat) : Nat → List Value → World
  | _, [] => w
  | j, v :: vs => sets (w.setCell ⟨B, j, none⟩ v) B (j + 1) vs
theorem sets_size (w : World) (B : Nat) (vs : List Value) : ∀ j, (sets w B j vs).heap.size = w.heap.size := by
  induction vs generalizing w with
  | nil => intro j; rfl
  | cons v vs ih => intro j; show (sets _ B (j + 1) vs).heap.size = _; rw [ih]; simp
theorem sets_below {base : Nat} {w0 w : World} (B : Nat) (hB : base ≤ B) (vs : List Value) : ∀ j, Below base w0 w → Below base w0 (sets w B j vs) := by
  induction vs generalizing w with
  | nil => intro j h; exact h
  | cons v vs ih => intro j h; exact ih (j + 1) (h.setCell (p := ⟨B, j, none⟩) hB _)
theorem sets_block (w : World) (B b : Nat) (hb : b ≠ B) (vs : List Value) : ∀ j, (sets w B j vs).heap[b]? = w.heap[b]? := by
  induction vs generalizing w with
  | nil => intro j; rfl
  | cons v vs ih => intro j; show (sets _ B (j + 1) vs).heap[b]? = _; rw [ih]; exact Below.heap_setCell w _ v b (fun e => hb e)
theorem sets_frozen (w : World) (B : Nat) (p : Addr) (vs : List Value) : ∀ j, (sets w B j vs).frozen? p = w.frozen? p := by
  induction vs generalizing w with
  | nil => intro j; rfl
  | cons v vs ih => intro j; show (sets _ B (j + 1) vs).frozen? p = _; rw [ih]; rw [World.frozen?_setCell]
theorem sets_low (w : World) (B : Nat) (vs : List Value) : ∀ j i, i < j → (sets w B j vs).cell? ⟨B, i, none⟩ = w.cell? ⟨B, i, none⟩ := by
  induction vs generalizing w with
  | nil => intro j i _; rfl
  | cons v vs ih =>
    intro j i h
    show (sets _ B (j + 1) vs).cell? ⟨B, i, none⟩ = _
    rw [ih _ _ _ (by omega), World.cell?_setCell_other _ _ _ _ (by simp; try omega)]
theorem sets_at (w : World) (B : Nat) (vs : List Value) : ∀ j, (∀ i, i < vs.length → ∃ u, w.cell? ⟨B, j + i, none⟩ = some u) → ∀ i v, vs[i]? = some v → (sets w B j vs).cell? ⟨B, j + i, none⟩ = some v := by
  induction vs generalizing w with
  | nil => intro j _ i v h; simp at h
  | cons x vs ih =>
    intro j hex i v h
    show (sets _ B (j + 1) vs).cell? ⟨B, j + i, none⟩ = _
    cases i with
    | zero =>
      simp at h
      subst h
      rw [Nat.add_zero, sets_low _ _ _ _ _ (by omega)]
      obtain ⟨u, hu⟩ := hex 0 (by simp)
      rw [Nat.add_zero] at hu
      exact World.cell?_setCell_same _ _ _ hu
    | succ i =>
      rw [show j + (i + 1) = j + 1 + i by omega]
      refine ih _ (j + 1) (fun k hk => ?_) i v (by simpa using h)
      obtain ⟨u, hu⟩ := hex (k + 1) (by simp; omega)
      refine ⟨u, ?_⟩
      rw [World.cell?_setCell_other _ _ _ _ (by simp; try omega), ← hu]
      congr 2
      omega
theorem Zb.sets {w : World} {B : Nat} {us vs : List Value} (h : Zb w B us) (hl : vs.length ≤ us.length) : Zb (sets w B 0 vs) B vs := by
  refine ⟨by rw [sets_size]; exact h.1, fun j v hv => ?_, fun j => by rw [sets_frozen]; exact h.2.2 j⟩
  have := sets_at w B vs 0 (fun i hi => ⟨_, by rw [Nat.zero_add]; exact h.2.1 i _ (List.getElem?_eq_getElem (by omega))⟩) j v hv
  rwa [Nat.zero_add] at this
theorem Zb.new (w : World) (vs : Array Value) (t : TypeId) : Zb (w.alloc (.cells vs t)) w.heap.size vs.toList := by
  refine ⟨by simp, fun j v hv => ?_, fun j => World.frozen?_alloc_at _ _ _ _ rfl⟩
  rw [World.cell?_alloc_at _ _ _ _ rfl]
  simpa using hv
theorem Zb.set {w : World} {B : Nat} {vs : List Value} (h : Zb w B vs) (k : Nat) (v : Value) : Zb (w.setCell ⟨B, k, none⟩ v) B (vs.set k v) := by
  refine ⟨by simpa using h.1, fun j u hu => ?_, fun j => by rw [World.frozen?_setCell]; exact h.2.2 j⟩
  by_cases hj : k = j
  · subst hj
    have hk : k < vs.length := by
      have := (List.getElem?_eq_some_iff.1 hu).1
      simpa using this
    rw [List.getElem?_set_self hk] at hu
    cases hu
    exact World.cell?_setCell_same _ _ _ (h.2.1 k _ (List.getElem?_eq_getElem hk))
  · rw [List.getElem?_set_ne hj] at hu
    rw [World.cell?_setCell_other _ _ _ _ (by simp; try omega)]
    exact h.2.1 j u hu
theorem take_set {vs xs : List Value} {k : Nat} {v : Value} (h : vs.take k = xs) (hk : k < vs.length) : (vs.set k v).take (k + 1) = xs ++ [v] := by
  subst h
  have hl : (vs.take k).length = k := by simp; omega
  rw [List.take_set, List.take_add_one, List.getElem?_eq_getElem hk, List.set_append_right _ _ (by omega), hl, Nat.sub_self]
  rfl
theorem Zb.some {w : World} {B k : Nat} {vs : List Value} (h : Zb w B vs) (hk : k < vs.length) : ∃ u, w.cell? ⟨B, k, none⟩ = .some u := ⟨_, h.2.1 k _ (List.getElem?_eq_getElem hk)⟩
theorem Zb.other {w w' : World} {B g : Nat} {vs : List Value} (h : Zb w B vs) (k : Nat) (v : Value) (hg : B ≠ g) : Zb (w.setCell ⟨g, k, none⟩ v) B vs :=
  h.keep (Below.heap_setCell w _ v B (fun e => hg e)) (by simp)
theorem Zb.sets_other {w : World} {B g : Nat} {vs us : List Value} (h : Zb w B vs) (j : Nat) (hg : B ≠ g) : Zb (Vr.sets w g j us) B vs :=
  h.keep (sets_block w g B hg us j) (by rw [sets_size]; exact Nat.le_refl _)
theorem Goes.setNew {t : Nat → Prop} {T T' : Nat → Nat} {w w' : World} (h : Goes t T w T' w') {B : Nat} (hB : w.heap.size ≤ B) (k : Nat) (v : Value) : Goes t T w T' (w'.setCell ⟨B, k, none⟩ v) :=
  ⟨h.os, h.tape, h.output, by simpa using h.size, fun b hb ht => (Below.heap_setCell w' _ v b (fun e => by have e' : b = B := e; omega)).trans (h.block b hb ht), h.tag, fun b hb h0 => h.high b (by simpa using hb) h0⟩
theorem Goes.allocNew {t : Nat → Prop} {T T' : Nat → Nat} {w w' : World} (h : Goes t T w T' w') (o : Obj) : Goes t T w T' (w'.alloc o) :=
  h.trans (Goes.below ((Below.refl _ _).alloc (Nat.le_refl _) o))
theorem Goes.sets {t : Nat → Prop} {T : Nat → Nat} {B : Nat} (h : t (T B)) (vs : List Value) : ∀ (w : World) (k : Nat), Goes t T w T (Vr.sets w B k vs) := by
  induction vs with
  | nil => intro w k; exact Goes.refl _ _ _
  | cons v vs ih => intro w k; exact (Goes.setCell (t := t) (T := T) (w := w) (p := B) (j := k) (v := v) h).trans (ih _ _)
theorem Goes.setsNew {t : Nat → Prop} {T T' : Nat → Nat} {w : World} {B : Nat} (hB : w.heap.size ≤ B) (vs : List Value) : ∀ (w' : World) (k : Nat), Goes t T w T' w' → Goes t T w T' (Vr.sets w' B k vs) := by
  induction vs with
  | nil => intro w' k h; exact h
  | cons v vs ih => intro w' k h; exact ih _ _ (Goes.setNew h hB k v)
theorem Zb.goes {t : Nat → Prop} {T T' : Nat → Nat} {w w' : World} {B : Nat} {vs : List Value} (h : Zb w B vs) (hg : Goes t T w T' w') (ht : ¬ t (T B)) : Zb w' B vs := h.keep (hg.block B h.1 ht) hg.size
def Fm (s : Sv) : Prop := s.1 = s.1 ∨ ∃ b off, s.1 = some ⟨b, off, none⟩
def Isk {α : Type} (K : Knd α) (T : Nat → Nat) (w : World) (s : Sv) (l : List α) : Prop := IsK K w s.1 l ∧ s.2.1 = l.length ∧ (s.1 = none → s.2.2 = 0) ∧ l.length ≤ s.2.2 ∧ Fm s ∧ ∀ b off, s.1 = some ⟨b, off, none⟩ → T b = 0 ∧ b < w.heap.size
theorem Isk.goes {α : Type} {K : Knd α} {t : Nat → Prop} {T T' : Nat → Nat} {w w' : World} {s : Sv} {l : List α} (h : Isk K T w s l) (hg : Goes t T w T' w') (ht : ¬ t 0) : Isk K T' w' s l := by
  obtain ⟨h1, h2, h3, h4, hf, h5⟩ := h
  refine ⟨h1.keep (fun b hb ⟨off, e⟩ => hg.block b hb (by rw [(h5 b off e).1]; exact ht)) hg.size, h2, h3, h4, hf, fun b off e => ?_⟩
  obtain ⟨q1, q2⟩ := h5 b off e
  exact ⟨(hg.tag b q2 (by rw [q1]; exact ht)).trans q1, Nat.lt_of_lt_of_le q2 hg.size⟩
theorem Isk.below {α : Type} {K : Knd α} {T : Nat → Nat} {w w' : World} {s : Sv} {l : List α} (h : Isk K T w s l) (hb : Below w.heap.size w w') : Isk K T w' s l := h.goes (Goes.below (t := fun _ => False) hb) (fun z => z)
theorem OwnK.sk {α : Type} {K : Knd α} {t : Nat} {T : Nat → Nat} {w : World} {s : Sv} {l : List α} (h : OwnK K t T w (svV s) l) : s.2.1 = l.length ∧ IsK K w s.1 l ∧ l.length ≤ s.2.2 ∧ (s.1 = none → s.2.2 = 0) ∧ Fm s ∧ ∀ b off, s.1 = some ⟨b, off, none⟩ → T b = t ∧ b < w.heap.size := by
  have hfm : Fm s := by
    obtain ⟨sa, sn, sc⟩ := s
    rcases h.1.2 with ⟨q1, _⟩ | ⟨g, cap, cur, q1, _⟩
    · unfold svV at q1
      cases q1
      exact .inl rfl
    · unfold svV at q1
      cases q1
      exact .inr ⟨_, _, rfl⟩
  obtain ⟨a, c, e, h1, h2, h3, h4⟩ := h.form
  obtain ⟨sa, sn, sc⟩ := s
  unfold svV at e
  cases e
  exact ⟨rfl, h1, h2, h3, hfm, h4⟩
def Ls {α : Type} (K : Knd α) (w : World) (s : Sv) (l : List α) : Prop := IsK K w s.1 l ∧ s.2.1 = l.length ∧ (s.1 = none → s.2.2 = 0) ∧ l.length ≤ s.2.2 ∧ Fm s
theorem Ls.below {α : Type} {K : Knd α} {w w' : World} {s : Sv} {l : List α} (h : Ls K w s l) (hb : Below w.heap.size w w') : Ls K w' s l := ⟨h.1.below hb, h.2⟩
theorem own_below {base : Nat} {e : TypeId} {size : Nat} {v : Value} {n : Nat} {xs : List Value} {w w' : World} (h : w.ownsRow base e size v n xs) (hb : Below w.heap.size w w') : w'.ownsRow base e size v n xs := by
  have hlt := fun g hv => (h.lt g hv).2
  refine ⟨h.1, ?_⟩
  rcases h.2 with h1 | ⟨g, cap, cur, hv, hb', hh, hr⟩
  · exact .inl h1
  · have hv' : v.ownBlock = some g := by rw [hv]; rfl
    exact .inr ⟨g, cap, cur, hv, hb', (hb.block g (hlt g hv')).trans hh, hr⟩
theorem own_sets {base : Nat} {e : TypeId} {size g n c : Nat} (vs : List Value) : ∀ (o : Nat) (w : World) (xs : List Value), w.ownsRow base e size (.slice (some ⟨g, 0, none⟩) n c) n xs → o + vs.length ≤ xs.length →
    ∃ ys, (sets w g o vs).ownsRow base e size (.slice (some ⟨g, 0, none⟩) n c) n ys ∧ ys.take (o + vs.length) = xs.take o ++ vs := by
  induction vs with
  | nil => intro o w xs h _; exact ⟨xs, h, by simp⟩
  | cons v vs ih =>
    intro o w xs h hl
    have h1 := (h.stored o v).1
    simp only [List.length_cons] at hl
    obtain ⟨ys, h2, h3⟩ := ih (o + 1) _ _ h1 (by rw [List.length_set]; omega)
    refine ⟨ys, h2, ?_⟩
    rw [List.length_cons, show o + (vs.length + 1) = o + 1 + vs.length by omega, h3, take_set rfl (by omega)]
    simp
def Mk {α : Type} (K : Knd α) (w : World) (G n : Nat) (xs : List α) : Prop := xs.length ≤ n ∧ ∃ cells, w.ownsRow 0 K.ty K.size (.slice (some ⟨G, 0, none⟩) n n) n cells ∧ cells.take (xs.length * K.size) = K.cells xs
theorem Mk.start {α : Type} {K : Knd α} {w1 : World} {G n : Nat} {cells : List Value} (h : w1.ownsRow 0 K.ty K.size (.slice (some ⟨G, 0, none⟩) n n) n cells) : Mk K w1 G n [] := ⟨Nat.zero_le _, cells, h, by simp [Knd.cells]⟩
theorem Mk.below {α : Type} {K : Knd α} {w w' : World} {G n : Nat} {xs : List α} (h : Mk K w G n xs) (hb : Below w.heap.size w w') : Mk K w' G n xs := by
  obtain ⟨h1, cells, h2, h3⟩ := h
  exact ⟨h1, cells, own_below h2 hb, h3⟩
theorem Mk.lt {α : Type} {K : Knd α} {w : World} {G n : Nat} {xs : List α} (h : Mk K w G n xs) : G < w.heap.size := by
  obtain ⟨h1, cells, h2, h3⟩ := h
  exact (h2.lt G rfl).2
theorem Mk.ex {α : Type} {K : Knd α} {w : World} {G n : Nat} {xs : List α} (h : Mk K w G n xs) {j : Nat} (hj : j < n * K.size) : ∃ u, w.cell? ⟨G, j, none⟩ = some u := by
  obtain ⟨h1, cells, h2, h3⟩ := h
  rw [h2.cellAt j hj]
  exact ⟨_, List.getElem?_eq_getElem (by rw [h2.1]; exact hj)⟩
theorem Mk.fr {α : Type} {K : Knd α} {w : World} {G n : Nat} {xs : List α} (h : Mk K w G n xs) (j : Nat) : w.frozen? ⟨G, j, none⟩ = false := by
  obtain ⟨h1, cells, h2, h3⟩ := h
  exact h2.frozenAt j
theorem Mk.add {α : Type} {K : Knd α} {w : World} {G n : Nat} {xs : List α} (h : Mk K w G n xs) (x : α) (hn : xs.length < n) : Mk K (sets w G (xs.length * K.size) (K.cs x)) G n (xs ++ [x]) := by
  obtain ⟨h1, cells, h2, h3⟩ := h
  have hs : (xs.length + 1) * K.size ≤ n * K.size := Nat.mul_le_mul_right _ hn
  rw [Nat.succ_mul] at hs
  obtain ⟨ys, h4, h5⟩ := own_sets (K.cs x) (xs.length * K.size) w cells h2 (by rw [K.len, h2.1]; exact hs)
  refine ⟨by simp; omega, ys, h4, ?_⟩
  rw [K.len, h3] at h5
  rw [List.length_append, List.length_singleton, Nat.succ_mul, h5, Knd.cells_append]
  simp [Knd.cells]
theorem Mk.done {α : Type} {K : Knd α} {w : World} {G n : Nat} {xs : List α} (h : Mk K w G n xs) (hn : xs.length = n) : w.ownsRow 0 K.ty K.size (.slice (some ⟨G, 0, none⟩) xs.length xs.length) xs.length (K.cells xs) := by
  obtain ⟨h1, cells, h2, h3⟩ := h
  subst hn
  rw [List.take_of_length_le (by rw [h2.1]; exact Nat.le_refl _)] at h3
  rw [← h3]
  exact h2
theorem cells_set {α : Type} (K : Knd α) (l : List α) : ∀ (m j : Nat) (x : α) (u : Value), m < l.length → j < K.size → (∀ y, l[m]? = some y → K.cs x = (K.cs y).set j u) → K.cells (l.set m x) = (K.cells l).set (m * K.size + j) u := by
  induction l with
  | nil => intro m j x u hm; simp at hm
  | cons y l ih =>
    intro m j x u hm hj hx
    cases m with
    | zero =>
      have h := hx y rfl
      simp only [List.set_cons_zero, Knd.cells, h]
      rw [List.set_append_left _ _ (by rw [K.len]; omega)]
      congr 2
      omega
    | succ m =>
      have h := ih m j x u (by simpa using hm) hj (fun z hz => hx z (by simpa using hz))
      simp only [List.set_cons_succ, Knd.cells, h]
      have hle : (K.cs y).length ≤ (m + 1) * K.size + j := by rw [K.len, Nat.succ_mul]; omega
      rw [List.set_append_right _ _ hle]
      congr 2
      rw [K.len, Nat.succ_mul]
      omega
theorem cells_take {α : Type} (K : Knd α) (l : List α) (m : Nat) (hm : m ≤ l.length) : K.cells (l.take m) = (K.cells l).take (m * K.size) := by
  have h : K.cells l = K.cells (l.take m) ++ K.cells (l.drop m) := by rw [← K.cells_append, List.take_append_drop]
  have hl : (K.cells (l.take m)).length = m * K.size := by rw [K.cells_length, List.length_take, Nat.min_eq_left hm]
  rw [h, ← hl, List.take_left]
theorem ownK_set {α : Type} {K : Knd α} {t : Nat} {T : Nat → Nat} {w : World} {g n c : Nat} {l : List α} (h : OwnK K t T w (.slice (some ⟨g, 0, none⟩) n c) l) (hn : n = l.length) {m j : Nat} {x : α} {u : Value} (hm : m < l.length) (hj : j < K.size) (hx : ∀ y, l[m]? = some y → K.cs x = (K.cs y).set j u) : OwnK K t T (w.setCell ⟨g, m * K.size + j, none⟩ u) (.slice (some ⟨g, 0, none⟩) n c) (l.set m x) := by
  subst hn
  have h2 := h.1.stored (m * K.size + j) u
  refine ⟨?_, h.2⟩
  rw [List.length_set, cells_set K l m j x u hm hj hx]
  exact h2.1
theorem ownK_cut {α : Type} {K : Knd α} {t : Nat} {T : Nat → Nat} {w : World} {g n c : Nat} {l : List α} (h : OwnK K t T w (.slice (some ⟨g, 0, none⟩) n c) l) {m : Nat} (hm : m ≤ l.length) : OwnK K t T w (.slice (some ⟨g, 0, none⟩) m c) (l.take m) := by
  refine ⟨?_, fun b hb => h.2 b hb⟩
  obtain ⟨h1, h2⟩ := h.1
  have hlt : (l.take m).length = m := by rw [List.length_take, Nat.min_eq_left hm]
  rcases h2 with ⟨h2, _⟩ | ⟨g', cap, cur, hv, hb, hh, hc, hmx, hr, ht⟩
  · cases h2
  · cases hv
    refine ⟨by rw [K.cells_length], .inr ⟨g, c, cur, by rw [hlt], hb, hh, by rw [hlt]; omega, hmx, hr, ?_⟩⟩
    rw [hlt, cells_take K l m hm, ← ht, List.take_take]
    congr 1
    exact (Nat.min_eq_left (Nat.mul_le_mul_right _ hm)).symm
end Vr
end Go.Proofs.Ytecgecolghgjoaa
