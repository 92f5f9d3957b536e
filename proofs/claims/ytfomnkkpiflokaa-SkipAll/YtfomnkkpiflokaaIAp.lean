import Derived.Test.YtfomnkkpiflokaaIRw
namespace Go.Proofs.Ytfomnkkpiflokaa
namespace Irw
open Go.RowKit Laws
set_option linter.unusedVariables false

theorem run_appL2 {P : Program} (w : World) (t ty : TypeId) (i : TypeInfo) (ht : P.underlying t = some (.slice 3)) (hi : P.info? 3 = some i) (hz : i.zero = some (.int .i64 0)) (hsize : i.size = 1) (hby : i.bytes = 8)
    (s : Nat) (T : Nat → Nat) (v : Value) (l : List Int) (hown : OwnL s T w v l) (ao : Option Addr) (m c : Nat) (r : List Int) (hm : m = r.length) (hn : ao = none → c = 0) (hr : IsI w ao r) (h40 : l.length + r.length ≤ 2932031007402) :
    ∃ v' T' w', (Builtin.append_ #[t, t] ty #[v, .slice ao m c]).run P w = .ok v' w' ∧ OwnL s T' w' v' (l ++ r) ∧ Goes (· = s) T w T' w' ∧ (v'.ownBlock = v.ownBlock ∨ v'.ownBlock = some w.heap.size) ∧ (0 < r.length → v' ≠ .slice none 0 0) := by
  subst hm
  cases ao with
  | none =>
    have hr0 := hr.none
    subst hr0
    obtain rfl := hn rfl
    have hrun := run_append_owned_none (P := P) (w := w) 0 t ty 3 i 1 ht hi v l.length (cellsI l) hown.1
    exact ⟨v, T, w, hrun, by rw [List.append_nil]; exact hown, Goes.refl _ _ _, .inl rfl, by simp⟩
  | some ad =>
    obtain ⟨v', w', hrun, h2, h3, h4, h5⟩ := run_append_own_at (P := P) w 0 t ty 3 i (.int .i64 0) 1 8 ht hi hz hsize hby rfl (by omega) v l.length (cellsI l) hown.1 ad r.length c (cellsI r) (by rw [cellsI_length]; omega) (news_of hr ad rfl) (cellsI_one r) (by unfold maxLen; omega) (by omega) (Nat.zero_le _)
    rcases h2.2 with ⟨e1, e2⟩ | ⟨g, cap, cur, hv, _⟩
    · have hl : l = [] := List.eq_nil_of_length_eq_zero (by omega)
      have hr0 : r = [] := List.eq_nil_of_length_eq_zero (by omega)
      subst hl; subst hr0
      have hv := (h4.1 e1).1
      refine ⟨v', T, w', hrun, ⟨by rw [e1]; exact World.ownsRow_nil _ _ _ _, by rw [e1]; simp [Value.ownBlock]⟩, ⟨h3.os, h3.tape, h3.output, h3.size, fun b hb _ => h3.block b hb (by rw [hv]; simp [Value.ownBlock]), fun _ _ _ => rfl, fun _ _ h => h⟩, h5, by simp⟩
    · subst hv
      have hat : v.ownBlock = some g ∨ g = w.heap.size := by
        rcases h5 with h5 | h5
        · exact .inl (by rw [← h5]; rfl)
        · exact .inr (by simpa [Value.ownBlock] using h5)
      obtain ⟨k1, k2⟩ := hown.grown h3 h2 rfl hat (Nat.le_refl _)
      exact ⟨_, _, w', hrun, k1, k2, h5, by simp⟩
theorem wp_appL2 {P : Program} (w : World) {o : Oper} {a : Act} {K : Act → World → Prop} {Q : Exit → Act → World → Prop} (s x : Operand) (t : TypeId)
    (ho : o.op = .call { callee := .builtin .append, args := #[s, x], argTypes := #[t, t] })
    (i : TypeInfo) (ht : P.underlying t = some (.slice 3)) (hi : P.info? 3 = some i) (hz : i.zero = some (.int .i64 0)) (hsize : i.size = 1) (hby : i.bytes = 8)
    (g : Nat) (T : Nat → Nat) (v : Value) (l : List Int) (hs : a.eval s = v) (hown : OwnL g T w v l) (ao : Option Addr) (m c : Nat) (r : List Int) (hx : a.eval x = .slice ao m c) (hm : m = r.length) (hn : ao = none → c = 0) (hr : IsI w ao r) (h40 : l.length + r.length ≤ 2932031007402)
    (h : ∀ a' c' T' w', OwnL g T' w' (.slice a' (l.length + r.length) c') (l ++ r) → Goes (· = g) T w T' w' → ((Value.slice a' (l.length + r.length) c').ownBlock = v.ownBlock ∨ (Value.slice a' (l.length + r.length) c').ownBlock = some w.heap.size) → K (a.put o.dst (.slice a' (l.length + r.length) c')) w') : o.wp P a w K Q := by
  obtain ⟨v', T', w', hr, h2, h3, h4, h5⟩ := run_appL2 (P := P) w t o.type i ht hi hz hsize hby g T v l hown ao m c r hm hn hr h40
  unfold Oper.wp execOp
  simp only [ho, resolve, invoke, builtin, Sem.run_bind, Sem.run_pure, Result.andThen_ok, List.map_toArray, List.map_cons, List.map_nil, hs, hx, hr]
  obtain ⟨a', c', rfl, _⟩ := h2.form
  rw [List.length_append] at h2 h4 ⊢
  exact h a' c' T' w' h2 h3 h4
theorem wpList_appL2 {P : Program} (w : World) {ops : Array Oper} {rest : List Oper} {o : Oper} {a : Act} {Q : Exit → Act → World → Prop} (hgd : o.guard = none) (s x : Operand) (t : TypeId)
    (ho : o.op = .call { callee := .builtin .append, args := #[s, x], argTypes := #[t, t] })
    (i : TypeInfo) (ht : P.underlying t = some (.slice 3)) (hi : P.info? 3 = some i) (hz : i.zero = some (.int .i64 0)) (hsize : i.size = 1) (hby : i.bytes = 8)
    (g : Nat) (T : Nat → Nat) (v : Value) (l : List Int) (hs : a.eval s = v) (hown : OwnL g T w v l) (ao : Option Addr) (m c : Nat) (r : List Int) (hx : a.eval x = .slice ao m c) (hm : m = r.length) (hn : ao = none → c = 0) (hr : IsI w ao r) (h40 : l.length + r.length ≤ 2932031007402)
    (h : ∀ a' c' T' w', OwnL g T' w' (.slice a' (l.length + r.length) c') (l ++ r) → Goes (· = g) T w T' w' → ((Value.slice a' (l.length + r.length) c').ownBlock = v.ownBlock ∨ (Value.slice a' (l.length + r.length) c').ownBlock = some w.heap.size) → wpList P ops Q rest (a.put o.dst (.slice a' (l.length + r.length) c')) w') : wpList P ops Q (o :: rest) a w :=
  wpList_plain hgd fun _ hK => wp_appL2 w s x t ho i ht hi hz hsize hby g T v l hs hown ao m c r hx hm hn hr h40 fun a' c' T' w' h2 h3 h4 => hK _ _ (h a' c' T' w' h2 h3 h4)
theorem step_appL2 {P : Program} (w : World) {ops : Array Oper} {o : Oper} {a : Act} {K : Act → World → Prop} {Q : Exit → Act → World → Prop} {E : Prop} (hgd : o.guard = none) (s x : Operand) (t : TypeId)
    (ho : o.op = .call { callee := .builtin .append, args := #[s, x], argTypes := #[t, t] })
    (i : TypeInfo) (ht : P.underlying t = some (.slice 3)) (hi : P.info? 3 = some i) (hz : i.zero = some (.int .i64 0)) (hsize : i.size = 1) (hby : i.bytes = 8)
    (g : Nat) (T : Nat → Nat) (v : Value) (l : List Int) (hs : a.eval s = v) (hown : OwnL g T w v l) (ao : Option Addr) (m c : Nat) (r : List Int) (hx : a.eval x = .slice ao m c) (hm : m = r.length) (hn : ao = none → c = 0) (hr : IsI w ao r) (h40 : l.length + r.length ≤ 2932031007402)
    (h : ∀ a' c' T' w', OwnL g T' w' (.slice a' (l.length + r.length) c') (l ++ r) → Goes (· = g) T w T' w' → ((Value.slice a' (l.length + r.length) c').ownBlock = v.ownBlock ∨ (Value.slice a' (l.length + r.length) c').ownBlock = some w.heap.size) → K (a.put o.dst (.slice a' (l.length + r.length) c')) w') :
    if Region.wanted o (yielded ops a.tmps) = true then Oper.wp P o a w K Q else E := by
  have hw : Region.wanted o (yielded ops a.tmps) = true := by simp [Region.wanted, hgd]
  rw [if_pos hw]
  exact wp_appL2 w s x t ho i ht hi hz hsize hby g T v l hs hown ao m c r hx hm hn hr h40 h

end Irw
end Go.Proofs.Ytfomnkkpiflokaa
