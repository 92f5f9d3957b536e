import Derived.Test.YtcioaoanhmpdkaaERw
namespace Go.Proofs.Ytcioaoanhmpdkaa
namespace Erw
open Go.RowKit Laws Irw
set_option linter.unusedVariables false

/-- something is appended -/
theorem OwnE.grown {t : Nat} {T : Nat → Nat} {w w' : World} {v : Value} {g n c H : Nat} {l r : List En} (h : OwnE t T w v l) (hgr : w.grownBy w' v.ownBlock) (hown : w'.ownsRow 0 77 4 (.slice (some ⟨g, 0, none⟩) n c) n (cellsE l ++ cellsE r)) (hn : n = l.length + r.length)
    (hat : v.ownBlock = some g ∨ g = H) (hH : w.heap.size ≤ H) : OwnE t (upd T g t) w' (.slice (some ⟨g, 0, none⟩) n c) (l ++ r) ∧ Goes (· = t) T w (upd T g t) w' := by
  refine ⟨⟨?_, fun g' e => ?_⟩, hgr.os, hgr.tape, hgr.output, hgr.size, fun b hb ht => ?_, fun b hb _ => ?_, fun b hb h0 => ?_⟩
  · rw [List.length_append, ← hn, cellsE_append]; exact hown
  · simp only [Value.ownBlock, Option.some.injEq] at e
    subst e; exact upd_same _ _ _
  · refine hgr.block b hb (fun e => ht ?_)
    exact h.2 b e.symm
  · by_cases e : b = g
    · subst e
      rcases hat with e | e
      · rw [upd_same, h.2 _ e]
      · omega
    · exact upd_other _ _ e
  · rw [upd_other _ _ (by have := (hown.lt g rfl).2; omega)]; exact h0

/-- append of what a slice holds onto a list of one's own -/
theorem run_appE {P : Program} (w : World) (t ty : TypeId) (i : TypeInfo) (ht : P.underlying t = some (.slice 77)) (hi : P.info? 77 = some i) (hz : i.zero = some (.agg #[.string ⟨#[]⟩, .int .u64 0, .bool false, .string ⟨#[]⟩])) (hsize : i.size = 4) (hby : i.bytes = 48)
    (s : Nat) (T : Nat → Nat) (v : Value) (l : List En) (hown : OwnE s T w v l) (ao : Option Addr) (m c : Nat) (r : List En) (hm : m = r.length) (hn : ao = none → c = 0) (hr : IsE w ao r) (h40 : l.length + r.length ≤ 2932031007402) :
    ∃ v' T' w', (Builtin.append_ #[t, t] ty #[v, .slice ao m c]).run P w = .ok v' w' ∧ OwnE s T' w' v' (l ++ r) ∧ Goes (· = s) T w T' w' ∧ (v'.ownBlock = v.ownBlock ∨ v'.ownBlock = some w.heap.size) ∧ (0 < r.length → v' ≠ .slice none 0 0) := by
  subst hm
  cases ao with
  | none =>
    have hr0 := hr.none
    subst hr0
    obtain rfl := hn rfl
    have hrun := run_append_owned_none (P := P) (w := w) 0 t ty 77 i 4 ht hi v l.length (cellsE l) hown.1
    exact ⟨v, T, w, hrun, by rw [List.append_nil]; exact hown, Goes.refl _ _ _, .inl rfl, by simp⟩
  | some ad =>
    obtain ⟨v', w', hrun, h2, h3, h4, h5⟩ := run_append_own_at (P := P) w 0 t ty 77 i (.agg #[.string ⟨#[]⟩, .int .u64 0, .bool false, .string ⟨#[]⟩]) 4 48 ht hi hz hsize hby rfl (by omega) v l.length (cellsE l) hown.1 ad r.length c (cellsE r) (by rw [cellsE_length]) (news_of hr ad rfl) (cellsE_one r) (by unfold maxLen; omega) (by omega) (Nat.zero_le _)
    rcases h2.2 with ⟨e1, e2⟩ | ⟨g, cap, cur, hv, _⟩
    · have hl : l = [] := List.eq_nil_of_length_eq_zero (by omega)
      have hr0 : r = [] := List.eq_nil_of_length_eq_zero (by omega)
      subst hl; subst hr0
      have hv := (h4.1 e1).1
      refine ⟨v', T, w', hrun, ⟨by rw [e1]; exact World.ownsRow_nil _ _ _ _, by rw [e1]; simp [Value.ownBlock]⟩, ⟨h3.os, h3.tape, h3.output, h3.size, fun b hb _ => h3.block b hb (by rw [hv]; simp [Value.ownBlock]), fun _ _ _ => rfl, fun _ _ h => h⟩, h5, by simp⟩
    · subst hv
      have hat : v.ownBlock = some g ∨ g = w.heap.size := by
        rcases h5 with h5 | h5
        · exact .inl (by rw [← h5]; rfl)
        · exact .inr (by simpa [Value.ownBlock] using h5)
      obtain ⟨k1, k2⟩ := hown.grown h3 h2 rfl hat (Nat.le_refl _)
      exact ⟨_, _, w', hrun, k1, k2, h5, by simp⟩
theorem wp_appE {P : Program} (w : World) {o : Oper} {a : Act} {K : Act → World → Prop} {Q : Exit → Act → World → Prop} (s x : Operand) (t : TypeId)
    (ho : o.op = .call { callee := .builtin .append, args := #[s, x], argTypes := #[t, t] })
    (i : TypeInfo) (ht : P.underlying t = some (.slice 77)) (hi : P.info? 77 = some i) (hz : i.zero = some (.agg #[.string ⟨#[]⟩, .int .u64 0, .bool false, .string ⟨#[]⟩])) (hsize : i.size = 4) (hby : i.bytes = 48)
    (g : Nat) (T : Nat → Nat) (v : Value) (l : List En) (hs : a.eval s = v) (hown : OwnE g T w v l) (ao : Option Addr) (m c : Nat) (r : List En) (hx : a.eval x = .slice ao m c) (hm : m = r.length) (hn : ao = none → c = 0) (hr : IsE w ao r) (h40 : l.length + r.length ≤ 2932031007402)
    (h : ∀ a' c' T' w', OwnE g T' w' (.slice a' (l.length + r.length) c') (l ++ r) → Goes (· = g) T w T' w' → ((Value.slice a' (l.length + r.length) c').ownBlock = v.ownBlock ∨ (Value.slice a' (l.length + r.length) c').ownBlock = some w.heap.size) → K (a.put o.dst (.slice a' (l.length + r.length) c')) w') : o.wp P a w K Q := by
  obtain ⟨v', T', w', hr, h2, h3, h4, h5⟩ := run_appE (P := P) w t o.type i ht hi hz hsize hby g T v l hown ao m c r hm hn hr h40
  unfold Oper.wp execOp
  simp only [ho, resolve, invoke, builtin, Sem.run_bind, Sem.run_pure, Result.andThen_ok, List.map_toArray, List.map_cons, List.map_nil, hs, hx, hr]
  obtain ⟨a', c', rfl, _⟩ := h2.form
  rw [List.length_append] at h2 h4 ⊢
  exact h a' c' T' w' h2 h3 h4
theorem wpList_appE {P : Program} (w : World) {ops : Array Oper} {rest : List Oper} {o : Oper} {a : Act} {Q : Exit → Act → World → Prop} (hgd : o.guard = none) (s x : Operand) (t : TypeId)
    (ho : o.op = .call { callee := .builtin .append, args := #[s, x], argTypes := #[t, t] })
    (i : TypeInfo) (ht : P.underlying t = some (.slice 77)) (hi : P.info? 77 = some i) (hz : i.zero = some (.agg #[.string ⟨#[]⟩, .int .u64 0, .bool false, .string ⟨#[]⟩])) (hsize : i.size = 4) (hby : i.bytes = 48)
    (g : Nat) (T : Nat → Nat) (v : Value) (l : List En) (hs : a.eval s = v) (hown : OwnE g T w v l) (ao : Option Addr) (m c : Nat) (r : List En) (hx : a.eval x = .slice ao m c) (hm : m = r.length) (hn : ao = none → c = 0) (hr : IsE w ao r) (h40 : l.length + r.length ≤ 2932031007402)
    (h : ∀ a' c' T' w', OwnE g T' w' (.slice a' (l.length + r.length) c') (l ++ r) → Goes (· = g) T w T' w' → ((Value.slice a' (l.length + r.length) c').ownBlock = v.ownBlock ∨ (Value.slice a' (l.length + r.length) c').ownBlock = some w.heap.size) → wpList P ops Q rest (a.put o.dst (.slice a' (l.length + r.length) c')) w') : wpList P ops Q (o :: rest) a w :=
  wpList_plain hgd fun _ hK => wp_appE w s x t ho i ht hi hz hsize hby g T v l hs hown ao m c r hx hm hn hr h40 fun a' c' T' w' h2 h3 h4 => hK _ _ (h a' c' T' w' h2 h3 h4)
theorem step_appE {P : Program} (w : World) {ops : Array Oper} {o : Oper} {a : Act} {K : Act → World → Prop} {Q : Exit → Act → World → Prop} {E : Prop} (hgd : o.guard = none) (s x : Operand) (t : TypeId)
    (ho : o.op = .call { callee := .builtin .append, args := #[s, x], argTypes := #[t, t] })
    (i : TypeInfo) (ht : P.underlying t = some (.slice 77)) (hi : P.info? 77 = some i) (hz : i.zero = some (.agg #[.string ⟨#[]⟩, .int .u64 0, .bool false, .string ⟨#[]⟩])) (hsize : i.size = 4) (hby : i.bytes = 48)
    (g : Nat) (T : Nat → Nat) (v : Value) (l : List En) (hs : a.eval s = v) (hown : OwnE g T w v l) (ao : Option Addr) (m c : Nat) (r : List En) (hx : a.eval x = .slice ao m c) (hm : m = r.length) (hn : ao = none → c = 0) (hr : IsE w ao r) (h40 : l.length + r.length ≤ 2932031007402)
    (h : ∀ a' c' T' w', OwnE g T' w' (.slice a' (l.length + r.length) c') (l ++ r) → Goes (· = g) T w T' w' → ((Value.slice a' (l.length + r.length) c').ownBlock = v.ownBlock ∨ (Value.slice a' (l.length + r.length) c').ownBlock = some w.heap.size) → K (a.put o.dst (.slice a' (l.length + r.length) c')) w') :
    if Region.wanted o (yielded ops a.tmps) = true then Oper.wp P o a w K Q else E := by
  have hw : Region.wanted o (yielded ops a.tmps) = true := by simp [Region.wanted, hgd]
  rw [if_pos hw]
  exact wp_appE w s x t ho i ht hi hz hsize hby g T v l hs hown ao m c r hx hm hn hr h40 h

end Erw
end Go.Proofs.Ytcioaoanhmpdkaa
