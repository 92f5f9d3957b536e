import Derived.Test.YtfomnkkpiflokaaSa1
namespace Go.Proofs.Ytfomnkkpiflokaa
namespace Sk
open Go.RowKit Laws Irw Erw KMath Skm Byt Rom
set_option linter.unusedVariables false
set_option maxRecDepth 100000
set_option linter.unusedSimpArgs false

theorem infoK : (Try.prog.info? 61).map (fun i => (i.zero, i.size, i.bytes)) = some (some (.agg #[.nilFunc, .pointer none, .pointer none, .string ⟨#[]⟩, .int .u64 0, .bool false, .string ⟨#[]⟩]), 7, 72) := by kernel_rfl
theorem undK : Try.prog.underlying 50 = some (.slice 61) := by kernel_rfl
/-- the list of kept iterators -/
def OwnK (T : Nat → Nat) (w : World) (v : Value) (l : List Lt) : Prop := w.ownsRow 0 61 7 v l.length (cellsK l) ∧ ∀ g, v.ownBlock = some g → T g = 9
theorem OwnK.goes {t : Nat → Prop} {T T' : Nat → Nat} {w w' : World} {v : Value} {l : List Lt} (h : OwnK T w v l) (hg : Goes t T w T' w') (hs : ¬ t 9) : OwnK T' w' v l := by
  have hb : ∀ g, v.ownBlock = some g → w'.heap[g]? = w.heap[g]? ∧ T' g = 9 := fun g e => by
    have h1 := (h.1.lt g e).2
    have h2 := h.2 g e
    exact ⟨hg.block g h1 (by rw [h2]; exact hs), (hg.tag g h1 (by rw [h2]; exact hs)).trans h2⟩
  refine ⟨⟨h.1.1, ?_⟩, fun g e => (hb g e).2⟩
  rcases h.1.2 with h1 | ⟨g, cap, cur, hv, hb', hh, hr⟩
  · exact .inl h1
  · have hv' : v.ownBlock = some g := by rw [hv]; rfl
    exact .inr ⟨g, cap, cur, hv, hb', (hb g hv').1.trans hh, hr⟩
theorem OwnK.nil (T : Nat → Nat) (w : World) : OwnK T w (.slice none 0 0) [] := ⟨World.ownsRow_nil _ _ _ _, by simp [Value.ownBlock]⟩
theorem OwnK.form {T : Nat → Nat} {w : World} {v : Value} {l : List Lt} (h : OwnK T w v l) : ∃ a c, v = .slice a l.length c ∧ l.length ≤ c := by
  rcases h.1.2 with ⟨h1, h2⟩ | ⟨g, cap, cur, hv, _, _, hc, _⟩
  · have : l = [] := List.length_eq_zero_iff.1 h2
    subst this
    exact ⟨none, 0, h1, Nat.le_refl _⟩
  · exact ⟨_, cap, hv, hc⟩
/-- one of them, as it lies -/
theorem OwnK.cell {T : Nat → Nat} {w : World} {a : Option Addr} {n c : Nat} {l : List Lt} (h : OwnK T w (.slice a n c) l) {i : Nat} {k : Lt} (hi : l[i]? = some k) : ∃ g, a = some ⟨g, 0, none⟩ ∧ ∀ j u, j < 7 → k.cells[j]? = some u → w.cell? ⟨g, i * 7 + j, none⟩ = some u := by
  have hl := (List.getElem?_eq_some_iff.1 hi).1
  rcases h.1.2 with ⟨h1, h2⟩ | ⟨g, cap, cur, hv, _, hh, hc, hm, hs, ht⟩
  · omega
  · simp only [Value.slice.injEq] at hv
    refine ⟨g, hv.1, fun j u hj hu => ?_⟩
    have h3 := cellsK_get l i j k hi hj
    rw [hu, ← ht] at h3
    rw [cell_of_obj hh]
    rw [List.getElem?_take] at h3
    split at h3
    · rw [← Array.getElem?_toList]; exact h3
    · cases h3

/-- one more is kept -/
theorem run_appK {P : Program} (w : World) (t ty : TypeId) (i : TypeInfo) (ht : P.underlying t = some (.slice 61)) (hi : P.info? 61 = some i) (hz : i.zero = some (.agg #[.nilFunc, .pointer none, .pointer none, .string ⟨#[]⟩, .int .u64 0, .bool false, .string ⟨#[]⟩])) (hsize : i.size = 7) (hby : i.bytes = 72)
    (T : Nat → Nat) (v : Value) (l : List Lt) (hown : OwnK T w v l) (b : Nat) (k : Lt) (hnews : ∀ j u, k.cells[j]? = some u → w.cell? ⟨b, j, none⟩ = some u) (hl : l.length + 1 ≤ 1954687338268) :
    ∃ a' c' T' w', (Builtin.append_ #[t, t] ty #[v, .slice (some ⟨b, 0, none⟩) 1 1]).run P w = .ok (.slice a' (l.length + 1) c') w' ∧ OwnK T' w' (.slice a' (l.length + 1) c') (l ++ [k]) ∧ Goes (· = 9) T w T' w' := by
  have hc : cellsK [k] = k.cells := by simp [cellsK]
  obtain ⟨v', w', hrun, h2, h3, h4, h5⟩ := run_append_own_at (P := P) w 0 t ty 61 i (.agg #[.nilFunc, .pointer none, .pointer none, .string ⟨#[]⟩, .int .u64 0, .bool false, .string ⟨#[]⟩]) 7 72 ht hi hz hsize hby rfl (by omega) v l.length (cellsK l) hown.1 ⟨b, 0, none⟩ 1 1 (cellsK [k]) (by rw [cellsK_length]; rfl) (fun j u hu => by rw [hc] at hu; rw [Byt.add_plain', Nat.zero_add]; exact hnews j u hu) (cellsK_one _) (by unfold maxLen; omega) (by omega) (Nat.zero_le _)
  rcases h2.2 with ⟨e1, e2⟩ | ⟨g, cap, cur, hv, _⟩
  · omega
  · subst hv
    have hat : v.ownBlock = some g ∨ g = w.heap.size := by
      rcases h5 with h5 | h5
      · exact .inl (by rw [← h5]; rfl)
      · exact .inr (by simpa [Value.ownBlock] using h5)
    have hgl := (h2.lt g rfl).2
    refine ⟨_, _, upd T g 9, w', hrun, ⟨by rw [List.length_append, cellsK_append]; exact h2, fun g' e => ?_⟩, ⟨h3.os, h3.tape, h3.output, h3.size, fun b hb ht => h3.block b hb (fun e => ht (hown.2 b e.symm)), fun b hb _ => ?_, fun b hb h0 => ?_⟩⟩
    · simp only [Value.ownBlock, Option.some.injEq] at e
      subst e; exact upd_same _ _ _
    · by_cases e : b = g
      · subst e
        rcases hat with e | e
        · rw [upd_same, hown.2 _ e]
        · omega
      · exact upd_other _ _ e
    · rw [upd_other _ _ (by omega)]; exact h0
theorem step_appK {P : Program} (w : World) {ops : Array Oper} {o : Oper} {a : Act} {K : Act → World → Prop} {Q : Exit → Act → World → Prop} {E : Prop} (hgd : o.guard = none) (s x : Operand) (t : TypeId)
    (ho : o.op = .call { callee := .builtin .append, args := #[s, x], argTypes := #[t, t] })
    (i : TypeInfo) (ht : P.underlying t = some (.slice 61)) (hi : P.info? 61 = some i) (hz : i.zero = some (.agg #[.nilFunc, .pointer none, .pointer none, .string ⟨#[]⟩, .int .u64 0, .bool false, .string ⟨#[]⟩])) (hsize : i.size = 7) (hby : i.bytes = 72)
    (T : Nat → Nat) (v : Value) (l : List Lt) (hs : a.eval s = v) (hown : OwnK T w v l) (b : Nat) (k : Lt) (hx : a.eval x = .slice (some ⟨b, 0, none⟩) 1 1) (hnews : ∀ j u, k.cells[j]? = some u → w.cell? ⟨b, j, none⟩ = some u) (hl : l.length + 1 ≤ 1954687338268)
    (h : ∀ a' c' T' w', OwnK T' w' (.slice a' (l.length + 1) c') (l ++ [k]) → Goes (· = 9) T w T' w' → K (a.put o.dst (.slice a' (l.length + 1) c')) w') :
    if Region.wanted o (yielded ops a.tmps) = true then Oper.wp P o a w K Q else E := by
  have hw : Region.wanted o (yielded ops a.tmps) = true := by simp [Region.wanted, hgd]
  rw [if_pos hw]
  obtain ⟨a', c', T', w', hr, h2, h3⟩ := run_appK (P := P) w t o.type i ht hi hz hsize hby T v l hown b k hnews hl
  unfold Oper.wp execOp
  simp only [ho, resolve, invoke, builtin, Sem.run_bind, Sem.run_pure, Result.andThen_ok, List.map_toArray, List.map_cons, List.map_nil, hs, hx, hr]
  exact h a' c' T' w' h2 h3
/-- a byte of the first lent list is written: what is left of it -/
theorem sa_row {w0 : World} {T : Nat → Nat} {W : World} {R0 g1 n1 c1 g2 n2 c2 : Nat} {v0 v1 : Value} {La Ra Lb Rb A Bx : Nat} {da db : List Nat} {na nb : List Nd} {ba bb : List Nat} {x2 : List Nat} (h : Sa w0 T W R0 g1 n1 c1 g2 n2 c2 v0 v1 La Ra Lb Rb A Bx da db na nb ba bb x2) {k : Nat} (hr : BRow W g1 k (da.drop k)) (hi : k < n1) (u : Value) : Sa w0 T (W.setCell ⟨g1, k, none⟩ u) R0 g1 n1 c1 g2 n2 c2 v0 v1 La Ra Lb Rb A Bx da db na nb ba bb x2 ∧ BRow (W.setCell ⟨g1, k, none⟩ u) g1 (k + 1) (da.drop (k + 1)) := by
  refine ⟨h.set hi u, by simpa using hr.1, fun i y hy => ?_⟩
  rw [World.cell?_setCell_other _ ⟨g1, k, none⟩ ⟨g1, k + 1 + i, none⟩ _ (fun e => by have := congrArg Addr.off e; simp at this; omega)]
  have := hr.2 (i + 1) y (by rw [List.getElem?_drop] at hy ⊢; rw [← hy]; congr 1; omega)
  have e9 : k + 1 + i = k + (i + 1) := by omega
  rw [e9]; exact this
end Sk
end Go.Proofs.Ytfomnkkpiflokaa
