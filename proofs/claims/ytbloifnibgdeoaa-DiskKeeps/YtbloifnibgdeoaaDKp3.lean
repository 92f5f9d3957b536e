import Derived.Test.YtbloifnibgdeoaaDHis
namespace Go.Proofs.Ytbloifnibgdeoaa
namespace Dsk
open Go.RowKit Go.Shelf Go.Maps Go.Sort Byt Laws
set_option linter.unusedVariables false
set_option maxRecDepth 100000

/-! The mathematics of P3.11. -/
theorem look_len {m : Dm} (h : Hist m) {k : Key} {i : Nat} (hl : look m.now k = some i) : i < m.fl.length := h.now.2 _ (look_some hl)
/-- A file's bytes that are sure. -/
def sureB (f : Fl) : List Nat := f.data.take f.sure
/-- What is held of a name stands, sure. -/
def Hd (m : Dm) (x : ByteArray × List Nat) : Prop := ∃ i f, look m.now (ky x.1) = some i ∧ m.fl[i]? = some f ∧ x.2 <+: sureB f
theorem Hd.same {m m' : Dm} {x : ByteArray × List Nat} (h : Hd m x) (h1 : m'.now = m.now) (h2 : m'.fl = m.fl) : Hd m' x := by
  obtain ⟨i, f, a, b, c⟩ := h
  exact ⟨i, f, by rw [h1]; exact a, by rw [h2]; exact b, c⟩
def gone (l : List (ByteArray × List Nat)) (s : ByteArray) : List (ByteArray × List Nat) := l.filter fun x => decide (x.1 ≠ s)
theorem mem_gone {l : List (ByteArray × List Nat)} {s : ByteArray} {x : ByteArray × List Nat} (h : x ∈ gone l s) : x ∈ l ∧ ky x.1 ≠ ky s := by
  have := List.mem_filter.1 h
  exact ⟨this.1, ky_ne (by simpa using this.2)⟩
theorem lay_get {m : Dm} {i : Nat} {l : List Nat} {j : Nat} {f : Fl} (h : m.fl[j]? = some f) : ∃ f', (m.lay i l).fl[j]? = some f' ∧ f'.sure = f.sure ∧ ∃ r, f'.data = f.data ++ r := by
  unfold Dm.lay
  simp only
  rw [List.getElem?_modify, h]
  by_cases e : i = j
  · exact ⟨{ f with data := f.data ++ l }, by simp [e], rfl, l, rfl⟩
  · exact ⟨f, by simp [e], rfl, [], by simp⟩
theorem Hd.lay {m m' : Dm} {i : Nat} {l : List Nat} {x : ByteArray × List Nat} (h : Hd m x) (hs : ∀ (j : Nat) (f : Fl), m.fl[j]? = some f → f.sure ≤ f.data.length) (h1 : m'.now = m.now) (h2 : m'.fl = (m.lay i l).fl) : Hd m' x := by
  obtain ⟨j, f, a, b, c⟩ := h
  obtain ⟨f', e1, e2, r, e3⟩ := lay_get (i := i) (l := l) b
  refine ⟨j, f', by rw [h1]; exact a, by rw [h2]; exact e1, ?_⟩
  have := hs j f b
  unfold sureB at c ⊢
  rw [e2, e3, List.take_append_of_le_length this]
  exact c
theorem Hd.append {m : Dm} {x : ByteArray × List Nat} (h : Hd m x) (hs : ∀ (j : Nat) (f : Fl), m.fl[j]? = some f → f.sure ≤ f.data.length) (s : ByteArray) (l : List Nat) : Hd (m.append s l).2 x := by
  unfold Dm.append
  split
  · simp only
    split
    · split
      · unfold Dm.layPart
        split
        · exact h.lay hs rfl rfl
        · exact h.same rfl rfl
      · exact h.same rfl rfl
    · exact h.same rfl rfl
  · split
    · exact h.same rfl rfl
    · split
      · exact h.same rfl rfl
      · split
        · exact h.lay hs rfl rfl
        · exact h.lay hs rfl rfl
theorem Hd.create {m : Dm} {x : ByteArray × List Nat} (h : Hd m x) (hh : Hist m) (s : ByteArray) : (m.create s).1 ≠ 0 ∨ ky x.1 ≠ ky s → Hd (m.create s).2 x := by
  unfold Dm.create
  split
  · intro _; exact h.same rfl rfl
  · split
    · intro _; exact h.same rfl rfl
    · split
      · intro _; exact h.same rfl rfl
      · split
        · intro _; exact h.same rfl rfl
        · intro hc
          rcases hc with hc | hc
          · exact absurd rfl hc
          · obtain ⟨j, f, a, b, c⟩ := h
            have hj : j < m.fl.length := (List.getElem?_eq_some_iff.1 b).1
            refine ⟨j, f, ?_, ?_, c⟩
            · show look (ins m.now (ky s) m.fl.length) (ky x.1) = _
              rw [look_ins_other _ _ hc]; exact a
            · show (m.fl ++ [(⟨[], 0⟩ : Fl)])[j]? = _
              rw [List.getElem?_append_left hj]; exact b
theorem Hd.reach {m : Dm} {x : ByteArray × List Nat} (h : Hd m x) (ok : Bool) (k : Key) : Hd (m.reach ok k).2 x := by
  obtain ⟨h1, h2, _, _⟩ := reach_same m ok k
  exact h.same h1 h2
theorem Hd.delete {m : Dm} {x : ByteArray × List Nat} (h : Hd m x) (s : ByteArray) : (m.delete s).1 ≠ 0 ∨ ky x.1 ≠ ky s → Hd (m.delete s).2 x := by
  unfold Dm.delete
  split
  · intro hc
    rcases hc with hc | hc
    · exact absurd rfl hc
    · obtain ⟨h1, h2, _, _⟩ := reach_same m (okN s) (ky s)
      obtain ⟨j, f, a, b, c⟩ := h
      refine ⟨j, f, ?_, ?_, c⟩
      · show look (del m.now (ky s)) (ky x.1) = _
        rw [look_del_other _ hc]; exact a
      · show (m.reach (okN s) (ky s)).2.fl[j]? = _
        rw [h2]; exact b
  · intro _; exact h.reach _ _
theorem Hd.rename {m : Dm} {x : ByteArray × List Nat} (h : Hd m x) (s t : ByteArray) : ((m.rename s t).1 ≠ 0 ∨ s = t) ∨ (ky x.1 ≠ ky s ∧ ky x.1 ≠ ky t) → Hd (m.rename s t).2 x := by
  unfold Dm.rename
  split
  · rename_i hr
    split
    · intro hc
      rcases hc with (hc | hc) | hc
      · exact absurd rfl hc
      · exact absurd hc hr.2
      · obtain ⟨h1, h2, _, _⟩ := reach_same m (okN s && okN t) (ky s)
        obtain ⟨j, f, a, b, c⟩ := h
        refine ⟨j, f, ?_, ?_, c⟩
        · show look (ins (del m.now (ky s)) (ky t) _) (ky x.1) = _
          rw [look_ins_other _ _ hc.2, look_del_other _ hc.1]; exact a
        · show (m.reach _ (ky s)).2.fl[j]? = _
          rw [h2]; exact b
    · intro _; exact h.reach _ _
  · intro _; exact h.reach _ _
theorem take_pre {α : Type} {l : List α} {n m : Nat} (h : n ≤ m) : l.take n <+: l.take m := by
  have : l.take n = (l.take m).take n := by rw [List.take_take, Nat.min_eq_left h]
  rw [this]; exact List.take_prefix _ _
theorem Hd.sure {m m' : Dm} {x : ByteArray × List Nat} (h : Hd m x) {i : Nat} (h1 : m'.now = m.now) (h2 : m'.fl = m.fl) : Hd (m'.sure i) x := by
  unfold Dm.sure
  split
  · rename_i f hf
    obtain ⟨j, g, a, b, c⟩ := h
    by_cases e : j = i
    · subst e
      have e2 : f = g := by rw [h2, b] at hf; exact (Option.some.inj hf).symm
      subst e2
      have hj : j < m'.fl.length := (List.getElem?_eq_some_iff.1 hf).1
      refine ⟨j, { f with sure := f.data.length }, by show look m'.now _ = _; rw [h1]; exact a, ?_, ?_⟩
      · show (m'.fl.set j _)[j]? = _
        rw [List.getElem?_set_self hj]
      · unfold sureB at c ⊢
        simp only [List.take_length]
        exact c.trans (List.take_prefix _ _)
    · refine ⟨j, g, by show look m'.now _ = _; rw [h1]; exact a, ?_, c⟩
      show (m'.fl.set i _)[j]? = _
      rw [List.getElem?_set_ne (Ne.symm e), h2]; exact b
  · exact h.same h1 h2
theorem Hd.sync {m : Dm} {x : ByteArray × List Nat} (h : Hd m x) (s : ByteArray) : Hd (m.sync s).2 x := by
  unfold Dm.sync
  split
  · obtain ⟨h1, h2, _, _⟩ := reach_same m (okN s) (ky s)
    split
    · exact h.sure h1 h2
    · exact h.reach _ _
  · exact h.reach _ _
theorem Hd.syncDir {m : Dm} {x : ByteArray × List Nat} (h : Hd m x) : Hd m.syncDir.2 x := by
  unfold Dm.syncDir
  split
  · exact h.same rfl rfl
  · split
    · exact h.same rfl rfl
    · exact h.same rfl rfl
/-- Behind a Sync with OK all bytes of the file are held. -/
theorem sync_ok {m : Dm} {s : ByteArray} (hm : Hist m) (h : (m.sync s).1 = 0) : (m.sync s).2.down = false ∧ okN s = true ∧ ∃ i f, look (m.sync s).2.now (ky s) = some i ∧ (m.sync s).2.fl[i]? = some f ∧ f.sure = f.data.length ∧ ((m.sync s).2.read s) = (f.data, 0) := by
  have hr : (m.reach (okN s) (ky s)).1 = 0 := by
    unfold Dm.sync at h
    split at h
    · assumption
    · exact h
  obtain ⟨i, hi⟩ := reach_ok hr
  have hok := reach_okN hr
  obtain ⟨h1, h2, _, _⟩ := reach_same m (okN s) (ky s)
  have hlt := look_len hm hi
  obtain ⟨f, hf⟩ : ∃ f, m.fl[i]? = some f := ⟨_, List.getElem?_eq_getElem hlt⟩
  have hdn : (m.reach (okN s) (ky s)).2.down = false := by
    unfold Dm.reach at hr ⊢
    split at hr
    · rename_i h3; exact absurd hr h3
    · rename_i h3
      rw [if_neg h3, hi] at *
      simp only at hr ⊢
      have hd : m.down = false := by
        cases e : m.down with
        | false => rfl
        | true => exact absurd (by unfold Dm.enter enterR; rw [e]; simp) h3
      split at hr
      · simp at hr
      · rename_i h4
        rw [if_neg h4]
        simp only
        unfold Dm.spend spendR at h4 ⊢
        simp only at h4 ⊢
        split at h4
        · rename_i h5; simp only at h4; exact absurd h5 h4
        · rename_i h5; rw [if_neg h5]; exact hd
  have e : (m.sync s).2 = { (m.reach (okN s) (ky s)).2 with fl := m.fl.set i { f with sure := f.data.length } } := by
    unfold Dm.sync
    rw [if_pos hr, hi]
    simp only
    unfold Dm.sure
    rw [h2, hf]
  rw [e]
  have hg : (m.fl.set i { f with sure := f.data.length })[i]? = some { f with sure := f.data.length } := List.getElem?_set_self hlt
  refine ⟨hdn, hok, i, { f with sure := f.data.length }, by show look (m.reach _ _).2.now _ = _; rw [h1]; exact hi, hg, rfl, ?_⟩
  unfold Dm.read
  simp only
  rw [if_neg (by rw [hdn]; simp), if_pos hok, h1, hi]
  simp only
  rw [hg]
  rfl
end Dsk
end Go.Proofs.Ytbloifnibgdeoaa
