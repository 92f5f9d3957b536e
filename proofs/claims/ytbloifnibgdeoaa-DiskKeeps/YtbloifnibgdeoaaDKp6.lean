import Derived.Test.YtbloifnibgdeoaaDKp3
namespace Go.Proofs.Ytbloifnibgdeoaa
namespace Dsk
open Go.RowKit Go.Shelf Go.Maps Go.Sort Byt Laws
set_option linter.unusedVariables false
set_option maxRecDepth 100000

/-! What a fall leaves: the mathematics of P3.6, P3.7, P3.11. -/
theorem told_names (fl : List Fl) (ks : List Int) (l : List (Key × Nat)) : (told fl ks l).map (·.name) = l.map fun p => ba p.1 := by
  unfold told
  rw [List.map_map]
  have : ((fun f : Fi => f.name) ∘ fun x : (Key × Nat) × Nat => (⟨ba x.1.1, leftD fl x.1.2 (amongN ks x.2), (leftD fl x.1.2 (amongN ks x.2)).length⟩ : Fi)) = (fun p : Key × Nat => ba p.1) ∘ Prod.fst := rfl
  rw [this, ← List.map_map, List.zipIdx_map_fst]
theorem files_names (m : Dm) : m.files.map (·.name) = m.now.map fun p => ba p.1 := by
  unfold Dm.files
  rw [List.map_map]; rfl
theorem image_names (m : Dm) (dir : Int) (ks : List Int) : (m.image dir ks).map (·.name) = (m.dirAt dir).map fun p => ba p.1 := told_names _ _ _
theorem dirAt_all {m : Dm} {dir : Int} (h : (m.ch.length : Int) ≤ dir) : m.dirAt dir = m.now := by
  rw [dirAt_bk]
  refine bk_all ?_
  unfold keptN; omega
theorem dirAt_zero (m : Dm) : m.dirAt 0 = m.bk 0 := by
  rw [dirAt_bk]
  have : keptN 0 m.ch.length = 0 := by unfold keptN; simp
  rw [this]
theorem leftN_ge (len sure : Nat) (o : Int) : sure ≤ leftN len sure o := by unfold leftN; omega
/-- What is held stands in the image that keeps all changes. -/
theorem held_there {m : Dm} (hh : Hist m) {x : ByteArray × List Nat} (h : Hd m x) {dir : Int} (hd : (m.ch.length : Int) ≤ dir) (ks : List Int) : (∃ f ∈ m.image dir ks, f.name = x.1) ∧ ∀ (k : Nat) (f : Fi), (m.image dir ks)[k]? = some f → f.name = x.1 → x.2 <+: f.data := by
  obtain ⟨i, g, a, b, c⟩ := h
  have e := dirAt_all hd
  constructor
  · have hm := look_some a
    have : x.1 ∈ (m.image dir ks).map (·.name) := by
      rw [image_names, e]
      refine List.mem_map.2 ⟨_, hm, ?_⟩
      show ba (ky x.1) = x.1
      exact ba_ky _
    obtain ⟨f, hf, e2⟩ := List.mem_map.1 this
    exact ⟨f, hf, e2⟩
  · intro k f hf hn
    have hk : k < (m.dirAt dir).length := by
      have := (List.getElem?_eq_some_iff.1 hf).1
      rwa [Dm.image, told_length] at this
    obtain ⟨p, hp⟩ : ∃ p, (m.dirAt dir)[k]? = some p := ⟨_, List.getElem?_eq_getElem hk⟩
    have hg := told_get (fl := m.fl) (ks := ks) hp
    have hf' : (told m.fl ks (m.dirAt dir))[k]? = some f := hf
    rw [hg] at hf'
    cases hf'
    simp only at hn ⊢
    have hpm : p ∈ m.now := by rw [← e]; exact List.mem_of_getElem? hp
    have hl := look_mem hh.rises hpm
    have hk2 : p.1 = ky x.1 := by rw [← hn, ky_ba]
    rw [hk2, a] at hl
    have hi : p.2 = i := (Option.some.inj hl).symm
    rw [hi]
    refine c.trans ?_
    have e1 : leftD m.fl i (amongN ks k) = g.data.take (leftN g.data.length g.sure (amongN ks k)) := by simp [leftD, dataOf, sureOf, lenOf, b]
    rw [e1]
    exact take_pre (leftN_ge _ _ _)
def cutOf (f : Fl) (o : Int) : Fl := ⟨f.data.take (leftN f.data.length f.sure o), leftN f.data.length f.sure o⟩
theorem fallF_get {ks : List Int} {l : List (Key × Nat)} (hn : (l.map (·.2)).Nodup) {fl : List Fl} {k : Nat} {p : Key × Nat} (hp : l[k]? = some p) {f : Fl} (hf : fl[p.2]? = some f) : ∀ n, (fallF ks l fl n)[p.2]? = if k < n then some (cutOf f (amongN ks k)) else some f
  | 0 => by simp [fallF, hf]
  | n + 1 => by
    have ih := fallF_get (ks := ks) hn hp hf n
    have hk : k < l.length := (List.getElem?_eq_some_iff.1 hp).1
    unfold fallF
    cases hq : l[n]? with
    | none =>
      have : l.length ≤ n := List.getElem?_eq_none_iff.1 hq
      simp only
      rw [ih, if_pos (by omega), if_pos (by omega)]
    | some q =>
      simp only
      by_cases e : n = k
      · subst e
        rw [hp] at hq
        cases hq
        rw [if_neg (by omega)] at ih
        rw [if_pos (by omega)]
        unfold cutF
        rw [ih]
        simp only
        have hlt : p.2 < (fallF ks l fl n).length := (List.getElem?_eq_some_iff.1 ih).1
        rw [List.getElem?_set_self hlt]; rfl
      · have hne : q.2 ≠ p.2 := by
          intro e2
          apply e
          have hn' : n < l.length := (List.getElem?_eq_some_iff.1 hq).1
          have h1 : (l.map (·.2))[n]? = (l.map (·.2))[k]? := by rw [List.getElem?_map, List.getElem?_map, hp, hq]; simp [e2]
          exact (List.getElem?_inj (by simpa using hn') hn).1 h1
        have hset : (cutF (fallF ks l fl n) q.2 (amongN ks n))[p.2]? = (fallF ks l fl n)[p.2]? := by
          unfold cutF
          split
          · rw [List.getElem?_set_ne hne]
          · rfl
        rw [hset, ih]
        by_cases h1 : k < n
        · rw [if_pos h1, if_pos (by omega)]
        · rw [if_neg h1, if_neg (by omega)]
theorem cut_len {f : Fl} (hs : f.sure ≤ f.data.length) (o : Int) : (cutOf f o).sure = (cutOf f o).data.length := by
  have := leftN_le hs o
  unfold cutOf
  simp only [List.length_take]
  omega
/-- P3.7: what Image told is what stands behind the fall, all of it sure. -/
theorem fall_files {m : Dm} (hh : Hist m) (hs : ∀ (j : Nat) (f : Fl), m.fl[j]? = some f → f.sure ≤ f.data.length) (dir : Int) (ks : List Int) : (m.fall dir ks).files = m.image dir ks ∧ ∀ p ∈ (m.fall dir ks).now, ∃ f, (m.fall dir ks).fl[p.2]? = some f ∧ f.sure = f.data.length := by
  have hn : ((m.dirAt dir).map (·.2)).Nodup := hh.dirAt dir
  have hid : ∀ p ∈ m.dirAt dir, p.2 < m.fl.length := hh.ids _
  have key : ∀ (k : Nat) (p : Key × Nat), (m.dirAt dir)[k]? = some p → ∃ f, m.fl[p.2]? = some f ∧ (m.fall dir ks).fl[p.2]? = some (cutOf f (amongN ks k)) := fun k p hp => by
    obtain ⟨f, hf⟩ : ∃ f, m.fl[p.2]? = some f := ⟨_, List.getElem?_eq_getElem (hid p (List.mem_of_getElem? hp))⟩
    refine ⟨f, hf, ?_⟩
    have := fallF_get (ks := ks) hn hp hf (m.dirAt dir).length
    rw [if_pos (List.getElem?_eq_some_iff.1 hp).1] at this
    exact this
  refine ⟨List.ext_getElem? fun k => ?_, fun p hp => ?_⟩
  · cases hp : (m.dirAt dir)[k]? with
    | none =>
      have h1 : (m.dirAt dir).length ≤ k := List.getElem?_eq_none_iff.1 hp
      rw [List.getElem?_eq_none (by show ((m.dirAt dir).map _).length ≤ k; rw [List.length_map]; exact h1), List.getElem?_eq_none (by show (told _ _ _).length ≤ k; rw [told_length]; exact h1)]
    | some p =>
      obtain ⟨f, hf, hg⟩ := key k p hp
      have e1 : (m.fall dir ks).files[k]? = some ⟨ba p.1, (cutOf f (amongN ks k)).data, (cutOf f (amongN ks k)).sure⟩ := by
        show ((m.dirAt dir).map _)[k]? = _
        rw [List.getElem?_map, hp]
        simp [dataOf, sureOf, hg]
      have e2 : (m.image dir ks)[k]? = some ⟨ba p.1, leftD m.fl p.2 (amongN ks k), (leftD m.fl p.2 (amongN ks k)).length⟩ := told_get hp
      have e3 : leftD m.fl p.2 (amongN ks k) = (cutOf f (amongN ks k)).data := by simp [leftD, dataOf, sureOf, lenOf, hf, cutOf]
      rw [e1, e2, e3, cut_len (hs _ f hf)]
  · obtain ⟨k, hk⟩ := List.getElem?_of_mem hp
    obtain ⟨f, hf, hg⟩ := key k p hk
    exact ⟨_, hg, cut_len (hs _ f hf) _⟩
/-- Where all is sure and no change stands, each image is what stands. -/
theorem image_sure {m : Dm} (hc : m.ch = []) (hs : ∀ p ∈ m.now, ∃ f, m.fl[p.2]? = some f ∧ f.sure = f.data.length) (dir : Int) (ks : List Int) : m.image dir ks = m.files := by
  have e : m.dirAt dir = m.now := by rw [dirAt_bk]; exact bk_all (by rw [hc]; simp)
  refine List.ext_getElem? fun k => ?_
  cases hp : m.now[k]? with
  | none =>
    have h1 : m.now.length ≤ k := List.getElem?_eq_none_iff.1 hp
    rw [List.getElem?_eq_none (by show (told _ _ _).length ≤ k; rw [told_length, e]; exact h1), List.getElem?_eq_none (by show (m.now.map _).length ≤ k; rw [List.length_map]; exact h1)]
  | some p =>
    obtain ⟨f, hf, h1⟩ := hs p (List.mem_of_getElem? hp)
    have e2 : (m.image dir ks)[k]? = some ⟨ba p.1, leftD m.fl p.2 (amongN ks k), (leftD m.fl p.2 (amongN ks k)).length⟩ := told_get (by rw [e]; exact hp)
    have e3 : leftD m.fl p.2 (amongN ks k) = f.data := by
      have : leftN f.data.length f.sure (amongN ks k) = f.data.length := by unfold leftN; omega
      simp [leftD, dataOf, sureOf, lenOf, hf, this]
    rw [e2, e3]
    show _ = (m.now.map _)[k]?
    rw [List.getElem?_map, hp]
    simp [dataOf, sureOf, hf, h1]
end Dsk
end Go.Proofs.Ytbloifnibgdeoaa
