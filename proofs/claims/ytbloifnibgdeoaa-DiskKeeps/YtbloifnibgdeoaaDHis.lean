import Derived.Test.YtbloifnibgdeoaaDFal
import Derived.Test.YtbloifnibgdeoaaDSml
import Derived.Test.YtbloifnibgdeoaaDApp
namespace Go.Proofs.Ytbloifnibgdeoaa
namespace Dsk
open Go.RowKit Go.Shelf Go.Maps Go.Sort Byt Laws
set_option linter.unusedVariables false
set_option maxRecDepth 100000

/-- The directory behind the first k changes. -/
def Dm.bk (m : Dm) (k : Nat) : List (Key × Nat) := ((m.ch.drop k).reverse).foldl undo1 m.now
theorem dirAt_bk (m : Dm) (dir : Int) : m.dirAt dir = m.bk (keptN dir m.ch.length) := rfl
theorem bk_all {m : Dm} {k : Nat} (h : m.ch.length ≤ k) : m.bk k = m.now := by
  unfold Dm.bk
  rw [List.drop_eq_nil_of_le h]; rfl
theorem bk_same {m m' : Dm} (h1 : m'.ch = m.ch) (h2 : m'.now = m.now) (k : Nat) : m'.bk k = m.bk k := by
  unfold Dm.bk
  rw [h1, h2]
theorem bk_step {m m' : Dm} {c : Chg} (hc : m'.ch = m.ch ++ [c]) (hu : undo1 m'.now c = m.now) {k : Nat} (hk : k ≤ m.ch.length) : m'.bk k = m.bk k := by
  unfold Dm.bk
  rw [hc, List.drop_append_of_le_length hk, List.reverse_append]
  simp only [List.reverse_cons, List.reverse_nil, List.nil_append, List.cons_append, List.foldl_cons, hu]
theorem rises_putD {l : List (Key × Nat)} (h : Rises l) (k : Key) (o : Option Nat) : Rises (putD l k o) := by
  cases o with
  | none => exact rises_del h k
  | some i => exact rises_ins h k i
theorem rises_undo1 {l : List (Key × Nat)} (h : Rises l) (c : Chg) : Rises (undo1 l c) := by
  unfold undo1
  refine rises_putD ?_ _ _
  split
  · exact h
  · exact rises_putD h _ _
theorem rises_undo : ∀ (cs : List Chg) {l : List (Key × Nat)}, Rises l → Rises (cs.foldl undo1 l)
  | [], _, h => h
  | c :: cs, _, h => rises_undo cs (rises_undo1 h c)
theorem look_putD (l : List (Key × Nat)) (k : Key) (o : Option Nat) (x : Key) : look (putD l k o) x = if x = k then o else look l x := by
  cases o with
  | none =>
    by_cases e : x = k
    · subst e; rw [if_pos rfl]; exact look_del_same _ _
    · rw [if_neg e]; exact look_del_other _ e
  | some i =>
    by_cases e : x = k
    · subst e; rw [if_pos rfl]; exact look_ins_same _ _ _
    · rw [if_neg e]; exact look_ins_other _ _ e
/-- A change taken back. -/
theorem undo1_back {l l' : List (Key × Nat)} (hl : Rises l) (hl' : Rises l') {c : Chg} (h1 : look l (ky c.name) = c.was) (h2 : c.to.toList.isEmpty = false → look l (ky c.to) = c.over) (h3 : ∀ x, x ≠ ky c.name → (c.to.toList.isEmpty = true ∨ x ≠ ky c.to) → look l' x = look l x) : undo1 l' c = l := by
  refine rises_ext (rises_undo1 hl' c) hl fun x => ?_
  unfold undo1
  rw [look_putD]
  by_cases e : x = ky c.name
  · rw [if_pos e, e, h1]
  · rw [if_neg e]
    cases ht : c.to.toList.isEmpty with
    | true => rw [if_pos rfl]; exact h3 x e (.inl ht)
    | false =>
      rw [if_neg (by simp), look_putD]
      by_cases e2 : x = ky c.to
      · rw [if_pos e2, e2, h2 ht]
      · rw [if_neg e2]; exact h3 x e (.inr e2)

/-- What holds of a disk's history: each directory that a fall can bring back names a file once. -/
structure Hist (m : Dm) : Prop where
  rises : Rises m.now
  nod : ∀ k, ((m.bk k).map (·.2)).Nodup
  ids : ∀ k, ∀ p ∈ m.bk k, p.2 < m.fl.length
structure Nxt (m m' : Dm) : Prop where
  hist : Hist m'
  bk : ∀ k, k ≤ m.ch.length → m'.bk k = m.bk k
  len : m.ch.length ≤ m'.ch.length ∧ m'.ch.length ≤ m.ch.length + 1
theorem Hist.same {m m' : Dm} (h : Hist m) (h1 : m'.ch = m.ch) (h2 : m'.now = m.now) (h3 : m'.fl.length = m.fl.length) : Nxt m m' :=
  ⟨⟨by rw [h2]; exact h.rises, fun k => by rw [bk_same h1 h2]; exact h.nod k, fun k => by rw [bk_same h1 h2, h3]; exact h.ids k⟩, fun k _ => bk_same h1 h2 k, by rw [h1]; omega⟩
theorem Hist.step {m m' : Dm} {c : Chg} (h : Hist m) (hc : m'.ch = m.ch ++ [c]) (hu : undo1 m'.now c = m.now) (hr : Rises m'.now) (hn : (m'.now.map (·.2)).Nodup) (hi : ∀ p ∈ m'.now, p.2 < m'.fl.length) (hf : m.fl.length ≤ m'.fl.length) : Nxt m m' := by
  have hl : m'.ch.length = m.ch.length + 1 := by rw [hc]; simp
  refine ⟨⟨hr, fun k => ?_, fun k => ?_⟩, fun k hk => bk_step hc hu hk, by omega⟩
  · by_cases hk : k ≤ m.ch.length
    · rw [bk_step hc hu hk]; exact h.nod k
    · rw [bk_all (by omega)]; exact hn
  · by_cases hk : k ≤ m.ch.length
    · rw [bk_step hc hu hk]; intro p hp; exact Nat.lt_of_lt_of_le (h.ids k p hp) hf
    · rw [bk_all (by omega)]; exact hi
theorem Hist.now {m : Dm} (h : Hist m) : (m.now.map (·.2)).Nodup ∧ ∀ p ∈ m.now, p.2 < m.fl.length := by
  have h1 := h.nod m.ch.length
  have h2 := h.ids m.ch.length
  rw [bk_all (Nat.le_refl _)] at h1 h2
  exact ⟨h1, h2⟩
theorem Hist.of {T : Nat → Nat} {w : World} {d mb : Nat} {fb : Nat → Nat} {m : Dm} (h : Pd T w d mb fb m) (hc : m.ch = []) : Hist m := by
  obtain ⟨cv, D, h⟩ := h
  have e : ∀ k, m.bk k = m.now := fun k => bk_all (by rw [hc]; simp)
  exact ⟨h.dir.rises, fun k => by rw [e]; exact h.apart, fun k => by rw [e]; exact h.ids⟩
theorem Hist.dirAt {m : Dm} (h : Hist m) (dir : Int) : ((m.dirAt dir).map (·.2)).Nodup := h.nod _

theorem okN_to {s : ByteArray} (h : okN s = true) : s.toList.isEmpty = false := by
  unfold okN at h
  simp at h
  rw [tl_eq]
  have h1 := h.1.1
  have h2 : (ky s).length = s.size := rfl
  cases e : ky s with
  | nil => rw [e] at h2; simp at h2; omega
  | cons => rfl
theorem reach_okN {m : Dm} {ok : Bool} {k : Key} (h : (m.reach ok k).1 = 0) : ok = true := by
  cases ok with
  | true => rfl
  | false =>
    exfalso
    have he : (m.enter false).1 ≠ 0 := by
      unfold Dm.enter enterR
      cases m.down <;> simp
    unfold Dm.reach at h
    rw [if_pos he] at h
    exact he h
theorem empty_to : (⟨#[]⟩ : ByteArray).toList.isEmpty = true := by rw [tl_eq]; rfl
theorem Hist.create {m : Dm} (h : Hist m) (s : ByteArray) : Nxt m (m.create s).2 := by
  unfold Dm.create
  split
  · exact h.same rfl rfl rfl
  · split
    · exact h.same rfl rfl rfl
    · rename_i hl
      split
      · exact h.same rfl rfl rfl
      · split
        · exact h.same rfl rfl rfl
        · have hn : look m.now (ky s) = none := by
            cases e : look m.now (ky s) with
            | none => rfl
            | some i => exact absurd (by rw [e]; rfl) hl
          refine h.step (c := ⟨s, none, ⟨#[]⟩, none⟩) rfl ?_ (rises_ins h.rises _ _) ?_ ?_ ?_
          · refine undo1_back h.rises (rises_ins h.rises _ _) hn (fun e => by rw [empty_to] at e; cases e) (fun x hx _ => ?_)
            exact look_ins_other _ _ hx
          · show ((ins m.now (ky s) m.fl.length).map (·.2)).Nodup
            rw [(ids_ins hn m.fl.length).nodup_iff, List.nodup_cons]
            refine ⟨fun hm => ?_, h.now.1⟩
            obtain ⟨p, hp, e⟩ := List.mem_map.1 hm
            have := h.now.2 p hp
            omega
          · show ∀ p ∈ ins m.now (ky s) m.fl.length, p.2 < (m.fl ++ [(⟨[], 0⟩ : Fl)]).length
            intro p hp
            rw [List.length_append]
            rcases ins_mem hp with rfl | hp
            · simp
            · have := h.now.2 p hp; simp; omega
          · show m.fl.length ≤ (m.fl ++ [(⟨[], 0⟩ : Fl)]).length
            rw [List.length_append]; omega
theorem Hist.reach {m : Dm} (h : Hist m) (ok : Bool) (k : Key) : Nxt m (m.reach ok k).2 := by
  obtain ⟨h1, h2, h3, _⟩ := reach_same m ok k
  exact h.same h3 h1 (by rw [h2])
theorem Hist.delete {m : Dm} (h : Hist m) (s : ByteArray) : Nxt m (m.delete s).2 := by
  unfold Dm.delete
  split
  · obtain ⟨h1, h2, h3, _⟩ := reach_same m (okN s) (ky s)
    refine h.step (c := ⟨s, look m.now (ky s), ⟨#[]⟩, none⟩) (by show (m.reach (okN s) (ky s)).2.ch ++ _ = _; rw [h3]) ?_ (rises_del h.rises _) (nodup_del h.now.1 _) ?_ (by show _ ≤ (m.reach (okN s) (ky s)).2.fl.length; rw [h2]; exact Nat.le_refl _)
    · refine undo1_back h.rises (rises_del h.rises _) rfl (fun e => by rw [empty_to] at e; cases e) (fun x hx _ => ?_)
      exact look_del_other _ hx
    · show ∀ p ∈ del m.now (ky s), p.2 < (m.reach (okN s) (ky s)).2.fl.length
      rw [h2]
      exact fun p hp => h.now.2 p (mem_del hp)
  · exact h.reach _ _
theorem Hist.rename {m : Dm} (h : Hist m) (s t : ByteArray) : Nxt m (m.rename s t).2 := by
  unfold Dm.rename
  split
  · rename_i hc
    split
    · rename_i i hi
      obtain ⟨h1, h2, h3, _⟩ := reach_same m (okN s && okN t) (ky s)
      have hok := reach_okN hc.1
      simp at hok
      have hne := ky_ne hc.2
      refine h.step (c := ⟨s, some i, t, look m.now (ky t)⟩) (by show (m.reach _ (ky s)).2.ch ++ _ = _; rw [h3]) ?_ (rises_ins (rises_del h.rises _) _ _) (ids_ren h.rises hi h.now.1) ?_ (by show _ ≤ (m.reach _ (ky s)).2.fl.length; rw [h2]; exact Nat.le_refl _)
      · refine undo1_back h.rises (rises_ins (rises_del h.rises _) _ _) hi (fun _ => rfl) (fun x hx hx2 => ?_)
        rcases hx2 with hx2 | hx2
        · have := okN_to hok.2
          rw [this] at hx2; cases hx2
        · show look (ins (del m.now (ky s)) (ky t) i) x = _
          rw [look_ins_other _ _ hx2, look_del_other _ hx]
      · show ∀ p ∈ ins (del m.now (ky s)) (ky t) i, p.2 < (m.reach _ (ky s)).2.fl.length
        rw [h2]
        intro p hp
        rcases ins_mem hp with rfl | hp
        · exact h.now.2 (ky s, i) (look_some hi)
        · exact h.now.2 p (mem_del hp)
    · exact h.reach _ _
  · exact h.reach _ _
theorem Hist.sync {m : Dm} (h : Hist m) (s : ByteArray) : Nxt m (m.sync s).2 := by
  unfold Dm.sync
  split
  · obtain ⟨h1, h2, h3, _⟩ := reach_same m (okN s) (ky s)
    split
    · rename_i i hi
      unfold Dm.sure
      split
      · exact h.same h3 h1 (by show (List.set _ _ _).length = _; rw [List.length_set, h2])
      · exact h.reach _ _
    · exact h.reach _ _
  · exact h.reach _ _
theorem lay_fl (m : Dm) (i : Nat) (l : List Nat) : (m.lay i l).fl.length = m.fl.length := by unfold Dm.lay; simp
theorem Hist.append {m : Dm} (h : Hist m) (s : ByteArray) (l : List Nat) : Nxt m (m.append s l).2 := by
  unfold Dm.append
  split
  · simp only
    split
    · split
      · unfold Dm.layPart
        split
        · exact h.same rfl rfl (lay_fl _ _ _)
        · exact h.same rfl rfl rfl
      · exact h.same rfl rfl rfl
    · exact h.same rfl rfl rfl
  · split
    · exact h.same rfl rfl rfl
    · split
      · exact h.same rfl rfl rfl
      · split
        · exact h.same rfl rfl (lay_fl _ _ _)
        · exact h.same rfl rfl (lay_fl _ _ _)
theorem Hist.cleared {m m' : Dm} (h : Hist m) (h1 : m'.ch = []) (h2 : m'.now = m.now) (h3 : m'.fl.length = m.fl.length) : Hist m' := by
  have e : ∀ k, m'.bk k = m.now := fun k => by rw [bk_all (by rw [h1]; simp), h2]
  exact ⟨by rw [h2]; exact h.rises, fun k => by rw [e]; exact h.now.1, fun k => by rw [e, h3]; exact h.now.2⟩
theorem Hist.syncDir {m : Dm} (h : Hist m) : Hist m.syncDir.2 := by
  unfold Dm.syncDir
  split
  · exact (h.same (m' := (m.enter true).2) rfl rfl rfl).hist
  · split
    · exact (h.same (m' := ((m.enter true).2.spend 1).2) rfl rfl rfl).hist
    · exact h.cleared rfl rfl rfl
theorem Hist.fall {m : Dm} (h : Hist m) (dir : Int) (ks : List Int) : Hist (m.fall dir ks) := by
  have e : ∀ k, (m.fall dir ks).bk k = m.dirAt dir := fun k => bk_all (by show ([] : List Chg).length ≤ k; simp)
  have hl : (m.fall dir ks).fl.length = m.fl.length := fallF_length _ _ _ _
  exact ⟨rises_undo _ h.rises, fun k => by rw [e]; exact h.dirAt dir, fun k => by rw [e, hl]; exact h.ids _⟩
theorem Hist.arm {m : Dm} (h : Hist m) (n : Int) : Hist (m.arm n) := (h.same (m' := m.arm n) rfl rfl rfl).hist
theorem Hist.fail {m : Dm} (h : Hist m) (a c p : Int) : Hist (m.fail a c p) := (h.same (m' := m.fail a c p) rfl rfl rfl).hist
end Dsk
end Go.Proofs.Ytbloifnibgdeoaa
