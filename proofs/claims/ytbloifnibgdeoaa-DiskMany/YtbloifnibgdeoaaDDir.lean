import Derived.Test.YtbloifnibgdeoaaProg
import Derived.Test.YtbloifnibgdeoaaDSyn
namespace Go.Proofs.Ytbloifnibgdeoaa
namespace Dsk
open Go.RowKit Go.Maps Go.Sort Byt Laws
set_option linter.unusedVariables false
set_option maxRecDepth 100000

theorem del_none {l : List (Key × Nat)} {k : Key} (h : look l k = none) : del l k = l := by
  induction l with
  | nil => rfl
  | cons p r ih =>
    simp only [look] at h
    split at h
    · cases h
    · rename_i hne
      unfold del at ih ⊢
      rw [List.filter_cons_of_pos (by simp [hne]), ih h]
theorem del_above {l : List (Key × Nat)} {k : Key} (h : ∀ p ∈ l, k < p.1) : del l k = l :=
  List.filter_eq_self.2 fun p hp => by
    have := h p hp
    simp only [ne_eq, decide_not, Bool.not_eq_true', decide_eq_false_iff_not]
    intro e; rw [e] at this; exact key_irrefl k this
theorem ids_ins' {l : List (Key × Nat)} (h : Rises l) (k : Key) (v : Nat) : ((ins l k v).map (·.2)).Perm (v :: (del l k).map (·.2)) := by
  induction l with
  | nil => exact List.Perm.refl _
  | cons p r ih =>
    have hp := List.pairwise_cons.1 h
    simp only [ins]
    split
    · rename_i h1
      rw [del_above (l := p :: r) (fun q hq => by
        rcases List.mem_cons.1 hq with rfl | hq
        · exact h1
        · exact key_trans h1 (hp.1 q hq))]
      exact List.Perm.refl _
    · split
      · rename_i h1 h2
        have e : del (p :: r) k = r := by
          have := del_above (l := r) (k := k) (fun q hq => by rw [← h2]; exact hp.1 q hq)
          unfold del at this ⊢
          rw [List.filter_cons_of_neg (by simp [h2]), this]
        rw [e]
        exact List.Perm.refl _
      · rename_i h1 h2
        have e : del (p :: r) k = p :: del r k := by
          unfold del
          rw [List.filter_cons_of_pos (by simp [h2])]
        rw [e]
        simp only [List.map_cons]
        exact (List.Perm.cons _ (ih hp.2)).trans (List.Perm.swap _ _ _)
theorem ids_del {l : List (Key × Nat)} (h : Rises l) {k : Key} {i : Nat} (hl : look l k = some i) : (l.map (·.2)).Perm (i :: (del l k).map (·.2)) := by
  induction l with
  | nil => cases hl
  | cons p r ih =>
    have hp := List.pairwise_cons.1 h
    simp only [look] at hl
    split at hl
    · rename_i e
      cases hl
      have e2 : del (p :: r) k = r := by
        have := del_above (l := r) (k := k) (fun q hq => by rw [← e]; exact hp.1 q hq)
        unfold del at this ⊢
        rw [List.filter_cons_of_neg (by simp [e]), this]
      rw [e2]
      exact List.Perm.refl _
    · rename_i e
      have e2 : del (p :: r) k = p :: del r k := by
        unfold del
        rw [List.filter_cons_of_pos (by simp [e])]
      rw [e2]
      simp only [List.map_cons]
      exact (List.Perm.cons _ (ih hp.2 hl)).trans (List.Perm.swap _ _ _)
theorem usedOf_ids {fl : List Fl} {l : List (Key × Nat)} {i : Nat} {r : List Nat} (h : (l.map (·.2)).Perm (i :: r)) : usedOf fl l = lenOf fl i + (r.map (lenOf fl)).sum := by
  rw [usedOf_perm, (h.map _).sum_nat]
  simp
theorem usedOf_del {fl : List Fl} {l : List (Key × Nat)} (h : Rises l) {k : Key} {i : Nat} (hl : look l k = some i) : usedOf fl (del l k) + lenOf fl i = usedOf fl l := by
  rw [usedOf_ids (ids_del h hl), usedOf_perm]; omega
theorem usedOf_ins' {fl : List Fl} {l : List (Key × Nat)} (h : Rises l) (k : Key) (v : Nat) : usedOf fl (ins l k v) = lenOf fl v + usedOf fl (del l k) := by
  rw [usedOf_ids (ids_ins' h k v), usedOf_perm (l := del l k)]
theorem mem_del {l : List (Key × Nat)} {k : Key} {p : Key × Nat} (h : p ∈ del l k) : p ∈ l := (List.mem_filter.1 h).1
theorem len_del (l : List (Key × Nat)) (k : Key) : (del l k).length ≤ l.length := List.length_filter_le _ _
theorem nodup_del {l : List (Key × Nat)} (h : (l.map (·.2)).Nodup) (k : Key) : ((del l k).map (·.2)).Nodup :=
  (List.Sublist.map _ List.filter_sublist).nodup h
theorem len_del_some {l : List (Key × Nat)} (h : Rises l) {k : Key} {i : Nat} (hl : look l k = some i) : l.length = (del l k).length + 1 := by
  have := (ids_del h hl).length_eq
  simpa using this
theorem DirIs.ext {D : DataW (Option Addr)} {fb : Nat → Nat} {l l' : List (Key × Nat)} (h : DirIs D fb l) (hr : Rises l') (he : ∀ k, look l' k = look l k) : DirIs D fb l' :=
  ⟨h.map, hr, fun k => by rw [he k]; exact h.at_ k, fun k => by rw [he k]; exact h.has k⟩
theorem rises_ext {l l' : List (Key × Nat)} (h : Rises l) (h' : Rises l') (he : ∀ k, look l k = look l' k) : l = l' := by
  have key : ∀ p, p ∈ l ↔ p ∈ l' := fun p => ⟨fun hp => by
      have := look_mem h hp
      rw [he] at this; exact look_some this, fun hp => by
      have := look_mem h' hp
      rw [← he] at this; exact look_some this⟩
  have hn : ∀ {x : List (Key × Nat)}, Rises x → x.Nodup := fun hx => List.Pairwise.imp (fun {p q} hlt => fun (e : p = q) => key_irrefl p.1 (by rw [← e] at hlt; exact hlt)) hx
  have hp : l.Perm l' := (List.perm_ext_iff_of_nodup (hn h) (hn h')).2 key
  refine List.Perm.eq_of_pairwise (le := fun p q : Key × Nat => p.1 < q.1) (fun a b _ _ h1 h2 => ?_) h h' hp
  exact absurd (key_trans h1 h2) (key_irrefl a.1)

/-- The directory turns, and what is used; the files don't. -/
theorem Pdi.redir {T : Nat → Nat} {w w' : World} {d mb : Nat} {fb : Nat → Nat} {m : Dm} {cv : Value} {D D' : DataW (Option Addr)} (h : Pdi T w d mb fb m cv D) (hk : Keep [d, mb] w w') {now' : List (Key × Nat)} {n : Nat}
    (ht : IsTop w' d ⟨m.rig, m.room, usedOf m.fl now', .map (some mb), cv, m.down⟩) (hm : w'.ownsMap Try.prog 9 ptrR mb n D') (hd : DirIs D' fb now') (hi : ∀ p ∈ now', p.2 < m.fl.length) (ha : (now'.map (·.2)).Nodup) (hl : now'.length ≤ 1073741824) :
    Pdi T w' d mb fb { m with now := now' } cv D' ∧ Goes T T w w' := by
  have htd := h.td
  have htm := h.tm
  refine ⟨{ h with top := ht, fresh := fun b hb => h.fresh b (Nat.le_trans hk.size hb), chg := hk.own h.chg ?_, map := tight hm (size_dir hd hm keyed Try.underlying9), dir := hd, file := fun i f hf => ?_, ids := hi, apart := ha, most := hl }, Goes.keep hk ?_⟩
  · intro g hg hx
    have := h.tc g hg
    simp at hx
    rcases hx with rfl | rfl <;> omega
  · obtain ⟨a, c, hfa⟩ := h.file i f hf
    exact ⟨a, c, hfa.keep hk (by intro x hx; simp at hx; rcases hx with rfl | rfl <;> omega) (by intro x hx; simp at hx; rcases hx with rfl | rfl <;> omega)⟩
  · intro b hb _
    simp at hb
    rcases hb with rfl | rfl <;> omega
end Dsk
end Go.Proofs.Ytbloifnibgdeoaa
