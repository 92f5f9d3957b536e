import Derived.Test.YtbloifnibgdeoaaProg
import Derived.Sort.KeysCollected
import Derived.Maps.OwnSet
namespace Go.Proofs.Ytbloifnibgdeoaa
namespace Dsk
open Go.RowKit Go.Maps Go.Sort
set_option linter.unusedVariables false

abbrev Key := List UInt8
/-- The id of a name. -/
def look : List (Key × Nat) → Key → Option Nat
  | [], _ => none
  | p :: r, k => if p.1 = k then some p.2 else look r k
/-- A name put in its place. -/
def ins : List (Key × Nat) → Key → Nat → List (Key × Nat)
  | [], k, v => [(k, v)]
  | p :: r, k, v => if k < p.1 then (k, v) :: p :: r else if p.1 = k then (k, v) :: r else p :: ins r k v
def del (l : List (Key × Nat)) (k : Key) : List (Key × Nat) := l.filter fun p => decide (p.1 ≠ k)
def Rises (l : List (Key × Nat)) : Prop := l.Pairwise fun p q => p.1 < q.1

theorem key_irrefl (a : Key) : ¬ a < a := List.lt_irrefl a
theorem key_trans {a b c : Key} (h : a < b) (h' : b < c) : a < c := List.lt_trans h h'
theorem key_lt_of {a b : Key} (h : ¬ a < b) (hne : b ≠ a) : b < a := by
  rcases Std.lt_trichotomy (a := a) (b := b) with h1 | h1 | h1
  · exact absurd h1 h
  · exact absurd h1.symm hne
  · exact h1

theorem look_none {l : List (Key × Nat)} {k : Key} (h : ∀ p ∈ l, p.1 ≠ k) : look l k = none := by
  induction l with
  | nil => rfl
  | cons p r ih => simp [look, h p (by simp), ih (fun q hq => h q (by simp [hq]))]
theorem look_some {l : List (Key × Nat)} {k : Key} {i : Nat} (h : look l k = some i) : (k, i) ∈ l := by
  induction l with
  | nil => cases h
  | cons p r ih =>
    simp only [look] at h
    split at h
    · rename_i e; cases h; subst e; simp
    · simp [ih h]
theorem look_mem {l : List (Key × Nat)} (hr : Rises l) {p : Key × Nat} (h : p ∈ l) : look l p.1 = some p.2 := by
  induction l with
  | nil => cases h
  | cons q r ih =>
    have hq := List.pairwise_cons.1 hr
    rcases List.mem_cons.1 h with rfl | h
    · simp [look]
    · have : q.1 ≠ p.1 := fun e => key_irrefl p.1 (by have := hq.1 p h; rwa [e] at this)
      simp [look, this, ih hq.2 h]
theorem look_ins_same (l : List (Key × Nat)) (k : Key) (v : Nat) : look (ins l k v) k = some v := by
  induction l with
  | nil => simp [ins, look]
  | cons p r ih =>
    simp only [ins]
    split
    · simp [look]
    · split
      · simp [look]
      · rename_i h1 h2; simp [look, h2, ih]
theorem look_ins_other (l : List (Key × Nat)) {k k' : Key} (v : Nat) (hne : k' ≠ k) : look (ins l k v) k' = look l k' := by
  induction l with
  | nil => simp [ins, look, Ne.symm hne]
  | cons p r ih =>
    simp only [ins]
    split
    · simp [look, Ne.symm hne]
    · split
      · rename_i h1 h2; subst h2; simp [look, Ne.symm hne]
      · simp only [look, ih]
theorem look_del_same (l : List (Key × Nat)) (k : Key) : look (del l k) k = none :=
  look_none fun p hp => by simp [del] at hp; exact hp.2
theorem look_del_other (l : List (Key × Nat)) {k k' : Key} (hne : k' ≠ k) : look (del l k) k' = look l k' := by
  induction l with
  | nil => rfl
  | cons p r ih =>
    unfold del at ih ⊢
    by_cases h : p.1 = k
    · have : p.1 ≠ k' := fun e => hne (e.symm.trans h)
      rw [List.filter_cons_of_neg (by simp [h]), ih]
      simp [look, this]
    · rw [List.filter_cons_of_pos (by simp [h])]
      simp only [look, ih]
theorem ins_mem {l : List (Key × Nat)} {k : Key} {v : Nat} {q : Key × Nat} (h : q ∈ ins l k v) : q = (k, v) ∨ q ∈ l := by
  induction l with
  | nil => simp [ins] at h; exact .inl h
  | cons p r ih =>
    simp only [ins] at h
    split at h
    · rcases List.mem_cons.1 h with h | h
      · exact .inl h
      · exact .inr h
    · split at h
      · rcases List.mem_cons.1 h with h | h
        · exact .inl h
        · exact .inr (by simp [h])
      · rcases List.mem_cons.1 h with h | h
        · exact .inr (by simp [h])
        · rcases ih h with h | h
          · exact .inl h
          · exact .inr (by simp [h])
theorem rises_ins {l : List (Key × Nat)} (h : Rises l) (k : Key) (v : Nat) : Rises (ins l k v) := by
  induction l with
  | nil => simp [ins, Rises]
  | cons p r ih =>
    have hp := List.pairwise_cons.1 h
    simp only [ins]
    split
    · rename_i h1
      refine List.pairwise_cons.2 ⟨fun q hq => ?_, h⟩
      rcases List.mem_cons.1 hq with rfl | hq
      · exact h1
      · exact key_trans h1 (hp.1 q hq)
    · rename_i h1
      split
      · rename_i h2
        refine List.pairwise_cons.2 ⟨fun q hq => ?_, hp.2⟩
        have := hp.1 q hq
        rw [h2] at this; exact this
      · rename_i h2
        refine List.pairwise_cons.2 ⟨fun q hq => ?_, ih hp.2⟩
        rcases ins_mem hq with rfl | hq
        · exact key_lt_of h1 h2
        · exact hp.1 q hq
theorem rises_del {l : List (Key × Nat)} (h : Rises l) (k : Key) : Rises (del l k) := h.filter _

/-- How an element of the directory reads: the address itself. -/
def ptrR : Value → Option (DataW (Option Addr) × List MemPlace)
  | .pointer p => some (.held p, [])
  | _ => none
theorem ptrR_inv {v : Value} {p : Option Addr} {ps : List MemPlace} (h : ptrR v = some (.held p, ps)) : v = .pointer p := by
  cases v <;> simp [ptrR] at h
  rw [h.1]

/-- The map D is the directory l, of files that lie at fb. -/
structure DirIs (D : DataW (Option Addr)) (fb : Nat → Nat) (l : List (Key × Nat)) : Prop where
  map : IsMap D
  rises : Rises l
  at_ : ∀ k, D.atKey (.string k) (.held none) = .held ((look l k).map fun i => (⟨fb i, 0, none⟩ : Addr))
  has : ∀ k, has D (.string k) = (look l k).isSome

theorem DirIs.put {D : DataW (Option Addr)} {fb : Nat → Nat} {l : List (Key × Nat)} (h : DirIs D fb l) (k : Key) (i : Nat) : DirIs (D.put (.string k) (.held (some ⟨fb i, 0, none⟩))) fb (ins l k i) := by
  refine ⟨?_, rises_ins h.rises k i, fun k' => ?_, fun k' => ?_⟩
  · exact h.map.put _ _
  · by_cases e : k' = k
    · subst e; rw [atKey_put_same h.map (by trivial), look_ins_same]; rfl
    · rw [atKey_put_other (by intro e'; cases e'; exact e rfl), look_ins_other _ _ e, h.at_]
  · by_cases e : k' = k
    · subst e; rw [has_put_same h.map (by trivial), look_ins_same]; rfl
    · rw [has_put_other (by intro e'; cases e'; exact e rfl), look_ins_other _ _ e, h.has]
theorem DirIs.del {D : DataW (Option Addr)} {fb : Nat → Nat} {l : List (Key × Nat)} (h : DirIs D fb l) (k : Key) : DirIs (D.del (.string k)) fb (Dsk.del l k) := by
  refine ⟨?_, rises_del h.rises k, fun k' => ?_, fun k' => ?_⟩
  · exact h.map.del _
  · by_cases e : k' = k
    · subst e; rw [atKey_del_same, look_del_same]; rfl
    · rw [atKey_del_other (by intro e'; cases e'; exact e rfl), look_del_other _ e, h.at_]
  · by_cases e : k' = k
    · subst e; rw [has_del_same, look_del_same]; rfl
    · rw [has_del_other (by intro e'; cases e'; exact e rfl), look_del_other _ e, h.has]
theorem DirIs.keys {D : DataW (Option Addr)} {fb : Nat → Nat} {l : List (Key × Nat)} {w : World} {P : Program} {k : TypeId} {R : Value → Option (DataW (Option Addr) × List MemPlace)} {b n : Nat} (h : DirIs D fb l) (ho : w.ownsMap P k R b n D) (K : Keyed P k) (hk : P.underlying k = some .string) :
    (l.map (·.1)).Perm (strKeys D) := by
  obtain ⟨es, rfl, hp, _⟩ := ho.entries K
  obtain ⟨es', e, hks⟩ := ho.keysOf
  cases e
  refine perm_strKeys hp (fun p hp' => ?_) ?_ (fun x => ?_)
  · obtain ⟨key, hkey⟩ := hks p hp'
    obtain ⟨x, _, e, _⟩ := keyOf_str hk hkey
    exact ⟨x, e⟩
  · refine List.pairwise_map.2 (h.rises.imp (fun {p q} hlt => fun (e : p.1 = q.1) => key_irrefl p.1 (by rw [← e] at hlt; exact hlt)))
  · rw [h.has x, Option.isSome_iff_exists]
    constructor
    · intro hx
      obtain ⟨p, hp', rfl⟩ := List.mem_map.1 hx
      exact ⟨_, look_mem h.rises hp'⟩
    · rintro ⟨i, hi⟩
      exact List.mem_map.2 ⟨_, look_some hi, rfl⟩
theorem DirIs.sorted {D : DataW (Option Addr)} {fb : Nat → Nat} {l : List (Key × Nat)} (h : DirIs D fb l) {ss : List Key} (hp : ss.Perm (l.map (·.1))) : ss.mergeSort (fun x y => decide (x ≤ y)) = l.map (·.1) := by
  have e := mergeSort_of_perm hp
  refine e.trans (List.mergeSort_of_pairwise ?_)
  refine List.pairwise_map.2 (h.rises.imp fun {p q} hlt => ?_)
  simp only [leB, decide_eq_true_eq]
  exact List.le_of_lt hlt
theorem size_dir {D : DataW (Option Addr)} {fb : Nat → Nat} {l : List (Key × Nat)} {w : World} {P : Program} {k : TypeId} {R : Value → Option (DataW (Option Addr) × List MemPlace)} {b n : Nat} (h : DirIs D fb l) (ho : w.ownsMap P k R b n D) (K : Keyed P k) (hk : P.underlying k = some .string) : Maps.size D = l.length := by
  have hp := (h.keys ho K hk).length_eq
  obtain ⟨es, rfl⟩ := h.map
  rw [List.length_map] at hp
  rw [hp]
  simp [strKeys, Maps.size]
end Dsk
end Go.Proofs.Ytbloifnibgdeoaa
