import Derived.Test.YtbloifnibgdeoaaDSam
namespace Go.Proofs.Ytbloifnibgdeoaa
namespace Dsk
open Go.RowKit Go.Shelf Go.Maps Go.Sort Byt Laws
set_option linter.unusedVariables false
set_option maxRecDepth 100000
set_option linter.unusedSimpArgs false

/-- Where a name stands, or would. -/
def plc : List (Key × Nat) → Key → Nat
  | [], _ => 0
  | p :: r, k => if p.1 < k then plc r k + 1 else 0
theorem plc_le (l : List (Key × Nat)) (k : Key) : plc l k ≤ l.length := by
  induction l with
  | nil => simp [plc]
  | cons p r ih => simp only [plc]; split <;> simp <;> omega
theorem plc_eq {l : List (Key × Nat)} {k : Key} {n : Nat} (hn : n ≤ l.length) (h1 : ∀ (i : Nat) (p : Key × Nat), i < n → l[i]? = some p → p.1 < k) (h2 : ∀ (p : Key × Nat), l[n]? = some p → ¬ p.1 < k) : plc l k = n := by
  induction l generalizing n with
  | nil => simp at hn; simp [plc, hn]
  | cons p r ih =>
    cases n with
    | zero => have := h2 p (by simp); simp [plc, this]
    | succ n =>
      have h := h1 0 p (by omega) (by simp)
      simp only [plc, if_pos h]
      rw [ih (by simpa using hn) (fun i q hi hq => h1 (i + 1) q (by omega) (by simpa using hq)) (fun q hq => h2 q (by simpa using hq))]
theorem plc_some {l : List (Key × Nat)} (hr : Rises l) {k : Key} {v : Nat} (h : look l k = some v) : l[plc l k]? = some (k, v) := by
  induction l with
  | nil => cases h
  | cons p r ih =>
    have hp := List.pairwise_cons.1 hr
    simp only [look] at h
    split at h
    · rename_i e
      cases h
      have : ¬ p.1 < k := by rw [e]; exact key_irrefl k
      subst e
      simp [plc, this]
    · rename_i e
      have hm := look_some h
      have : p.1 < k := hp.1 _ hm
      simp [plc, this, ih hp.2 h]
theorem plc_none {l : List (Key × Nat)} {k : Key} (h : look l k = none) {p : Key × Nat} (hp : l[plc l k]? = some p) : p.1 ≠ k := by
  induction l with
  | nil => simp at hp
  | cons q r ih =>
    simp only [look] at h
    split at h
    · cases h
    · rename_i e
      simp only [plc] at hp
      split at hp
      · exact ih h (by simpa using hp)
      · simp at hp; rw [← hp]; exact e
theorem ins_new {l : List (Key × Nat)} {k : Key} (v : Nat) (h : look l k = none) : ins l k v = l.take (plc l k) ++ (k, v) :: l.drop (plc l k) := by
  induction l with
  | nil => simp [ins, plc]
  | cons p r ih =>
    simp only [look] at h
    split at h
    · cases h
    · rename_i e
      simp only [ins, plc]
      by_cases h1 : p.1 < k
      · have h2 : ¬ k < p.1 := fun h' => key_irrefl k (key_trans h' h1)
        simp [h1, h2, e, ih h]
      · simp [h1, key_lt_of h1 (Ne.symm e)]

/-- A directory of the reference: names and places that lie in a block. -/
def ofK (k : Key) : ByteArray := ⟨⟨k⟩⟩
theorem ofK_ky (s : ByteArray) : ofK s.data.toList = s := by cases s; rfl
def enRow (l : List (Key × Nat)) : List Value := l.flatMap fun p => [.string (ofK p.1), .int .i64 p.2]
theorem enRow_length (l : List (Key × Nat)) : (enRow l).length = l.length * 2 := by
  induction l with
  | nil => rfl
  | cons p r ih => simp only [enRow, List.flatMap_cons, List.length_append, List.length_cons, List.length_nil] at ih ⊢; omega
theorem enRow_get {l : List (Key × Nat)} {i : Nat} {p : Key × Nat} (h : l[i]? = some p) : (enRow l)[i * 2]? = some (.string (ofK p.1)) ∧ (enRow l)[i * 2 + 1]? = some (.int .i64 p.2) := by
  induction l generalizing i with
  | nil => simp at h
  | cons q r ih =>
    cases i with
    | zero => simp at h; subst h; simp [enRow]
    | succ i =>
      have := ih (i := i) (by simpa using h)
      have e : (i + 1) * 2 = i * 2 + 1 + 1 := by omega
      have e' : (i + 1) * 2 + 1 = (i * 2 + 1) + 1 + 1 := by omega
      rw [e', e]
      simpa [enRow] using this
def EnR (w : World) (a : Option Addr) (l : List (Key × Nat)) : Prop := l ≠ [] → ∃ b, a = some ⟨b, 0, none⟩ ∧ ∀ (i : Nat) (p : Key × Nat), l[i]? = some p → w.cell? ⟨b, i * 2, none⟩ = some (.string (ofK p.1)) ∧ w.cell? ⟨b, i * 2 + 1, none⟩ = some (.int .i64 p.2)

theorem bl_of (k : Key) (s : ByteArray) (h : k < s.data.toList) : Op.bytesLess (ofK k).toList s.toList = true := by
  rw [Proofs.bytesLess_eq, Lib.toList_data, Lib.toList_data]
  exact decide_eq_true h
theorem bl_not (k : Key) (s : ByteArray) (h : ¬ k < s.data.toList) : Op.bytesLess (ofK k).toList s.toList = false := by
  rw [Proofs.bytesLess_eq, Lib.toList_data, Lib.toList_data]
  exact decide_eq_false h

set_option maxHeartbeats 1000000 in
theorem find_any (a : Option Addr) (n c : Nat) (l : List (Key × Nat)) (w : World) (hr : Rises l) (h : EnR w a l) (hn : n = l.length) (hl : n ≤ 1073741824) (hc : n ≤ c) (s : ByteArray) :
    Calls Try.prog 73 #[.slice a n c, .string s] w fun e w' => e = .returned (.tuple #[.int .i64 (plc l s.data.toList : Nat), .bool (look l s.data.toList).isSome]) ∧ ∃ k, w' = w.drewN k := by
  have HE : Hid (EnR w a l) := h
  have HR : Hid (Rises l) := hr
  have HN : Hid (n = l.length) := hn
  clear h hr hn
  go_enter Try.func73, Try.ntmps73
  go_wp2
  go_loopw [6, 7, 8] (fun lo hi _ wr => ∃ i j : Nat, i ≤ j ∧ j ≤ n ∧ lo = .int .i64 i ∧ hi = .int .i64 j ∧ Hid (∀ (t : Nat) (p : Key × Nat), t < i → l[t]? = some p → p.1 < s.data.toList) ∧ Hid (∀ (t : Nat) (p : Key × Nat), j ≤ t → l[t]? = some p → ¬ p.1 < s.data.toList) ∧ wr = w) (fun lo hi _ _ => (intOf hi).toNat - (intOf lo).toNat)
  case atStart => exact ⟨0, n, Nat.zero_le _, Nat.le_refl _, rfl, rfl, fun t p ht => by omega, fun t p ht hp => by have h1 := (List.getElem?_eq_some_iff.1 hp).1; have h2 := HN.out; omega, rfl⟩
  case round =>
    obtain ⟨i, j, hij, hjn, rfl, rfl, H1, H2, rfl⟩ := hrel
    by_cases hlt : i < j
    · have hlt' : (i : Int) < (j : Int) := by omega
      obtain ⟨m, hm⟩ : ∃ m : Nat, m = (i + j) / 2 := ⟨_, rfl⟩
      have hq : Int.tdiv ((i : Int) + (j : Int)) 2 = (m : Int) := by rw [Int.tdiv_eq_ediv_of_nonneg (by omega)]; omega
      have hml : m < l.length := by have := HN.out; omega
      obtain ⟨p, hp⟩ : ∃ p, l[m]? = some p := ⟨_, List.getElem?_eq_getElem hml⟩
      obtain ⟨b, rfl, hcell⟩ := HE.out (by intro e; rw [e] at hml; simp at hml)
      obtain ⟨c0, c1⟩ := hcell m p hp
      have hmn : m < n := by omega
      have hmi : i ≤ m := by omega
      have hmj : m < j := by omega
      clear hcell hm
      by_cases hs : p.1 < s.data.toList
      · have hbl : Op.bytesLess (ofK p.1).toList s.toList = true := bl_of _ _ hs
        go_wp2
        go_roundw
        case rel =>
          refine ⟨m + 1, j, by omega, hjn, by go_num, rfl, fun t q ht hq' => ?_, H2, by first | rfl | trivial⟩
          by_cases e : t = m
          · subst e; rw [hp] at hq'; cases hq'; exact hs
          · rcases Nat.lt_or_ge t m with h' | h'
            · have := List.pairwise_iff_getElem.1 HR.out t m (by omega) hml h'
              rw [List.getElem?_eq_getElem (by omega)] at hq' hp
              cases hq'; cases hp
              exact key_trans this hs
            · omega
        case measure => simp [intOf]; omega
      · have hbl : Op.bytesLess (ofK p.1).toList s.toList = false := bl_not _ _ hs
        go_wp2
        go_roundw
        case rel =>
          refine ⟨i, m, by omega, by omega, rfl, rfl, H1, fun t q ht hq' => ?_, by first | rfl | trivial⟩
          by_cases e : t = m
          · subst e; rw [hp] at hq'; cases hq'; exact hs
          · have htl := (List.getElem?_eq_some_iff.1 hq').1
            have := List.pairwise_iff_getElem.1 HR.out m t hml htl (by omega)
            rw [List.getElem?_eq_getElem (by omega)] at hq' hp
            cases hq'; cases hp
            exact fun h' => hs (key_trans this h')
        case measure => simp [intOf]; omega
    · have hij' : i = j := by omega
      subst hij'
      have hpl : plc l s.data.toList = i := plc_eq (by have := HN.out; omega) H1.out (fun p hp => H2.out i p (Nat.le_refl _) hp)
      by_cases hin : i < n
      · have hil : i < l.length := by have := HN.out; omega
        obtain ⟨p, hp⟩ : ∃ p, l[i]? = some p := ⟨_, List.getElem?_eq_getElem hil⟩
        obtain ⟨b, rfl, hcell⟩ := HE.out (by intro e; rw [e] at hil; simp at hil)
        obtain ⟨c0, c1⟩ := hcell i p hp
        have hin' : (i : Int) < (n : Int) := by omega
        clear hcell
        go_wp2
        go_quiet (fail)
        go_wp2
        go_ret2
        have hb : ((ofK p.1).toList == s.toList) = (look l s.data.toList).isSome := by
          rw [Lib.toList_data, Lib.toList_data]
          cases hlk : look l s.data.toList with
          | none =>
            have := plc_none hlk (by rw [hpl]; exact hp)
            exact beq_eq_false_iff_ne.2 this
          | some v =>
            have := plc_some HR.out hlk
            rw [hpl, hp] at this
            cases this
            exact beq_self_eq_true _
        refine ⟨?_, _, rfl⟩
        rw [← hb, hpl]; rfl
      · go_wp2
        go_quiet (fail)
        go_wp2
        go_ret2
        have hb : (look l s.data.toList).isSome = false := by
          cases hlk : look l s.data.toList with
          | none => rfl
          | some v =>
            have := plc_some HR.out hlk
            have := (List.getElem?_eq_some_iff.1 this).1
            have := HN.out
            omega
        refine ⟨?_, _, rfl⟩
        rw [hb, hpl]; rfl
end Dsk
end Go.Proofs.Ytbloifnibgdeoaa
