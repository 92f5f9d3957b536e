import Derived.WalkKit
import Derived.Test.YtecgecolghgjoaaMath
namespace Go.Proofs.Ytecgecolghgjoaa
namespace Vr
open KMath
set_option linter.unusedVariables false

/-- is one text below another? -/
def ltS (a b : ByteArray) : Bool := Op.bytesLess a.data.toList b.data.toList
theorem ba_ext {a b : ByteArray} (h : a.data.toList = b.data.toList) : a = b := by
  cases a; cases b
  simp at h
  rw [h]
theorem ltS_irrefl (a : ByteArray) : ltS a a = false := bl_irrefl _
theorem ltS_asymm {a b : ByteArray} (h : ltS a b = true) : ltS b a = false := bl_asymm _ _ h
theorem ltS_trans {a b c : ByteArray} (h : ltS a b = true) (k : ltS b c = true) : ltS a c = true := bl_trans _ _ _ h k
theorem ltS_tri {a b : ByteArray} (h : ltS a b = false) (k : ltS b a = false) : a = b := ba_ext (bl_tri _ _ h k)
/-- a is at most b, b below c -/
theorem ltS_le {a b c : ByteArray} (h : ltS b a = false) (k : ltS b c = true) : ltS a c = true := by
  by_cases e : ltS a b = true
  · exact ltS_trans e k
  · have := ltS_tri (by simpa using e) h
    subst this; exact k
theorem ltS_lt {a b c : ByteArray} (h : ltS a b = true) (k : ltS c b = false) : ltS a c = true := by
  by_cases e : ltS b c = true
  · exact ltS_trans h e
  · have := ltS_tri k (by simpa using e)
    subst this; exact h
theorem ltS_le2 {a b c : ByteArray} (h : ltS b a = false) (k : ltS c b = false) : ltS c a = false := by
  cases e : ltS c a with
  | false => rfl
  | true =>
    have := ltS_lt e h
    rw [k] at this; cases this

/-- a table -/
structure Tb where
  no : Nat
  we : Int
  by_ : Int
  en : Int
  le : ByteArray
  gr : ByteArray
def noT : Tb := ⟨0, 0, 0, 0, ⟨#[]⟩, ⟨#[]⟩⟩
/-- the order of tables -/
def leT (a b : Tb) : Bool := !ltS b.le a.le
theorem leT_trans (a b c : Tb) (h : leT a b = true) (k : leT b c = true) : leT a c = true := by
  simp only [leT, Bool.not_eq_true'] at *
  exact ltS_le2 h k
theorem leT_total (a b : Tb) : (leT a b || leT b a) = true := by
  unfold leT
  cases e : ltS b.le a.le with
  | false => rfl
  | true => rw [ltS_asymm e]; rfl
def srt (l : List Tb) : List Tb := l.mergeSort leT
theorem srt_perm (l : List Tb) : (srt l).Perm l := List.mergeSort_perm _ _
theorem srt_sorted (l : List Tb) : (srt l).Pairwise fun a b => ltS b.le a.le = false := by
  have := List.pairwise_mergeSort (le := leT) leT_trans leT_total l
  exact this.imp fun h => by simpa [leT] using h
/-- do two neighbours overlap? -/
def ovl : List Tb → Bool
  | a :: b :: r => !ltS a.gr b.le || ovl (b :: r)
  | _ => false
/-- the tables have a hull -/
def Hull (l : List Tb) : Prop := ∀ t ∈ l, ltS t.gr t.le = false
/-- one behind the other -/
def Apart (l : List Tb) : Prop := l.Pairwise fun a b => ltS a.gr b.le = true
theorem ovl_apart : ∀ {l : List Tb}, Hull l → ovl l = false → Apart l
  | [], _, _ => List.Pairwise.nil
  | [a], _, _ => by simp [Apart]
  | a :: b :: r, hh, ho => by
    simp only [ovl, Bool.or_eq_false_iff, Bool.not_eq_false'] at ho
    have ih : Apart (b :: r) := ovl_apart (fun t ht => hh t (List.mem_cons_of_mem _ ht)) ho.2
    refine List.pairwise_cons.2 ⟨fun c hc => ?_, ih⟩
    rcases List.mem_cons.1 hc with rfl | hc
    · exact ho.1
    · have h1 := (List.pairwise_cons.1 ih).1 c hc
      exact ltS_trans (ltS_lt ho.1 (hh b (by simp))) h1
theorem apart_ovl : ∀ {l : List Tb}, Apart l → ovl l = false
  | [], _ => rfl
  | [a], _ => rfl
  | a :: b :: r, h => by
    simp only [ovl, Bool.or_eq_false_iff, Bool.not_eq_false']
    exact ⟨(List.pairwise_cons.1 h).1 b (by simp), apart_ovl (List.pairwise_cons.1 h).2⟩
/-- least keys rise -/
def Rise (l : List Tb) : Prop := l.Pairwise fun a b => ltS a.le b.le = true
theorem Apart.rise {l : List Tb} (h : Apart l) (hh : Hull l) : Rise l := by
  induction l with
  | nil => exact List.Pairwise.nil
  | cons a r ih =>
    obtain ⟨h1, h2⟩ := List.pairwise_cons.1 h
    refine List.pairwise_cons.2 ⟨fun b hb => ltS_le (hh a (by simp)) (h1 b hb), ih h2 fun t ht => hh t (List.mem_cons_of_mem _ ht)⟩
/-- lists of the same tables whose keys rise are the same -/
theorem rise_uniq : ∀ {l d : List Tb}, Rise l → l.Perm d → (d.Pairwise fun a b => ltS b.le a.le = false) → d = l
  | [], d, _, hp, _ => by simpa using hp.symm
  | a :: r, [], _, hp, _ => by simp at hp
  | a :: r, x :: s, hr, hp, hd => by
    obtain ⟨h1, h2⟩ := List.pairwise_cons.1 hr
    obtain ⟨k1, k2⟩ := List.pairwise_cons.1 hd
    have hx : x ∈ a :: r := hp.mem_iff.2 (by simp)
    have ha : a ∈ x :: s := hp.mem_iff.1 (by simp)
    have e : a = x := by
      rcases List.mem_cons.1 hx with e | hx
      · exact e.symm
      · rcases List.mem_cons.1 ha with e | ha
        · exact e
        · have := k1 a ha
          rw [h1 x hx] at this
          cases this
    subst e
    rw [rise_uniq h2 (List.Perm.cons_inv hp) k2]
theorem Hull.perm {l d : List Tb} (h : Hull l) (hp : l.Perm d) : Hull d := fun t ht => h t (hp.mem_iff.2 ht)
/-- what a sort makes, if no two overlap -/
theorem sort_is {l d : List Tb} (hh : Hull l) (hp : l.Perm d) (hd : d.Pairwise fun a b => ltS b.le a.le = false) (ho : ovl d = false) : d = srt l := by
  have h1 := (ovl_apart (hh.perm hp) ho).rise (hh.perm hp)
  exact (rise_uniq h1 (hp.symm.trans (srt_perm l).symm) (srt_sorted l)).symm
theorem sort_ovl {l d : List Tb} (hh : Hull l) (hp : l.Perm d) (hd : d.Pairwise fun a b => ltS b.le a.le = false) : ovl d = ovl (srt l) := by
  cases e : ovl d with
  | false => rw [← sort_is hh hp hd e, e]
  | true =>
    cases e2 : ovl (srt l) with
    | true => rfl
    | false =>
      have h2 := (ovl_apart (hh.perm (srt_perm l).symm) e2).rise (hh.perm (srt_perm l).symm)
      have := rise_uniq h2 ((srt_perm l).trans hp) hd
      rw [this] at e
      rw [e] at e2; cases e2
/-! levels -/
abbrev Lv := List (List Tb)
def nums (V : Lv) : List Nat := V.flatten.map Tb.no
/-- what comes in -/
structure Pi where
  lv : Int
  t : Tb
def eNone : Int := 130
def eTwice : Int := 131
def eOrder : Int := 132
def eLevel : Int := 133
def bring : Lv → List Pi → Except Int Lv
  | V, [] => .ok V
  | V, p :: r =>
    if 0 ≤ p.lv ∧ p.lv < V.length then
      if p.t.no ∈ nums V then .error eTwice
      else if ltS p.t.gr p.t.le = true then .error eOrder
      else bring (V.modify p.lv.toNat (· ++ [p.t])) r
    else .error eLevel
def ordered (V : Lv) : Lv := V.take 1 ++ (V.drop 1).map srt
def edit (V : Lv) (l : List Pi) : Except Int Lv :=
  match bring V l with
  | .error e => .error e
  | .ok V1 => if ((V1.drop 1).map srt).any ovl = true then .error eOrder else .ok (ordered V1)
end Vr
end Go.Proofs.Ytecgecolghgjoaa
namespace Go.Proofs.Ytecgecolghgjoaa
namespace Vr
open KMath
set_option linter.unusedVariables false

/-- a version as it may be -/
structure Good (V : Lv) : Prop where
  nod : (nums V).Nodup
  hull : ∀ l ∈ V, Hull l
  apart : ∀ (i : Nat) l, 1 ≤ i → V[i]? = some l → Apart l
theorem bring_len : ∀ {V V' : Lv} {l : List Pi}, bring V l = .ok V' → V'.length = V.length
  | V, V', [], h => by simp [bring] at h; rw [h]
  | V, V', p :: r, h => by
    unfold bring at h
    split at h
    · split at h
      · cases h
      · split at h
        · cases h
        · have := bring_len h
          simpa using this
    · cases h
theorem flatten_modify : ∀ (V : Lv) (i : Nat) (t : Tb), i < V.length → (V.modify i (· ++ [t])).flatten.Perm (V.flatten ++ [t])
  | [], i, t, h => by simp at h
  | l :: V, 0, t, _ => by
    simp only [List.modify_zero_cons, List.flatten_cons, List.append_assoc]
    exact List.Perm.append_left _ (List.perm_append_comm)
  | l :: V, i + 1, t, h => by
    simp only [List.modify_succ_cons, List.flatten_cons, List.append_assoc]
    exact List.Perm.append_left _ (flatten_modify V i t (by simpa using h))
theorem nums_modify {V : Lv} {i : Nat} {t : Tb} (h : i < V.length) : (nums (V.modify i (· ++ [t]))).Perm (nums V ++ [t.no]) := by
  have := (flatten_modify V i t h).map Tb.no
  simpa [nums] using this
/-- numbers and hulls as they may be -/
structure Half (V : Lv) : Prop where
  nod : (nums V).Nodup
  hull : ∀ l ∈ V, Hull l
theorem Half.bring1 {V : Lv} {i : Nat} {t : Tb} (h : Half V) (hi : i < V.length) (hn : t.no ∉ nums V) (hg : ltS t.gr t.le = false) : Half (V.modify i (· ++ [t])) := by
  refine ⟨(nums_modify hi).nodup_iff.2 ?_, fun l hl => ?_⟩
  · rw [List.nodup_append]
    refine ⟨h.nod, by simp, fun a ha b hb => ?_⟩
    simp at hb
    subst hb
    rintro rfl
    exact hn ha
  · obtain ⟨j, hj, rfl⟩ := List.getElem_of_mem hl
    rw [List.getElem_modify]
    have hjl : j < V.length := by simpa using hj
    split
    · intro x hx
      rcases List.mem_append.1 hx with hx | hx
      · exact h.hull _ (List.getElem_mem hjl) x hx
      · simp at hx; subst hx; exact hg
    · exact h.hull _ (List.getElem_mem hjl)
theorem Half.bring : ∀ {V V' : Lv} {l : List Pi}, Half V → bring V l = .ok V' → Half V'
  | V, V', [], h0, h => by simp [Vr.bring] at h; rw [← h]; exact h0
  | V, V', p :: r, h0, h => by
    unfold Vr.bring at h
    split at h
    · rename_i hl
      split at h
      · cases h
      · rename_i hn
        split at h
        · cases h
        · rename_i hg
          exact Half.bring (h0.bring1 (by omega) hn (by simpa using hg)) h
    · cases h
theorem ordered_len (V : Lv) : (ordered V).length = V.length := by simp [ordered]; omega
theorem flatten_srt : ∀ (V : Lv), (V.map srt).flatten.Perm V.flatten
  | [] => List.Perm.refl _
  | l :: V => by
    simp only [List.map_cons, List.flatten_cons]
    exact (srt_perm l).append (flatten_srt V)
theorem flatten_ordered (V : Lv) : (ordered V).flatten.Perm V.flatten := by
  have e : V.flatten = (V.take 1).flatten ++ (V.drop 1).flatten := by rw [← List.flatten_append, List.take_append_drop]
  rw [e]
  unfold ordered
  rw [List.flatten_append]
  exact List.Perm.append_left _ (flatten_srt _)
theorem mem_ordered {V : Lv} {l : List Tb} (h : l ∈ ordered V) : ∃ k ∈ V, l = k ∨ l = srt k := by
  rcases List.mem_append.1 h with h | h
  · exact ⟨l, List.mem_of_mem_take h, .inl rfl⟩
  · obtain ⟨k, hk, rfl⟩ := List.mem_map.1 h
    exact ⟨k, List.mem_of_mem_drop hk, .inr rfl⟩
theorem Half.ordered {V : Lv} (h : Half V) : Half (ordered V) := by
  refine ⟨((flatten_ordered V).map Tb.no).nodup_iff.2 h.nod, fun l hl => ?_⟩
  obtain ⟨k, hk, rfl | rfl⟩ := mem_ordered hl
  · exact h.hull _ hk
  · exact (h.hull _ hk).perm (srt_perm k).symm
theorem Good.half {V : Lv} (h : Good V) : Half V := ⟨h.nod, h.hull⟩
theorem edit_len {V V' : Lv} {l : List Pi} (h : edit V l = .ok V') : V'.length = V.length := by
  unfold edit at h
  cases hb : bring V l with
  | error e => rw [hb] at h; cases h
  | ok V1 =>
    rw [hb] at h
    dsimp only at h
    split at h
    · cases h
    · cases h
      rw [ordered_len, bring_len hb]
theorem edit_good {V V' : Lv} {l : List Pi} (h0 : Half V) (h : edit V l = .ok V') : Good V' := by
  unfold edit at h
  cases hb : bring V l with
  | error e => rw [hb] at h; cases h
  | ok V1 =>
    rw [hb] at h
    dsimp only at h
    split at h
    · cases h
    · rename_i ho
      cases h
      have h1 := h0.bring hb
      have h2 := h1.ordered
      refine ⟨h2.nod, h2.hull, fun i l hi hl => ?_⟩
      have hm : l ∈ (V1.drop 1).map srt := by
        unfold ordered at hl
        rw [List.getElem?_append] at hl
        split at hl
        · rename_i hlt
          simp at hlt
          omega
        · exact List.mem_of_getElem? hl
      obtain ⟨k, hk, rfl⟩ := List.mem_map.1 hm
      refine ovl_apart ((h1.hull k (List.mem_of_mem_drop hk)).perm (srt_perm k).symm) ?_
      cases e : ovl (srt k) with
      | false => rfl
      | true => exact absurd (List.any_eq_true.2 ⟨_, hm, e⟩) ho
/-! round and round -/
def beh (l : List Tb) (p : ByteArray) : Nat := (l.findIdx? fun t => ltS p t.le).getD 0
theorem beh_lt {l : List Tb} (p : ByteArray) (h : 0 < l.length) : beh l p < l.length := by
  unfold beh
  cases e : l.findIdx? fun t => ltS p t.le with
  | none => exact h
  | some i =>
    obtain ⟨hi, _⟩ := List.findIdx?_eq_some_iff_getElem.1 e
    exact hi
theorem Apart.ahead {l : List Tb} (hA : Apart l) (hH : Hull l) {i j : Nat} {a t : Tb} (hi : l[i]? = some a) (hj : l[j]? = some t) (hij : i ≤ j) : ltS t.gr a.le = false := by
  obtain ⟨hi1, hi2⟩ := List.getElem?_eq_some_iff.1 hi
  obtain ⟨hj1, hj2⟩ := List.getElem?_eq_some_iff.1 hj
  have ht := hH t (hj2 ▸ List.getElem_mem hj1)
  rcases Nat.lt_or_ge i j with h | h
  · have h1 := List.pairwise_iff_getElem.1 hA i j hi1 hj1 h
    rw [hi2, hj2] at h1
    have h2 := hH a (hi2 ▸ List.getElem_mem hi1)
    have h3 := ltS_le h2 h1
    cases e : ltS t.gr a.le with
    | false => rfl
    | true =>
      have := ltS_trans e h3
      rw [ht] at this; cases this
  · have : i = j := by omega
    subst this
    rw [hi] at hj
    cases hj
    exact ht
theorem beh_next {l : List Tb} (hA : Apart l) (hH : Hull l) {j : Nat} {t : Tb} (hj : l[j]? = some t) : beh l t.gr = if j + 1 < l.length then j + 1 else 0 := by
  obtain ⟨hj1, hj2⟩ := List.getElem?_eq_some_iff.1 hj
  unfold beh
  split
  · rename_i h
    rw [List.findIdx?_eq_some_iff_getElem.2 ⟨h, ?_, ?_⟩]
    · rfl
    · have h1 := List.pairwise_iff_getElem.1 hA j (j + 1) hj1 h (by omega)
      rw [hj2] at h1
      exact h1
    · intro i hi
      have := hA.ahead hH (List.getElem?_eq_getElem (by omega)) hj (show i ≤ j by omega)
      simp [this]
  · rename_i h
    rw [List.findIdx?_eq_none_iff.2]
    · rfl
    · intro x hx
      obtain ⟨i, hi, rfl⟩ := List.getElem_of_mem hx
      exact hA.ahead hH (List.getElem?_eq_getElem hi) hj (by omega)
/-- what is told in k calls from the j-th on -/
def turn (l : List Tb) (j k : Nat) : Nat := if j + k < l.length then j + k else j + k - l.length
theorem turn_lt {l : List Tb} {j k : Nat} (hj : j < l.length) (hk : k < l.length) : turn l j k < l.length := by unfold turn; split <;> omega
theorem turn_inj {l : List Tb} {j k m : Nat} (hj : j < l.length) (hk : k < l.length) (hm : m < l.length) (h : turn l j k = turn l j m) : k = m := by
  unfold turn at h; split at h <;> split at h <;> omega
theorem turn_next {l : List Tb} (hA : Apart l) (hH : Hull l) {j k : Nat} (hj : j < l.length) (hk : k + 1 < l.length) {t : Tb} (ht : l[turn l j k]? = some t) : beh l t.gr = turn l j (k + 1) := by
  rw [beh_next hA hH ht]
  have := turn_lt (l := l) (k := k) hj (by omega)
  unfold turn at *
  by_cases h1 : j + k < l.length
  · rw [if_pos h1] at *
    by_cases h2 : j + k + 1 < l.length
    · rw [if_pos h2, if_pos (by omega)]; omega
    · rw [if_neg h2, if_neg (by omega)]; omega
  · rw [if_neg h1] at *
    rw [if_pos (by omega), if_neg (by omega)]; omega
theorem level_nodup : ∀ {V : Lv} {i : Nat} {l : List Tb}, (nums V).Nodup → V[i]? = some l → (l.map Tb.no).Nodup
  | [], i, l, _, h => by simp at h
  | x :: V, i, l, hn, h => by
    have e : nums (x :: V) = x.map Tb.no ++ nums V := by simp [nums]
    rw [e, List.nodup_append] at hn
    cases i with
    | zero => simp at h; subst h; exact hn.1
    | succ i => exact level_nodup hn.2.1 (by simpa using h)
end Vr
end Go.Proofs.Ytecgecolghgjoaa
