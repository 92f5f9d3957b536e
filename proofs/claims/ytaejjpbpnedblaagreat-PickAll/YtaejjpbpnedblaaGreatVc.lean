import Derived.WalkKit
import Derived.Test.YtaejjpbpnedblaaGreatMath
import Derived.Test.YtaejjpbpnedblaaGreatCRw
import Derived.Laws.CopyOwn
import Derived.OwnWalk
import Derived.Deep.RegionWith
namespace Go.Proofs.YtaejjpbpnedblaaGreat
namespace Vr
open KMath
set_option linter.unusedVariables false

/-- is one text below another? -/
def ltS (a b : ByteArray) : Bool := Op.bytesLess a.data.toList b.data.toList
theorem ba_ext {a b : ByteArray} (h : a.data.toList = b.data.toList) : a = b := by
  cases a; cases b
  simp at h
  rw [h]
theorem ltS_irrefl (a : ByteArray) : ltS a a = false := bl_irrefl _
theorem ltS_asymm {a b : ByteArray} (h : ltS a b = true) : ltS b a = false := bl_asymm _ _ h
theorem ltS_trans {a b c : ByteArray} (h : ltS a b = true) (k : ltS b c = true) : ltS a c = true := bl_trans _ _ _ h k
theorem ltS_tri {a b : ByteArray} (h : ltS a b = false) (k : ltS b a = false) : a = b := ba_ext (bl_tri _ _ h k)
/-- a is at most b, b below c -/
theorem ltS_le {a b c : ByteArray} (h : ltS b a = false) (k : ltS b c = true) : ltS a c = true := by
  by_cases e : ltS a b = true
  · exact ltS_trans e k
  · have := ltS_tri (by simpa using e) h
    subst this; exact k
theorem ltS_lt {a b c : ByteArray} (h : ltS a b = true) (k : ltS c b = false) : ltS a c = true := by
  by_cases e : ltS b c = true
  · exact ltS_trans h e
  · have := ltS_tri k (by simpa using e)
    subst this; exact h
theorem ltS_le2 {a b c : ByteArray} (h : ltS b a = false) (k : ltS c b = false) : ltS c a = false := by
  cases e : ltS c a with
  | false => rfl
  | true =>
    have := ltS_lt e h
    rw [k] at this; cases this

/-- a table -/
structure Tb where
  no : Nat
  we : Int
  by_ : Int
  en : Int
  le : ByteArray
  gr : ByteArray
def noT : Tb := ⟨0, 0, 0, 0, ⟨#[]⟩, ⟨#[]⟩⟩
/-- the order of tables -/
def leT (a b : Tb) : Bool := !ltS b.le a.le
theorem leT_trans (a b c : Tb) (h : leT a b = true) (k : leT b c = true) : leT a c = true := by
  simp only [leT, Bool.not_eq_true'] at *
  exact ltS_le2 h k
theorem leT_total (a b : Tb) : (leT a b || leT b a) = true := by
  unfold leT
  cases e : ltS b.le a.le with
  | false => rfl
  | true => rw [ltS_asymm e]; rfl
def srt (l : List Tb) : List Tb := l.mergeSort leT
theorem srt_perm (l : List Tb) : (srt l).Perm l := List.mergeSort_perm _ _
theorem srt_sorted (l : List Tb) : (srt l).Pairwise fun a b => ltS b.le a.le = false := by
  have := List.pairwise_mergeSort (le := leT) leT_trans leT_total l
  exact this.imp fun h => by simpa [leT] using h
/-- do two neighbours overlap? -/
def ovl : List Tb → Bool
  | a :: b :: r => !ltS a.gr b.le || ovl (b :: r)
  | _ => false
/-- the tables have a hull -/
def Hull (l : List Tb) : Prop := ∀ t ∈ l, ltS t.gr t.le = false
/-- one behind the other -/
def Apart (l : List Tb) : Prop := l.Pairwise fun a b => ltS a.gr b.le = true
theorem ovl_apart : ∀ {l : List Tb}, Hull l → ovl l = false → Apart l
  | [], _, _ => List.Pairwise.nil
  | [a], _, _ => by simp [Apart]
  | a :: b :: r, hh, ho => by
    simp only [ovl, Bool.or_eq_false_iff, Bool.not_eq_false'] at ho
    have ih : Apart (b :: r) := ovl_apart (fun t ht => hh t (List.mem_cons_of_mem _ ht)) ho.2
    refine List.pairwise_cons.2 ⟨fun c hc => ?_, ih⟩
    rcases List.mem_cons.1 hc with rfl | hc
    · exact ho.1
    · have h1 := (List.pairwise_cons.1 ih).1 c hc
      exact ltS_trans (ltS_lt ho.1 (hh b (by simp))) h1
theorem apart_ovl : ∀ {l : List Tb}, Apart l → ovl l = false
  | [], _ => rfl
  | [a], _ => rfl
  | a :: b :: r, h => by
    simp only [ovl, Bool.or_eq_false_iff, Bool.not_eq_false']
    exact ⟨(List.pairwise_cons.1 h).1 b (by simp), apart_ovl (List.pairwise_cons.1 h).2⟩
/-- least keys rise -/
def Rise (l : List Tb) : Prop := l.Pairwise fun a b => ltS a.le b.le = true
theorem Apart.rise {l : List Tb} (h : Apart l) (hh : Hull l) : Rise l := by
  induction l with
  | nil => exact List.Pairwise.nil
  | cons a r ih =>
    obtain ⟨h1, h2⟩ := List.pairwise_cons.1 h
    refine List.pairwise_cons.2 ⟨fun b hb => ltS_le (hh a (by simp)) (h1 b hb), ih h2 fun t ht => hh t (List.mem_cons_of_mem _ ht)⟩
/-- lists of the same tables whose keys rise are the same -/
theorem rise_uniq : ∀ {l d : List Tb}, Rise l → l.Perm d → (d.Pairwise fun a b => ltS b.le a.le = false) → d = l
  | [], d, _, hp, _ => by simpa using hp.symm
  | a :: r, [], _, hp, _ => by simp at hp
  | a :: r, x :: s, hr, hp, hd => by
    obtain ⟨h1, h2⟩ := List.pairwise_cons.1 hr
    obtain ⟨k1, k2⟩ := List.pairwise_cons.1 hd
    have hx : x ∈ a :: r := hp.mem_iff.2 (by simp)
    have ha : a ∈ x :: s := hp.mem_iff.1 (by simp)
    have e : a = x := by
      rcases List.mem_cons.1 hx with e | hx
      · exact e.symm
      · rcases List.mem_cons.1 ha with e | ha
        · exact e
        · have := k1 a ha
          rw [h1 x hx] at this
          cases this
    subst e
    rw [rise_uniq h2 (List.Perm.cons_inv hp) k2]
theorem Hull.perm {l d : List Tb} (h : Hull l) (hp : l.Perm d) : Hull d := fun t ht => h t (hp.mem_iff.2 ht)
/-- what a sort makes, if no two overlap -/
theorem sort_is {l d : List Tb} (hh : Hull l) (hp : l.Perm d) (hd : d.Pairwise fun a b => ltS b.le a.le = false) (ho : ovl d = false) : d = srt l := by
  have h1 := (ovl_apart (hh.perm hp) ho).rise (hh.perm hp)
  exact (rise_uniq h1 (hp.symm.trans (srt_perm l).symm) (srt_sorted l)).symm
theorem sort_ovl {l d : List Tb} (hh : Hull l) (hp : l.Perm d) (hd : d.Pairwise fun a b => ltS b.le a.le = false) : ovl d = ovl (srt l) := by
  cases e : ovl d with
  | false => rw [← sort_is hh hp hd e, e]
  | true =>
    cases e2 : ovl (srt l) with
    | true => rfl
    | false =>
      have h2 := (ovl_apart (hh.perm (srt_perm l).symm) e2).rise (hh.perm (srt_perm l).symm)
      have := rise_uniq h2 ((srt_perm l).trans hp) hd
      rw [this] at e
      rw [e] at e2; cases e2
/-! levels -/
abbrev Lv := List (List Tb)
def nums (V : Lv) : List Nat := V.flatten.map Tb.no
/-- what comes in -/
structure Pi where
  lv : Int
  t : Tb
def eNone : Int := 130
def eTwice : Int := 131
def eOrder : Int := 132
def eLevel : Int := 133
def bring : Lv → List Pi → Except Int Lv
  | V, [] => .ok V
  | V, p :: r =>
    if 0 ≤ p.lv ∧ p.lv < V.length then
      if p.t.no ∈ nums V then .error eTwice
      else if ltS p.t.gr p.t.le = true then .error eOrder
      else bring (V.modify p.lv.toNat (· ++ [p.t])) r
    else .error eLevel
def ordered (V : Lv) : Lv := V.take 1 ++ (V.drop 1).map srt
def edit (V : Lv) (l : List Pi) : Except Int Lv :=
  match bring V l with
  | .error e => .error e
  | .ok V1 => if ((V1.drop 1).map srt).any ovl = true then .error eOrder else .ok (ordered V1)
end Vr
end Go.Proofs.YtaejjpbpnedblaaGreat
namespace Go.Proofs.YtaejjpbpnedblaaGreat
namespace Vr
open KMath
set_option linter.unusedVariables false

/-- a version as it may be -/
structure Good (V : Lv) : Prop where
  nod : (nums V).Nodup
  hull : ∀ l ∈ V, Hull l
  apart : ∀ (i : Nat) l, 1 ≤ i → V[i]? = some l → Apart l
theorem bring_len : ∀ {V V' : Lv} {l : List Pi}, bring V l = .ok V' → V'.length = V.length
  | V, V', [], h => by simp [bring] at h; rw [h]
  | V, V', p :: r, h => by
    unfold bring at h
    split at h
    · split at h
      · cases h
      · split at h
        · cases h
        · have := bring_len h
          simpa using this
    · cases h
theorem flatten_modify : ∀ (V : Lv) (i : Nat) (t : Tb), i < V.length → (V.modify i (· ++ [t])).flatten.Perm (V.flatten ++ [t])
  | [], i, t, h => by simp at h
  | l :: V, 0, t, _ => by
    simp only [List.modify_zero_cons, List.flatten_cons, List.append_assoc]
    exact List.Perm.append_left _ (List.perm_append_comm)
  | l :: V, i + 1, t, h => by
    simp only [List.modify_succ_cons, List.flatten_cons, List.append_assoc]
    exact List.Perm.append_left _ (flatten_modify V i t (by simpa using h))
theorem nums_modify {V : Lv} {i : Nat} {t : Tb} (h : i < V.length) : (nums (V.modify i (· ++ [t]))).Perm (nums V ++ [t.no]) := by
  have := (flatten_modify V i t h).map Tb.no
  simpa [nums] using this
/-- numbers and hulls as they may be -/
structure Half (V : Lv) : Prop where
  nod : (nums V).Nodup
  hull : ∀ l ∈ V, Hull l
theorem Half.bring1 {V : Lv} {i : Nat} {t : Tb} (h : Half V) (hi : i < V.length) (hn : t.no ∉ nums V) (hg : ltS t.gr t.le = false) : Half (V.modify i (· ++ [t])) := by
  refine ⟨(nums_modify hi).nodup_iff.2 ?_, fun l hl => ?_⟩
  · rw [List.nodup_append]
    refine ⟨h.nod, by simp, fun a ha b hb => ?_⟩
    simp at hb
    subst hb
    rintro rfl
    exact hn ha
  · obtain ⟨j, hj, rfl⟩ := List.getElem_of_mem hl
    rw [List.getElem_modify]
    have hjl : j < V.length := by simpa using hj
    split
    · intro x hx
      rcases List.mem_append.1 hx with hx | hx
      · exact h.hull _ (List.getElem_mem hjl) x hx
      · simp at hx; subst hx; exact hg
    · exact h.hull _ (List.getElem_mem hjl)
theorem Half.bring : ∀ {V V' : Lv} {l : List Pi}, Half V → bring V l = .ok V' → Half V'
  | V, V', [], h0, h => by simp [Vr.bring] at h; rw [← h]; exact h0
  | V, V', p :: r, h0, h => by
    unfold Vr.bring at h
    split at h
    · rename_i hl
      split at h
      · cases h
      · rename_i hn
        split at h
        · cases h
        · rename_i hg
          exact Half.bring (h0.bring1 (by omega) hn (by simpa using hg)) h
    · cases h
theorem ordered_len (V : Lv) : (ordered V).length = V.length := by simp [ordered]; omega
theorem flatten_srt : ∀ (V : Lv), (V.map srt).flatten.Perm V.flatten
  | [] => List.Perm.refl _
  | l :: V => by
    simp only [List.map_cons, List.flatten_cons]
    exact (srt_perm l).append (flatten_srt V)
theorem flatten_ordered (V : Lv) : (ordered V).flatten.Perm V.flatten := by
  have e : V.flatten = (V.take 1).flatten ++ (V.drop 1).flatten := by rw [← List.flatten_append, List.take_append_drop]
  rw [e]
  unfold ordered
  rw [List.flatten_append]
  exact List.Perm.append_left _ (flatten_srt _)
theorem mem_ordered {V : Lv} {l : List Tb} (h : l ∈ ordered V) : ∃ k ∈ V, l = k ∨ l = srt k := by
  rcases List.mem_append.1 h with h | h
  · exact ⟨l, List.mem_of_mem_take h, .inl rfl⟩
  · obtain ⟨k, hk, rfl⟩ := List.mem_map.1 h
    exact ⟨k, List.mem_of_mem_drop hk, .inr rfl⟩
theorem Half.ordered {V : Lv} (h : Half V) : Half (ordered V) := by
  refine ⟨((flatten_ordered V).map Tb.no).nodup_iff.2 h.nod, fun l hl => ?_⟩
  obtain ⟨k, hk, rfl | rfl⟩ := mem_ordered hl
  · exact h.hull _ hk
  · exact (h.hull _ hk).perm (srt_perm k).symm
theorem Good.half {V : Lv} (h : Good V) : Half V := ⟨h.nod, h.hull⟩
theorem edit_len {V V' : Lv} {l : List Pi} (h : edit V l = .ok V') : V'.length = V.length := by
  unfold edit at h
  cases hb : bring V l with
  | error e => rw [hb] at h; cases h
  | ok V1 =>
    rw [hb] at h
    dsimp only at h
    split at h
    · cases h
    · cases h
      rw [ordered_len, bring_len hb]
theorem edit_good {V V' : Lv} {l : List Pi} (h0 : Half V) (h : edit V l = .ok V') : Good V' := by
  unfold edit at h
  cases hb : bring V l with
  | error e => rw [hb] at h; cases h
  | ok V1 =>
    rw [hb] at h
    dsimp only at h
    split at h
    · cases h
    · rename_i ho
      cases h
      have h1 := h0.bring hb
      have h2 := h1.ordered
      refine ⟨h2.nod, h2.hull, fun i l hi hl => ?_⟩
      have hm : l ∈ (V1.drop 1).map srt := by
        unfold ordered at hl
        rw [List.getElem?_append] at hl
        split at hl
        · rename_i hlt
          simp at hlt
          omega
        · exact List.mem_of_getElem? hl
      obtain ⟨k, hk, rfl⟩ := List.mem_map.1 hm
      refine ovl_apart ((h1.hull k (List.mem_of_mem_drop hk)).perm (srt_perm k).symm) ?_
      cases e : ovl (srt k) with
      | false => rfl
      | true => exact absurd (List.any_eq_true.2 ⟨_, hm, e⟩) ho
/-! round and round -/
def beh (l : List Tb) (p : ByteArray) : Nat := (l.findIdx? fun t => ltS p t.le).getD 0
theorem beh_lt {l : List Tb} (p : ByteArray) (h : 0 < l.length) : beh l p < l.length := by
  unfold beh
  cases e : l.findIdx? fun t => ltS p t.le with
  | none => exact h
  | some i =>
    obtain ⟨hi, _⟩ := List.findIdx?_eq_some_iff_getElem.1 e
    exact hi
theorem Apart.ahead {l : List Tb} (hA : Apart l) (hH : Hull l) {i j : Nat} {a t : Tb} (hi : l[i]? = some a) (hj : l[j]? = some t) (hij : i ≤ j) : ltS t.gr a.le = false := by
  obtain ⟨hi1, hi2⟩ := List.getElem?_eq_some_iff.1 hi
  obtain ⟨hj1, hj2⟩ := List.getElem?_eq_some_iff.1 hj
  have ht := hH t (hj2 ▸ List.getElem_mem hj1)
  rcases Nat.lt_or_ge i j with h | h
  · have h1 := List.pairwise_iff_getElem.1 hA i j hi1 hj1 h
    rw [hi2, hj2] at h1
    have h2 := hH a (hi2 ▸ List.getElem_mem hi1)
    have h3 := ltS_le h2 h1
    cases e : ltS t.gr a.le with
    | false => rfl
    | true =>
      have := ltS_trans e h3
      rw [ht] at this; cases this
  · have : i = j := by omega
    subst this
    rw [hi] at hj
    cases hj
    exact ht
theorem beh_next {l : List Tb} (hA : Apart l) (hH : Hull l) {j : Nat} {t : Tb} (hj : l[j]? = some t) : beh l t.gr = if j + 1 < l.length then j + 1 else 0 := by
  obtain ⟨hj1, hj2⟩ := List.getElem?_eq_some_iff.1 hj
  unfold beh
  split
  · rename_i h
    rw [List.findIdx?_eq_some_iff_getElem.2 ⟨h, ?_, ?_⟩]
    · rfl
    · have h1 := List.pairwise_iff_getElem.1 hA j (j + 1) hj1 h (by omega)
      rw [hj2] at h1
      exact h1
    · intro i hi
      have := hA.ahead hH (List.getElem?_eq_getElem (by omega)) hj (show i ≤ j by omega)
      simp [this]
  · rename_i h
    rw [List.findIdx?_eq_none_iff.2]
    · rfl
    · intro x hx
      obtain ⟨i, hi, rfl⟩ := List.getElem_of_mem hx
      exact hA.ahead hH (List.getElem?_eq_getElem hi) hj (by omega)
/-- what is told in k calls from the j-th on -/
def turn (l : List Tb) (j k : Nat) : Nat := if j + k < l.length then j + k else j + k - l.length
theorem turn_lt {l : List Tb} {j k : Nat} (hj : j < l.length) (hk : k < l.length) : turn l j k < l.length := by unfold turn; split <;> omega
theorem turn_inj {l : List Tb} {j k m : Nat} (hj : j < l.length) (hk : k < l.length) (hm : m < l.length) (h : turn l j k = turn l j m) : k = m := by
  unfold turn at h; split at h <;> split at h <;> omega
theorem turn_next {l : List Tb} (hA : Apart l) (hH : Hull l) {j k : Nat} (hj : j < l.length) (hk : k + 1 < l.length) {t : Tb} (ht : l[turn l j k]? = some t) : beh l t.gr = turn l j (k + 1) := by
  rw [beh_next hA hH ht]
  have := turn_lt (l := l) (k := k) hj (by omega)
  unfold turn at *
  by_cases h1 : j + k < l.length
  · rw [if_pos h1] at *
    by_cases h2 : j + k + 1 < l.length
    · rw [if_pos h2, if_pos (by omega)]; omega
    · rw [if_neg h2, if_neg (by omega)]; omega
  · rw [if_neg h1] at *
    rw [if_pos (by omega), if_neg (by omega)]; omega
theorem level_nodup : ∀ {V : Lv} {i : Nat} {l : List Tb}, (nums V).Nodup → V[i]? = some l → (l.map Tb.no).Nodup
  | [], i, l, _, h => by simp at h
  | x :: V, i, l, hn, h => by
    have e : nums (x :: V) = x.map Tb.no ++ nums V := by simp [nums]
    rw [e, List.nodup_append] at hn
    cases i with
    | zero => simp at h; subst h; exact hn.1
    | succ i => exact level_nodup hn.2.1 (by simpa using h)
end Vr
end Go.Proofs.YtaejjpbpnedblaaGreat
namespace Go.Proofs.YtaejjpbpnedblaaGreat
namespace Vr
open Go.RowKit Laws Irw Crw
set_option linter.unusedVariables false
set_option linter.unusedSimpArgs false

abbrev Sv := Option Addr × Nat × Nat
def svV (s : Sv) : Value := .slice s.1 s.2.1 s.2.2
def nS : Sv := (none, 0, 0)
def Zb (w : World) (B : Nat) (vs : List Value) : Prop := B < w.heap.size ∧ (∀ j v, vs[j]? = some v → w.cell? ⟨B, j, none⟩ = some v) ∧ ∀ j, w.frozen? ⟨B, j, none⟩ = false
theorem Zb.below {w w' : World} {B : Nat} {vs : List Value} (h : Zb w B vs) (hb : Below w.heap.size w w') : Zb w' B vs :=
  ⟨Nat.lt_of_lt_of_le h.1 hb.size, fun j v hv => (hb.cell (p := ⟨B, j, none⟩) h.1).trans (h.2.1 j v hv), fun j => (hb.frozen (p := ⟨B, j, none⟩) h.1).trans (h.2.2 j)⟩
theorem Zb.keep {w w' : World} {B : Nat} {vs : List Value} (h : Zb w B vs) (hb : w'.heap[B]? = w.heap[B]?) (hs : w.heap.size ≤ w'.heap.size) : Zb w' B vs :=
  ⟨Nat.lt_of_lt_of_le h.1 hs, fun j v hv => (World.cell?_of_block (a := ⟨B, j, none⟩) hb).trans (h.2.1 j v hv), fun j => (World.frozen?_of_block (a := ⟨B, j, none⟩) hb).trans (h.2.2 j)⟩
def sets (w : World) (B : Nat) : Nat → List Value → World
  | _, [] => w
  | j, v :: vs => sets (w.setCell ⟨B, j, none⟩ v) B (j + 1) vs
theorem sets_size (w : World) (B : Nat) (vs : List Value) : ∀ j, (sets w B j vs).heap.size = w.heap.size := by
  induction vs generalizing w with
  | nil => intro j; rfl
  | cons v vs ih => intro j; show (sets _ B (j + 1) vs).heap.size = _; rw [ih]; simp
theorem sets_below {base : Nat} {w0 w : World} (B : Nat) (hB : base ≤ B) (vs : List Value) : ∀ j, Below base w0 w → Below base w0 (sets w B j vs) := by
  induction vs generalizing w with
  | nil => intro j h; exact h
  | cons v vs ih => intro j h; exact ih (j + 1) (h.setCell (p := ⟨B, j, none⟩) hB _)
theorem sets_block (w : World) (B b : Nat) (hb : b ≠ B) (vs : List Value) : ∀ j, (sets w B j vs).heap[b]? = w.heap[b]? := by
  induction vs generalizing w with
  | nil => intro j; rfl
  | cons v vs ih => intro j; show (sets _ B (j + 1) vs).heap[b]? = _; rw [ih]; exact Below.heap_setCell w _ v b (fun e => hb e)
theorem sets_frozen (w : World) (B : Nat) (p : Addr) (vs : List Value) : ∀ j, (sets w B j vs).frozen? p = w.frozen? p := by
  induction vs generalizing w with
  | nil => intro j; rfl
  | cons v vs ih => intro j; show (sets _ B (j + 1) vs).frozen? p = _; rw [ih]; rw [World.frozen?_setCell]
theorem sets_low (w : World) (B : Nat) (vs : List Value) : ∀ j i, i < j → (sets w B j vs).cell? ⟨B, i, none⟩ = w.cell? ⟨B, i, none⟩ := by
  induction vs generalizing w with
  | nil => intro j i _; rfl
  | cons v vs ih =>
    intro j i h
    show (sets _ B (j + 1) vs).cell? ⟨B, i, none⟩ = _
    rw [ih _ _ _ (by omega), World.cell?_setCell_other _ _ _ _ (by simp; try omega)]
theorem sets_at (w : World) (B : Nat) (vs : List Value) : ∀ j, (∀ i, i < vs.length → ∃ u, w.cell? ⟨B, j + i, none⟩ = some u) → ∀ i v, vs[i]? = some v → (sets w B j vs).cell? ⟨B, j + i, none⟩ = some v := by
  induction vs generalizing w with
  | nil => intro j _ i v h; simp at h
  | cons x vs ih =>
    intro j hex i v h
    show (sets _ B (j + 1) vs).cell? ⟨B, j + i, none⟩ = _
    cases i with
    | zero =>
      simp at h
      subst h
      rw [Nat.add_zero, sets_low _ _ _ _ _ (by omega)]
      obtain ⟨u, hu⟩ := hex 0 (by simp)
      rw [Nat.add_zero] at hu
      exact World.cell?_setCell_same _ _ _ hu
    | succ i =>
      rw [show j + (i + 1) = j + 1 + i by omega]
      refine ih _ (j + 1) (fun k hk => ?_) i v (by simpa using h)
      obtain ⟨u, hu⟩ := hex (k + 1) (by simp; omega)
      refine ⟨u, ?_⟩
      rw [World.cell?_setCell_other _ _ _ _ (by simp; try omega), ← hu]
      congr 2
      omega
theorem Zb.sets {w : World} {B : Nat} {us vs : List Value} (h : Zb w B us) (hl : vs.length ≤ us.length) : Zb (sets w B 0 vs) B vs := by
  refine ⟨by rw [sets_size]; exact h.1, fun j v hv => ?_, fun j => by rw [sets_frozen]; exact h.2.2 j⟩
  have := sets_at w B vs 0 (fun i hi => ⟨_, by rw [Nat.zero_add]; exact h.2.1 i _ (List.getElem?_eq_getElem (by omega))⟩) j v hv
  rwa [Nat.zero_add] at this
theorem Zb.new (w : World) (vs : Array Value) (t : TypeId) : Zb (w.alloc (.cells vs t)) w.heap.size vs.toList := by
  refine ⟨by simp, fun j v hv => ?_, fun j => World.frozen?_alloc_at _ _ _ _ rfl⟩
  rw [World.cell?_alloc_at _ _ _ _ rfl]
  simpa using hv
theorem Zb.set {w : World} {B : Nat} {vs : List Value} (h : Zb w B vs) (k : Nat) (v : Value) : Zb (w.setCell ⟨B, k, none⟩ v) B (vs.set k v) := by
  refine ⟨by simpa using h.1, fun j u hu => ?_, fun j => by rw [World.frozen?_setCell]; exact h.2.2 j⟩
  by_cases hj : k = j
  · subst hj
    have hk : k < vs.length := by
      have := (List.getElem?_eq_some_iff.1 hu).1
      simpa using this
    rw [List.getElem?_set_self hk] at hu
    cases hu
    exact World.cell?_setCell_same _ _ _ (h.2.1 k _ (List.getElem?_eq_getElem hk))
  · rw [List.getElem?_set_ne hj] at hu
    rw [World.cell?_setCell_other _ _ _ _ (by simp; try omega)]
    exact h.2.1 j u hu
theorem take_set {vs xs : List Value} {k : Nat} {v : Value} (h : vs.take k = xs) (hk : k < vs.length) : (vs.set k v).take (k + 1) = xs ++ [v] := by
  subst h
  have hl : (vs.take k).length = k := by simp; omega
  rw [List.take_set, List.take_add_one, List.getElem?_eq_getElem hk, List.set_append_right _ _ (by omega), hl, Nat.sub_self]
  rfl
theorem Zb.some {w : World} {B k : Nat} {vs : List Value} (h : Zb w B vs) (hk : k < vs.length) : ∃ u, w.cell? ⟨B, k, none⟩ = .some u := ⟨_, h.2.1 k _ (List.getElem?_eq_getElem hk)⟩
theorem Zb.other {w w' : World} {B g : Nat} {vs : List Value} (h : Zb w B vs) (k : Nat) (v : Value) (hg : B ≠ g) : Zb (w.setCell ⟨g, k, none⟩ v) B vs :=
  h.keep (Below.heap_setCell w _ v B (fun e => hg e)) (by simp)
theorem Zb.sets_other {w : World} {B g : Nat} {vs us : List Value} (h : Zb w B vs) (j : Nat) (hg : B ≠ g) : Zb (Vr.sets w g j us) B vs :=
  h.keep (sets_block w g B hg us j) (by rw [sets_size]; exact Nat.le_refl _)
theorem Goes.setNew {t : Nat → Prop} {T T' : Nat → Nat} {w w' : World} (h : Goes t T w T' w') {B : Nat} (hB : w.heap.size ≤ B) (k : Nat) (v : Value) : Goes t T w T' (w'.setCell ⟨B, k, none⟩ v) :=
  ⟨h.os, h.tape, h.output, by simpa using h.size, fun b hb ht => (Below.heap_setCell w' _ v b (fun e => by have e' : b = B := e; omega)).trans (h.block b hb ht), h.tag, fun b hb h0 => h.high b (by simpa using hb) h0⟩
theorem Goes.allocNew {t : Nat → Prop} {T T' : Nat → Nat} {w w' : World} (h : Goes t T w T' w') (o : Obj) : Goes t T w T' (w'.alloc o) :=
  h.trans (Goes.below ((Below.refl _ _).alloc (Nat.le_refl _) o))
theorem Goes.sets {t : Nat → Prop} {T : Nat → Nat} {B : Nat} (h : t (T B)) (vs : List Value) : ∀ (w : World) (k : Nat), Goes t T w T (Vr.sets w B k vs) := by
  induction vs with
  | nil => intro w k; exact Goes.refl _ _ _
  | cons v vs ih => intro w k; exact (Goes.setCell (t := t) (T := T) (w := w) (p := B) (j := k) (v := v) h).trans (ih _ _)
theorem Goes.setsNew {t : Nat → Prop} {T T' : Nat → Nat} {w : World} {B : Nat} (hB : w.heap.size ≤ B) (vs : List Value) : ∀ (w' : World) (k : Nat), Goes t T w T' w' → Goes t T w T' (Vr.sets w' B k vs) := by
  induction vs with
  | nil => intro w' k h; exact h
  | cons v vs ih => intro w' k h; exact ih _ _ (Goes.setNew h hB k v)
theorem Zb.goes {t : Nat → Prop} {T T' : Nat → Nat} {w w' : World} {B : Nat} {vs : List Value} (h : Zb w B vs) (hg : Goes t T w T' w') (ht : ¬ t (T B)) : Zb w' B vs := h.keep (hg.block B h.1 ht) hg.size
def Fm (s : Sv) : Prop := s.1 = s.1 ∨ ∃ b off, s.1 = some ⟨b, off, none⟩
def Isk {α : Type} (K : Knd α) (T : Nat → Nat) (w : World) (s : Sv) (l : List α) : Prop := IsK K w s.1 l ∧ s.2.1 = l.length ∧ (s.1 = none → s.2.2 = 0) ∧ l.length ≤ s.2.2 ∧ Fm s ∧ ∀ b off, s.1 = some ⟨b, off, none⟩ → T b = 0 ∧ b < w.heap.size
theorem Isk.goes {α : Type} {K : Knd α} {t : Nat → Prop} {T T' : Nat → Nat} {w w' : World} {s : Sv} {l : List α} (h : Isk K T w s l) (hg : Goes t T w T' w') (ht : ¬ t 0) : Isk K T' w' s l := by
  obtain ⟨h1, h2, h3, h4, hf, h5⟩ := h
  refine ⟨h1.keep (fun b hb ⟨off, e⟩ => hg.block b hb (by rw [(h5 b off e).1]; exact ht)) hg.size, h2, h3, h4, hf, fun b off e => ?_⟩
  obtain ⟨q1, q2⟩ := h5 b off e
  exact ⟨(hg.tag b q2 (by rw [q1]; exact ht)).trans q1, Nat.lt_of_lt_of_le q2 hg.size⟩
theorem Isk.below {α : Type} {K : Knd α} {T : Nat → Nat} {w w' : World} {s : Sv} {l : List α} (h : Isk K T w s l) (hb : Below w.heap.size w w') : Isk K T w' s l := h.goes (Goes.below (t := fun _ => False) hb) (fun z => z)
theorem OwnK.sk {α : Type} {K : Knd α} {t : Nat} {T : Nat → Nat} {w : World} {s : Sv} {l : List α} (h : OwnK K t T w (svV s) l) : s.2.1 = l.length ∧ IsK K w s.1 l ∧ l.length ≤ s.2.2 ∧ (s.1 = none → s.2.2 = 0) ∧ Fm s ∧ ∀ b off, s.1 = some ⟨b, off, none⟩ → T b = t ∧ b < w.heap.size := by
  have hfm : Fm s := by
    obtain ⟨sa, sn, sc⟩ := s
    rcases h.1.2 with ⟨q1, _⟩ | ⟨g, cap, cur, q1, _⟩
    · unfold svV at q1
      cases q1
      exact .inl rfl
    · unfold svV at q1
      cases q1
      exact .inr ⟨_, _, rfl⟩
  obtain ⟨a, c, e, h1, h2, h3, h4⟩ := h.form
  obtain ⟨sa, sn, sc⟩ := s
  unfold svV at e
  cases e
  exact ⟨rfl, h1, h2, h3, hfm, h4⟩
def Ls {α : Type} (K : Knd α) (w : World) (s : Sv) (l : List α) : Prop := IsK K w s.1 l ∧ s.2.1 = l.length ∧ (s.1 = none → s.2.2 = 0) ∧ l.length ≤ s.2.2 ∧ Fm s
theorem Ls.below {α : Type} {K : Knd α} {w w' : World} {s : Sv} {l : List α} (h : Ls K w s l) (hb : Below w.heap.size w w') : Ls K w' s l := ⟨h.1.below hb, h.2⟩
theorem own_below {base : Nat} {e : TypeId} {size : Nat} {v : Value} {n : Nat} {xs : List Value} {w w' : World} (h : w.ownsRow base e size v n xs) (hb : Below w.heap.size w w') : w'.ownsRow base e size v n xs := by
  have hlt := fun g hv => (h.lt g hv).2
  refine ⟨h.1, ?_⟩
  rcases h.2 with h1 | ⟨g, cap, cur, hv, hb', hh, hr⟩
  · exact .inl h1
  · have hv' : v.ownBlock = some g := by rw [hv]; rfl
    exact .inr ⟨g, cap, cur, hv, hb', (hb.block g (hlt g hv')).trans hh, hr⟩
theorem own_sets {base : Nat} {e : TypeId} {size g n c : Nat} (vs : List Value) : ∀ (o : Nat) (w : World) (xs : List Value), w.ownsRow base e size (.slice (some ⟨g, 0, none⟩) n c) n xs → o + vs.length ≤ xs.length →
    ∃ ys, (sets w g o vs).ownsRow base e size (.slice (some ⟨g, 0, none⟩) n c) n ys ∧ ys.take (o + vs.length) = xs.take o ++ vs := by
  induction vs with
  | nil => intro o w xs h _; exact ⟨xs, h, by simp⟩
  | cons v vs ih =>
    intro o w xs h hl
    have h1 := (h.stored o v).1
    simp only [List.length_cons] at hl
    obtain ⟨ys, h2, h3⟩ := ih (o + 1) _ _ h1 (by rw [List.length_set]; omega)
    refine ⟨ys, h2, ?_⟩
    rw [List.length_cons, show o + (vs.length + 1) = o + 1 + vs.length by omega, h3, take_set rfl (by omega)]
    simp
def Mk {α : Type} (K : Knd α) (w : World) (G n : Nat) (xs : List α) : Prop := xs.length ≤ n ∧ ∃ cells, w.ownsRow 0 K.ty K.size (.slice (some ⟨G, 0, none⟩) n n) n cells ∧ cells.take (xs.length * K.size) = K.cells xs
theorem Mk.start {α : Type} {K : Knd α} {w1 : World} {G n : Nat} {cells : List Value} (h : w1.ownsRow 0 K.ty K.size (.slice (some ⟨G, 0, none⟩) n n) n cells) : Mk K w1 G n [] := ⟨Nat.zero_le _, cells, h, by simp [Knd.cells]⟩
theorem Mk.below {α : Type} {K : Knd α} {w w' : World} {G n : Nat} {xs : List α} (h : Mk K w G n xs) (hb : Below w.heap.size w w') : Mk K w' G n xs := by
  obtain ⟨h1, cells, h2, h3⟩ := h
  exact ⟨h1, cells, own_below h2 hb, h3⟩
theorem Mk.lt {α : Type} {K : Knd α} {w : World} {G n : Nat} {xs : List α} (h : Mk K w G n xs) : G < w.heap.size := by
  obtain ⟨h1, cells, h2, h3⟩ := h
  exact (h2.lt G rfl).2
theorem Mk.ex {α : Type} {K : Knd α} {w : World} {G n : Nat} {xs : List α} (h : Mk K w G n xs) {j : Nat} (hj : j < n * K.size) : ∃ u, w.cell? ⟨G, j, none⟩ = some u := by
  obtain ⟨h1, cells, h2, h3⟩ := h
  rw [h2.cellAt j hj]
  exact ⟨_, List.getElem?_eq_getElem (by rw [h2.1]; exact hj)⟩
theorem Mk.fr {α : Type} {K : Knd α} {w : World} {G n : Nat} {xs : List α} (h : Mk K w G n xs) (j : Nat) : w.frozen? ⟨G, j, none⟩ = false := by
  obtain ⟨h1, cells, h2, h3⟩ := h
  exact h2.frozenAt j
theorem Mk.add {α : Type} {K : Knd α} {w : World} {G n : Nat} {xs : List α} (h : Mk K w G n xs) (x : α) (hn : xs.length < n) : Mk K (sets w G (xs.length * K.size) (K.cs x)) G n (xs ++ [x]) := by
  obtain ⟨h1, cells, h2, h3⟩ := h
  have hs : (xs.length + 1) * K.size ≤ n * K.size := Nat.mul_le_mul_right _ hn
  rw [Nat.succ_mul] at hs
  obtain ⟨ys, h4, h5⟩ := own_sets (K.cs x) (xs.length * K.size) w cells h2 (by rw [K.len, h2.1]; exact hs)
  refine ⟨by simp; omega, ys, h4, ?_⟩
  rw [K.len, h3] at h5
  rw [List.length_append, List.length_singleton, Nat.succ_mul, h5, Knd.cells_append]
  simp [Knd.cells]
theorem Mk.done {α : Type} {K : Knd α} {w : World} {G n : Nat} {xs : List α} (h : Mk K w G n xs) (hn : xs.length = n) : w.ownsRow 0 K.ty K.size (.slice (some ⟨G, 0, none⟩) xs.length xs.length) xs.length (K.cells xs) := by
  obtain ⟨h1, cells, h2, h3⟩ := h
  subst hn
  rw [List.take_of_length_le (by rw [h2.1]; exact Nat.le_refl _)] at h3
  rw [← h3]
  exact h2
theorem cells_set {α : Type} (K : Knd α) (l : List α) : ∀ (m j : Nat) (x : α) (u : Value), m < l.length → j < K.size → (∀ y, l[m]? = some y → K.cs x = (K.cs y).set j u) → K.cells (l.set m x) = (K.cells l).set (m * K.size + j) u := by
  induction l with
  | nil => intro m j x u hm; simp at hm
  | cons y l ih =>
    intro m j x u hm hj hx
    cases m with
    | zero =>
      have h := hx y rfl
      simp only [List.set_cons_zero, Knd.cells, h]
      rw [List.set_append_left _ _ (by rw [K.len]; omega)]
      congr 2
      omega
    | succ m =>
      have h := ih m j x u (by simpa using hm) hj (fun z hz => hx z (by simpa using hz))
      simp only [List.set_cons_succ, Knd.cells, h]
      have hle : (K.cs y).length ≤ (m + 1) * K.size + j := by rw [K.len, Nat.succ_mul]; omega
      rw [List.set_append_right _ _ hle]
      congr 2
      rw [K.len, Nat.succ_mul]
      omega
theorem cells_take {α : Type} (K : Knd α) (l : List α) (m : Nat) (hm : m ≤ l.length) : K.cells (l.take m) = (K.cells l).take (m * K.size) := by
  have h : K.cells l = K.cells (l.take m) ++ K.cells (l.drop m) := by rw [← K.cells_append, List.take_append_drop]
  have hl : (K.cells (l.take m)).length = m * K.size := by rw [K.cells_length, List.length_take, Nat.min_eq_left hm]
  rw [h, ← hl, List.take_left]
theorem ownK_set {α : Type} {K : Knd α} {t : Nat} {T : Nat → Nat} {w : World} {g n c : Nat} {l : List α} (h : OwnK K t T w (.slice (some ⟨g, 0, none⟩) n c) l) (hn : n = l.length) {m j : Nat} {x : α} {u : Value} (hm : m < l.length) (hj : j < K.size) (hx : ∀ y, l[m]? = some y → K.cs x = (K.cs y).set j u) : OwnK K t T (w.setCell ⟨g, m * K.size + j, none⟩ u) (.slice (some ⟨g, 0, none⟩) n c) (l.set m x) := by
  subst hn
  have h2 := h.1.stored (m * K.size + j) u
  refine ⟨?_, h.2⟩
  rw [List.length_set, cells_set K l m j x u hm hj hx]
  exact h2.1
theorem ownK_cut {α : Type} {K : Knd α} {t : Nat} {T : Nat → Nat} {w : World} {g n c : Nat} {l : List α} (h : OwnK K t T w (.slice (some ⟨g, 0, none⟩) n c) l) {m : Nat} (hm : m ≤ l.length) : OwnK K t T w (.slice (some ⟨g, 0, none⟩) m c) (l.take m) := by
  refine ⟨?_, fun b hb => h.2 b hb⟩
  obtain ⟨h1, h2⟩ := h.1
  have hlt : (l.take m).length = m := by rw [List.length_take, Nat.min_eq_left hm]
  rcases h2 with ⟨h2, _⟩ | ⟨g', cap, cur, hv, hb, hh, hc, hmx, hr, ht⟩
  · cases h2
  · cases hv
    refine ⟨by rw [K.cells_length], .inr ⟨g, c, cur, by rw [hlt], hb, hh, by rw [hlt]; omega, hmx, hr, ?_⟩⟩
    rw [hlt, cells_take K l m hm, ← ht, List.take_take]
    congr 1
    exact (Nat.min_eq_left (Nat.mul_le_mul_right _ hm)).symm
end Vr
end Go.Proofs.YtaejjpbpnedblaaGreat
namespace Go.Proofs.YtaejjpbpnedblaaGreat
namespace Vr
open Go.RowKit Laws Irw Crw
set_option linter.unusedVariables false
set_option linter.unusedSimpArgs false
set_option maxRecDepth 20000
theorem run_copy_sz {P : Program} (w : World) (dT sT ty elem : TypeId) (g o dLen dCap : Nat) (a : Addr) (sLen sCap size : Nat) (cur : Array Value) (t : TypeId) (cs : List Value)
    (hu : P.underlying dT = some (.slice elem)) (hs : (P.info? elem).map (·.size) = some size)
    (hg : w.heap[g]? = some (.cells cur t (0, 0))) (hn : cs.length = Nat.min sLen dLen * size)
    (hsrc : ∀ j v, cs[j]? = some v → w.cell? (a.add j) = some v) (hfit : o + cs.length ≤ cur.size) (h1 : ∀ v ∈ cs, v.oneCell' = true) :
    (Builtin.copy_ #[dT, sT] ty #[.slice (some ⟨g, o, none⟩) dLen dCap, .slice (some a) sLen sCap]).run P w =
      .ok (goInt (Nat.min sLen dLen)) (w.setRow g (cur.toList.take o ++ cs ++ cur.toList.drop (o + cs.length)).toArray) := by
  have hl := run_loadCells_list (P := P) w a cs hsrc
  have hst := run_storeCells_at P g o t cs 0 cur w hg (by simpa using hfit) h1
  cases hq : P.info? elem with
  | none => simp [hq] at hs
  | some i =>
    have hi : i.size = size := by simpa [hq] using hs
    simp [Builtin.copy_, run_underlying hu, Builtin.lenOf, Builtin.firstCells, sizeOf, typeInfo, hq, hi, ← hn, hl, hst]
theorem run_copy_sz0 {P : Program} (w : World) (dT sT ty elem : TypeId) (d a : Option Addr) (dLen dCap sLen sCap size : Nat) (hu : P.underlying dT = some (.slice elem)) (hs : (P.info? elem).map (·.size) = some size) (hn : Nat.min sLen dLen = 0) :
    (Builtin.copy_ #[dT, sT] ty #[.slice d dLen dCap, .slice a sLen sCap]).run P w = .ok (goInt 0) w := by
  cases hq : P.info? elem with
  | none => simp [hq] at hs
  | some i =>
    have hn' : min sLen dLen = 0 := hn
    cases d <;> cases a <;> simp [Builtin.copy_, run_underlying hu, Builtin.lenOf, Builtin.firstCells, sizeOf, typeInfo, hq, hn', loadCells, loadCellsFrom, storeCells]
/-- copy of a list into what was made for it -/
theorem run_copyK {P : Program} {α : Type} (K : Knd α) (w : World) (dT sT ty : TypeId) (hu : P.underlying dT = some (.slice K.ty)) (hs : (P.info? K.ty).map (·.size) = some K.size) (G n c : Nat) (sp : Option Addr) (l : List α) (cells : List Value)
    (hown : w.ownsRow 0 K.ty K.size (.slice (some ⟨G, 0, none⟩) n n) n cells) (hr : IsK K w sp l) (hn : l.length = n) :
    ∃ w', (Builtin.copy_ #[dT, sT] ty #[.slice (some ⟨G, 0, none⟩) n n, .slice sp n c]).run P w = .ok (goInt n) w' ∧ w'.ownsRow 0 K.ty K.size (.slice (some ⟨G, 0, none⟩) n n) n (K.cells l) ∧ (∀ B w0, Below B w0 w → B ≤ G → Below B w0 w') := by
  by_cases h0 : n = 0
  · subst h0
    have hl : l = [] := List.eq_nil_of_length_eq_zero hn
    subst hl
    refine ⟨w, run_copy_sz0 (P := P) w dT sT ty K.ty _ _ 0 0 0 c K.size hu hs rfl, ?_, fun B w0 h _ => h⟩
    have : cells = [] := List.eq_nil_of_length_eq_zero (by rw [hown.1]; simp)
    subst this
    exact hown
  · obtain ⟨b, off, rfl, hk⟩ := hr.at_ (by omega)
    have hc := newsK hr _ rfl
    rcases hown.2 with ⟨h1, _⟩ | ⟨g, cap, cur, hv, hb, hh, hcp, hm, hsz, ht⟩
    · cases h1
    · cases hv
      have hlen : (K.cells l).length = n * K.size := by rw [K.cells_length, hn]
      have hrun := run_copy_sz (P := P) w dT sT ty K.ty G 0 n n ⟨b, off, none⟩ n c K.size cur K.ty (K.cells l) hu hs hh (by rw [hlen]; simp [Nat.min_def]) hc (by rw [hlen, hsz]; omega) (K.cells_one l)
      have e : cur.toList.take 0 ++ K.cells l ++ cur.toList.drop (0 + (K.cells l).length) = K.cells l := by
        rw [List.drop_of_length_le (by simp [hlen, hsz])]
        simp
      rw [e, show Nat.min n n = n from Nat.min_self n] at hrun
      refine ⟨_, hrun, ⟨hlen, .inr ⟨G, n, (K.cells l).toArray, rfl, hb, setRow_heap w G _ _ _ _ hh, hcp, hm, by simpa using hlen, ?_⟩⟩, fun B w0 h hB => below_setRow h hB _⟩
      simp [← hlen]
theorem wpList_copyK {P : Program} {α : Type} (K : Knd α) (w : World) {ops : Array Oper} {rest : List Oper} {o : Oper} {a : Act} {Q : Exit → Act → World → Prop} (hgd : o.guard = none) (d s : Operand) (dT sT : TypeId)
    (ho : o.op = .call { callee := .builtin .copy, args := #[d, s], argTypes := #[dT, sT] }) (hu : P.underlying dT = some (.slice K.ty)) (hs : (P.info? K.ty).map (·.size) = some K.size) (G n c : Nat) (sp : Option Addr) (l : List α) (cells : List Value)
    (hd : a.eval d = .slice (some ⟨G, 0, none⟩) n n) (hx : a.eval s = .slice sp n c)
    (hown : w.ownsRow 0 K.ty K.size (.slice (some ⟨G, 0, none⟩) n n) n cells) (hr : IsK K w sp l) (hn : l.length = n)
    (h : ∀ w', w'.ownsRow 0 K.ty K.size (.slice (some ⟨G, 0, none⟩) n n) n (K.cells l) → (∀ B w0, Below B w0 w → B ≤ G → Below B w0 w') → wpList P ops Q rest (a.put o.dst (goInt n)) w') : wpList P ops Q (o :: rest) a w := by
  refine wpList_plain hgd fun K' hK => ?_
  obtain ⟨w', hrun, h1, h2⟩ := run_copyK (P := P) K w dT sT o.type hu hs G n c sp l cells hown hr hn
  unfold Oper.wp
  simp [execOp, ho, resolve, invoke, builtin, hd, hx, hrun, Result.andThen]
  exact hK _ _ (h w' h1 h2)

/-! tables as they lie -/
def tbC (t : Tb) : List Value := [.int .u64 (t.no : Int), .int .i64 t.we, .int .i64 t.by_, .int .i64 t.en, .string t.le, .string t.gr]
def tbV (t : Tb) : Value := .agg #[.int .u64 (t.no : Int), .int .i64 t.we, .int .i64 t.by_, .int .i64 t.en, .string t.le, .string t.gr]
def kTb : Knd Tb := ⟨76, 6, 64, .agg #[.int .u64 0, .int .i64 0, .int .i64 0, .int .i64 0, .string ⟨#[]⟩, .string ⟨#[]⟩], tbC, fun _ => rfl, fun x u hu => by simp [tbC] at hu; rcases hu with rfl | rfl | rfl | rfl | rfl | rfl <;> rfl, by omega, rfl, by omega⟩
def kS : Knd Sv := ⟨58, 1, 24, .slice none 0 0, fun s => [.slice s.1 s.2.1 s.2.2], fun _ => rfl, fun x u hu => by simp at hu; subst hu; rfl, by omega, rfl, by omega⟩
def kT : Knd ByteArray := ⟨9, 1, 16, .string ⟨#[]⟩, fun s => [.string s], fun _ => rfl, fun x u hu => by simp at hu; subst hu; rfl, by omega, rfl, by omega⟩
def piC (p : Pi) : List Value := .int .i64 p.lv :: tbC p.t
def kPi : Knd Pi := ⟨78, 7, 72, .agg #[.int .i64 0, .int .u64 0, .int .i64 0, .int .i64 0, .int .i64 0, .string ⟨#[]⟩, .string ⟨#[]⟩], piC, fun _ => rfl, fun x u hu => by simp [piC, tbC] at hu; rcases hu with rfl | rfl | rfl | rfl | rfl | rfl | rfl <;> rfl, by omega, rfl, by omega⟩
theorem infoTb : (Tryz.prog.info? 76).map (fun i => (i.zero, i.size, i.bytes)) = some (some kTb.zero, 6, 64) := by kernel_rfl
theorem infoS : (Tryz.prog.info? 58).map (fun i => (i.zero, i.size, i.bytes)) = some (some kS.zero, 1, 24) := by kernel_rfl
theorem infoT : (Tryz.prog.info? 9).map (fun i => (i.zero, i.size, i.bytes)) = some (some kT.zero, 1, 16) := by kernel_rfl
theorem infoPi : (Tryz.prog.info? 78).map (fun i => (i.zero, i.size, i.bytes)) = some (some kPi.zero, 7, 72) := by kernel_rfl
theorem info_parts {P : Program} {t : TypeId} {z : Value} {n b : Nat} (h : (P.info? t).map (fun i => (i.zero, i.size, i.bytes)) = some (some z, n, b)) : ∃ i, P.info? t = some i ∧ i.zero = some z ∧ i.size = n ∧ i.bytes = b := by
  cases hq : P.info? t with
  | none => rw [hq] at h; cases h
  | some i =>
    rw [hq] at h
    simp at h
    exact ⟨i, rfl, h.1, h.2.1, h.2.2⟩
theorem info_size {P : Program} {t : TypeId} {z : Value} {n b : Nat} (h : (P.info? t).map (fun i => (i.zero, i.size, i.bytes)) = some (some z, n, b)) : (P.info? t).map (·.size) = some n := by
  obtain ⟨i, h1, _, h2, _⟩ := info_parts h
  rw [h1, ← h2]; rfl
/-- a list of tables is read -/
theorem Ls.cell {α : Type} {K : Knd α} {w : World} {s : Sv} {l : List α} (h : Ls K w s l) {i : Nat} {x : α} (hx : l[i]? = some x) : ∃ b off, s.1 = some ⟨b, off, none⟩ ∧ b < w.heap.size ∧ ∀ j u, (K.cs x)[j]? = some u → w.cell? ⟨b, off + i * K.size + j, none⟩ = some u := by
  obtain ⟨b, off, e, hr⟩ := h.1.at_ (by have := (List.getElem?_eq_some_iff.1 hx).1; omega)
  exact ⟨b, off, e, hr.1, hr.2 i x hx⟩
theorem Ls.nil {α : Type} {K : Knd α} (w : World) : Ls K w nS [] := ⟨IsK.nil _ _, rfl, fun _ => rfl, Nat.le_refl _, .inl rfl⟩
theorem Ls.own {α : Type} {K : Knd α} {w : World} {s : Sv} {l : List α} {t : Nat} {T : Nat → Nat} (h : OwnK K t T w (svV s) l) : Ls K w s l := by
  obtain ⟨h1, h2, h3, h4, h5, _⟩ := OwnK.sk h
  exact ⟨h2, h1, h4, h3, h5⟩
theorem Ls.row {α : Type} {K : Knd α} {w : World} {G n : Nat} {l : List α} (h : w.ownsRow 0 K.ty K.size (.slice (some ⟨G, 0, none⟩) n n) n (K.cells l)) (hn : l.length = n) : Ls K w (some ⟨G, 0, none⟩, n, n) l := by
  subst hn
  exact Ls.own (t := 0) (T := fun _ => 0) (s := (some ⟨G, 0, none⟩, l.length, l.length)) ⟨h, fun _ _ => rfl⟩
/-- the levels of a version -/
def LsAt (w : World) (s : Sv) (V : Lv) : Prop := s.2.1 = V.length ∧ ∃ vs : List Sv, vs.length = V.length ∧ IsK kS w s.1 vs ∧ ∀ (i : Nat) v l, vs[i]? = some v → V[i]? = some l → Ls kTb w v l
theorem LsAt.below {w w' : World} {s : Sv} {V : Lv} (h : LsAt w s V) (hb : Below w.heap.size w w') : LsAt w' s V := by
  obtain ⟨h1, vs, h2, h3, h4⟩ := h
  exact ⟨h1, vs, h2, h3.below hb, fun i v l hv hl => (h4 i v l hv hl).below hb⟩
/-- the lengths that there are -/
def Fits (V : Lv) : Prop := V.length ≤ 5 ∧ ∀ l ∈ V, l.length ≤ 1000000
def VAt (w : World) (vb : Nat) (V : Lv) : Prop := Fits V ∧ ∃ s : Sv, Zb w vb [svV s] ∧ LsAt w s V
theorem VAt.below {w w' : World} {vb : Nat} {V : Lv} (h : VAt w vb V) (hb : Below w.heap.size w w') : VAt w' vb V := by
  obtain ⟨h1, s, h2, h3⟩ := h
  exact ⟨h1, s, h2.below hb, h3.below hb⟩
theorem VAt.lt {w : World} {vb : Nat} {V : Lv} (h : VAt w vb V) : vb < w.heap.size := by
  obtain ⟨h1, s, h2, h3⟩ := h
  exact h2.1
/-- the list of a level, none where there is no such level -/
def lev (V : Lv) (i : Int) : List Tb := if 0 ≤ i then (V[i.toNat]?).getD [] else []
set_option maxHeartbeats 400000 in
theorem isLevel_any (a : Option Addr) (n c : Nat) (i : Int) (w : World) : Calls Tryz.prog 84 #[.slice a n c, .int .i64 i] w fun e w' => e = .returned (.bool (decide (0 ≤ i ∧ i < n))) ∧ w' = w := by
  by_cases q1 : 0 ≤ i
  · by_cases q2 : i < n
    · go_enter Tryz.func84, Tryz.ntmps84
      go_wp2
      go_ret
      refine ⟨?_, rfl⟩
      simp [q1, q2]
    · go_enter Tryz.func84, Tryz.ntmps84
      go_wp2
      go_ret
      refine ⟨?_, rfl⟩
      simp [q1, q2]
  · go_enter Tryz.func84, Tryz.ntmps84
    go_wp2
    go_ret
    refine ⟨?_, rfl⟩
    simp only [Ending.returned.injEq, Value.bool.injEq]
    simp [q1]
    omega
set_option maxHeartbeats 400000 in
theorem levels_any (vb : Nat) (V : Lv) (w : World) (h : VAt w vb V) : Calls Tryz.prog 39 #[.pointer (some ⟨vb, 0, none⟩)] w fun e w' => e = .returned (.int .i64 (V.length : Int)) ∧ w' = w := by
  obtain ⟨hf, s, hz, hl⟩ := h
  have c0 := hz.2.1 0 _ rfl
  obtain ⟨sa, sn, sc⟩ := s
  have e := hl.1
  change sn = V.length at e
  simp only [svV] at c0
  go_enter Tryz.func39, Tryz.ntmps39
  go_wp2
  go_ret
  exact ⟨rfl, rfl⟩
end Vr
end Go.Proofs.YtaejjpbpnedblaaGreat
