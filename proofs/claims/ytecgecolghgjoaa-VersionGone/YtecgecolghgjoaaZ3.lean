import Derived.Test.YtecgecolghgjoaaZw
namespace Go.Proofs.Ytecgecolghgjoaa
namespace Vr
open Go.Shelf Go.RowKit Go.Lib Go.Sort Go.Maps Go.ChangeMaps Go.MapKept Laws Irw Crw
set_option linter.unusedVariables false
set_option linter.unusedSimpArgs false
set_option maxRecDepth 20000
/-! which numbers stand behind an edit -/
theorem bring_perm : ∀ {V V' : Lv} {l : List Pi}, bring V l = .ok V' → (nums V').Perm (nums V ++ l.map fun p => p.t.no)
  | V, V', [], h => by simp [bring] at h; subst h; simp
  | V, V', p :: r, h => by
    rw [bring_cons] at h
    split at h
    · rename_i h1
      split at h
      · cases h
      · split at h
        · cases h
        · have ih := bring_perm h
          refine ih.trans ?_
          have hm : p.lv.toNat < V.length := by omega
          have := (nums_modify (V := V) (i := p.lv.toNat) (t := p.t) hm).append_right (r.map fun p => p.t.no)
          simpa using this
    · cases h
theorem edit_mem {V V' : Lv} {l : List Pi} (h : edit V l = .ok V') (x : Nat) : x ∈ nums V' ↔ x ∈ nums V ∨ ∃ p ∈ l, p.t.no = x := by
  unfold edit at h
  cases hb : bring V l with
  | error e => rw [hb] at h; cases h
  | ok V1 =>
    rw [hb] at h
    dsimp only at h
    split at h
    · cases h
    · cases h
      have e1 : x ∈ nums (ordered V1) ↔ x ∈ nums V1 := ((flatten_ordered V1).map Tb.no).mem_iff
      rw [e1, (bring_perm hb).mem_iff, List.mem_append, List.mem_map]
theorem edit2_mem {V V' : Lv} {O : List Pc} {l : List Pi} (h : edit2 V O l = .ok V') : (∀ x, x ∈ nums V' → x ∈ nums V ∨ ∃ p ∈ l, p.t.no = x) ∧ ∀ p ∈ l, p.t.no ∈ nums V' := by
  unfold edit2 at h
  cases ht : takes V.length (prs V 0) O with
  | error e => rw [ht] at h; cases h
  | ok Q =>
    rw [ht] at h
    dsimp only at h
    refine ⟨fun x hx => ?_, fun p hp => (edit_mem h _).2 (.inr ⟨p, hp, rfl⟩)⟩
    rcases (edit_mem h x).1 hx with h1 | h1
    · rw [stay_nums] at h1
      exact .inl (List.mem_filter.1 h1).1
    · exact .inr h1
/-! what gone tells -/
theorem mem_gl {ns l : List Nat} {y : Int} : y ∈ gl ns l ↔ ∃ x : Nat, y = (x : Int) ∧ x ∈ l ∧ x ∉ ns := by
  unfold gl
  rw [List.mem_map]
  constructor
  · rintro ⟨x, hx, rfl⟩
    obtain ⟨h1, h2⟩ := List.mem_filter.1 hx
    exact ⟨x, rfl, h1, List.count_eq_zero.1 (by simpa using h2)⟩
  · rintro ⟨x, rfl, h1, h2⟩
    exact ⟨x, List.mem_filter.2 ⟨h1, by simpa using List.count_eq_zero.2 h2⟩, rfl⟩
theorem gl_nodup {ns l : List Nat} (h : l.Nodup) : (gl ns l).Nodup := by
  unfold gl
  refine List.Pairwise.map _ (fun a b hab e => hab (by exact Int.ofNat_inj.1 e)) ((List.filter_sublist (p := fun x => decide (ns.count x = 0))).nodup h)
theorem sorted_lt {l : List Int} (h : l.Nodup) : (l.mergeSort fun x y => decide (x ≤ y)).Pairwise (· < ·) := by
  have h1 : (l.mergeSort fun x y => decide (x ≤ y)).Pairwise (fun a b => decide (a ≤ b) = true) := List.pairwise_mergeSort (fun a b c h1 h2 => by simp at h1 h2 ⊢; omega) (fun a b => by simp; omega) l
  have h2 : (l.mergeSort fun x y => decide (x ≤ y)).Nodup := (List.mergeSort_perm l _).nodup_iff.2 h
  exact (h1.and h2).imp fun {a b} hab => by
    obtain ⟨q1, q2⟩ := hab
    simp at q1
    omega
theorem mem_gone {cb vb : Nat} {Vc V : Lv} {P : List Pn} {y : Int} (h : y ∈ goneL cb Vc P vb V) : ∃ x : Nat, y = (x : Int) ∧ x ∈ nums V ∧ x ∉ allN Vc P := by
  unfold goneL at h
  split at h
  · cases h
  · rw [(List.mergeSort_perm _ _).mem_iff] at h
    exact mem_gl.1 h
theorem gone_rise {cb vb : Nat} {Vc V : Lv} {P : List Pn} (h : (nums V).Nodup) : (goneL cb Vc P vb V).Pairwise (· < ·) := by
  unfold goneL
  split
  · exact List.Pairwise.nil
  · exact sorted_lt (gl_nodup h)
theorem gone_full {cb vb : Nat} {Vc V : Lv} {P : List Pn} (h : ¬ (vb = cb ∨ 0 ≤ idp (some ⟨vb, 0, none⟩) P)) {x : Nat} (hx : x ∈ nums V) (hn : x ∉ allN Vc P) : (x : Int) ∈ goneL cb Vc P vb V := by
  unfold goneL
  rw [if_neg h, (List.mergeSort_perm _ _).mem_iff]
  exact mem_gl.2 ⟨x, rfl, hx, hn⟩
theorem gone_len (cb vb : Nat) (Vc V : Lv) (P : List Pn) : (goneL cb Vc P vb V).length ≤ (nums V).length := by
  unfold goneL
  split
  · exact Nat.zero_le _
  · rw [List.length_mergeSort]
    exact gl_len _ _
theorem mem_allN {V : Lv} {P : List Pn} {x : Nat} : x ∈ allN V P ↔ x ∈ nums V ∨ ∃ p ∈ P, x ∈ nums p.V := by
  unfold allN
  rw [List.mem_append, List.mem_flatMap]
/-! which numbers came in, and which were told -/
structure Bk (I G : List Int) (A : List Nat) : Prop where
  inn : ∀ x ∈ A, ((x : Nat) : Int) ∈ I
  iff : ∀ x : Nat, (x : Int) ∈ I → (x ∈ A ↔ (x : Int) ∉ G)
  nat : ∀ y ∈ I, ∃ x : Nat, y = (x : Int)
/-- what is told when a version goes: those of its numbers that nobody has -/
theorem Bk.tell {I G l : List Int} {A A' : List Nat} {V : Lv} (h : Bk I G A) (hsub : ∀ x ∈ A', x ∈ A) (hV : ∀ x ∈ nums V, x ∈ A) (hl : ∀ y ∈ l, ∃ x : Nat, y = (x : Int) ∧ x ∈ nums V ∧ x ∉ A') (hfull : ∀ x ∈ A, x ∉ A' → (x : Int) ∈ l) :
    (∀ y ∈ l, y ∉ G ∧ y ∈ I) ∧ Bk I (G ++ l) A' := by
  have h1 : ∀ y ∈ l, y ∉ G ∧ y ∈ I := fun y hy => by
    obtain ⟨x, rfl, hx, hn⟩ := hl y hy
    have hI := h.inn x (hV x hx)
    exact ⟨(h.iff x hI).1 (hV x hx), hI⟩
  refine ⟨h1, fun x hx => h.inn x (hsub x hx), fun x hx => ?_, h.nat⟩
  rw [List.mem_append]
  constructor
  · rintro hA (hG | hL)
    · exact (h.iff x hx).1 (hsub x hA) hG
    · obtain ⟨x', e, _, hn⟩ := hl _ hL
      have : x = x' := Int.ofNat_inj.1 e
      subst this
      exact hn hA
  · intro hn
    have hA : x ∈ A := (h.iff x hx).2 fun hG => hn (.inl hG)
    apply Classical.byContradiction
    intro hA'
    exact hn (.inr (hfull x hA hA'))
/-- nothing is told where the same numbers stand -/
theorem Bk.same {I G : List Int} {A A' : List Nat} (h : Bk I G A) (he : ∀ x, x ∈ A' ↔ x ∈ A) : Bk I G A' :=
  ⟨fun x hx => h.inn x ((he x).1 hx), fun x hx => (he x).trans (h.iff x hx), h.nat⟩
/-- the numbers of an edit come in -/
theorem Bk.come {I I' G : List Int} {A A' : List Nat} {V : Lv} {l : List Pi} (h : Bk I G A) (hI : ∀ y, y ∈ I' ↔ y ∈ I ∨ ∃ p ∈ l, ((p.t.no : Nat) : Int) = y) (hG : ∀ p ∈ l, ((p.t.no : Nat) : Int) ∉ G) (hA : ∀ x, x ∈ A' ↔ x ∈ A ∨ ∃ p ∈ l, p.t.no = x) : Bk I' G A' := by
  refine ⟨fun x hx => ?_, fun x hx => ?_, fun y hy => ?_⟩
  · rcases (hA x).1 hx with h1 | ⟨p, hp, rfl⟩
    · exact (hI _).2 (.inl (h.inn x h1))
    · exact (hI _).2 (.inr ⟨p, hp, rfl⟩)
  · rw [hA]
    constructor
    · rintro (h1 | ⟨p, hp, rfl⟩)
      · exact (h.iff x (h.inn x h1)).1 h1
      · exact hG p hp
    · intro hn
      rcases (hI _).1 hx with h1 | ⟨p, hp, e⟩
      · exact .inl ((h.iff x h1).2 hn)
      · exact .inr ⟨p, hp, Int.ofNat_inj.1 e⟩
  · rcases (hI y).1 hy with h1 | ⟨p, hp, rfl⟩
    · exact h.nat y h1
    · exact ⟨_, rfl⟩
/-! the pins: the program's and the statement's -/
structure Pk (cb : Nat) (V : Lv) (P : List Pn) (B : List Nat) : Prop where
  cnt : ∀ p ∈ P, ((B.count p.vb : Nat) : Int) = p.ti
  pos : ∀ p ∈ P, 1 ≤ p.ti
  has : ∀ b ∈ B, ∃ p ∈ P, p.vb = b
  nod : (P.map Pn.vb).Nodup
  cur : ∀ p ∈ P, p.vb = cb → p.V = V
theorem Pk.first (cb : Nat) (V : Lv) : Pk cb V [] [] := ⟨by simp, by simp, by simp, by simp, by simp⟩
theorem Pk.uniq {cb : Nat} {V : Lv} {P : List Pn} {B : List Nat} (h : Pk cb V P B) {p q : Pn} (hp : p ∈ P) (hq : q ∈ P) (e : p.vb = q.vb) : p = q := by
  have := h.nod
  rw [List.Nodup, List.pairwise_map] at this
  obtain ⟨i, hi, rfl⟩ := List.getElem_of_mem hp
  obtain ⟨j, hj, rfl⟩ := List.getElem_of_mem hq
  rcases Nat.lt_trichotomy i j with hh | hh | hh
  · exact absurd e (List.pairwise_iff_getElem.1 this i j hi hj hh)
  · subst hh; rfl
  · exact absurd e.symm (List.pairwise_iff_getElem.1 this j i hj hi hh)
/-- another version becomes the current one -/
theorem Pk.next {cb cb' : Nat} {V V' : Lv} {P : List Pn} {B : List Nat} (h : Pk cb V P B) (hne : ∀ p ∈ P, p.vb ≠ cb') : Pk cb' V' P B :=
  ⟨h.cnt, h.pos, h.has, h.nod, fun p hp e => absurd e (hne p hp)⟩
theorem find_isV {cb : Nat} {P : List Pn} : (P.findIdx? (isV (some ⟨cb, 0, none⟩)) = none ↔ ∀ p ∈ P, p.vb ≠ cb) := by
  rw [List.findIdx?_eq_none_iff]
  constructor
  · intro h p hp e
    have := h p hp
    simp [isV, e] at this
  · intro h p hp
    simp [isV, h p hp]
/-- one pin more of the current version -/
theorem Pk.pin {cb : Nat} {V : Lv} {P : List Pn} {B : List Nat} (h : Pk cb V P B) : Pk cb V (pinL cb V P) (B ++ [cb]) ∧ (pinL cb V P).length ≤ P.length + 1 ∧ ∀ x, x ∈ allN V (pinL cb V P) ↔ x ∈ allN V P := by
  unfold pinL
  cases hf : P.findIdx? (isV (some ⟨cb, 0, none⟩)) with
  | none =>
    have hne := find_isV.1 hf
    have h0 : B.count cb = 0 := List.count_eq_zero.2 fun hb => by
      obtain ⟨p, hp, e⟩ := h.has cb hb
      exact hne p hp e
    refine ⟨⟨fun p hp => ?_, fun p hp => ?_, fun b hb => ?_, ?_, fun p hp e => ?_⟩, by simp, fun x => ?_⟩
    · rcases List.mem_append.1 hp with hp | hp
      · rw [List.count_append, List.count_singleton, if_neg (by simpa using fun e => hne p hp e.symm)]
        exact h.cnt p hp
      · simp at hp; subst hp
        simp [List.count_append, h0]
    · rcases List.mem_append.1 hp with hp | hp
      · exact h.pos p hp
      · simp at hp; subst hp; exact Int.le_refl _
    · rcases List.mem_append.1 hb with hb | hb
      · obtain ⟨p, hp, e⟩ := h.has b hb
        exact ⟨p, List.mem_append_left _ hp, e⟩
      · simp at hb
        exact ⟨⟨cb, 1, V⟩, List.mem_append_right _ (by simp), hb.symm⟩
    · rw [List.map_append, List.nodup_append]
      refine ⟨h.nod, by simp, fun a ha b hb => ?_⟩
      simp at hb; subst hb
      obtain ⟨p, hp, rfl⟩ := List.mem_map.1 ha
      exact hne p hp
    · rcases List.mem_append.1 hp with hp | hp
      · exact h.cur p hp e
      · simp at hp; subst hp; rfl
    · rw [mem_allN, mem_allN]
      constructor
      · rintro (h1 | ⟨p, hp, hx⟩)
        · exact .inl h1
        · rcases List.mem_append.1 hp with hp | hp
          · exact .inr ⟨p, hp, hx⟩
          · simp at hp; subst hp; exact .inl hx
      · rintro (h1 | ⟨p, hp, hx⟩)
        · exact .inl h1
        · exact .inr ⟨p, List.mem_append_left _ hp, hx⟩
  | some i =>
    obtain ⟨_, hi, p0, hp0, e0⟩ := idp_some hf
    have e1 : p0.vb = cb := by simpa using e0.symm
    dsimp only
    have hget : ∀ j q, (P.modify i (more 1))[j]? = some q → ∃ p, P[j]? = some p ∧ q = if i = j then more 1 p else p := fun j q hq => by
      rw [List.getElem?_modify] at hq
      obtain ⟨p, hp, rfl⟩ := Option.map_eq_some_iff.1 hq
      exact ⟨p, hp, by split <;> rfl⟩
    have hvb : ((P.modify i (more 1)).map Pn.vb) = P.map Pn.vb := by
      apply List.ext_getElem?
      intro j
      rw [List.getElem?_map, List.getElem?_map, List.getElem?_modify]
      cases P[j]? with
      | none => rfl
      | some p => simp only [Option.map_some]; split <;> rfl
    refine ⟨⟨fun q hq => ?_, fun q hq => ?_, fun b hb => ?_, by rw [hvb]; exact h.nod, fun q hq e => ?_⟩, by simp, fun x => ?_⟩
    · obtain ⟨j, hj⟩ := List.mem_iff_getElem?.1 hq
      obtain ⟨p, hp, rfl⟩ := hget j q hj
      by_cases hij : i = j
      · subst hij
        rw [hp0] at hp
        cases hp
        have := h.cnt p0 (List.mem_of_getElem? hp0)
        rw [if_pos rfl]
        show ((List.count p0.vb (B ++ [cb]) : Nat) : Int) = p0.ti + 1
        rw [List.count_append, e1, List.count_singleton_self]
        rw [e1] at this
        omega
      · rw [if_neg hij]
        have hne : p.vb ≠ cb := fun e => by
          have := h.uniq (List.mem_of_getElem? hp) (List.mem_of_getElem? hp0) (e.trans e1.symm)
          subst this
          have hn := h.nod
          rw [List.Nodup, List.pairwise_map] at hn
          obtain ⟨q1, q2⟩ := List.getElem?_eq_some_iff.1 hp
          obtain ⟨q3, q4⟩ := List.getElem?_eq_some_iff.1 hp0
          rcases Nat.lt_or_gt_of_ne hij with hh | hh
          · exact List.pairwise_iff_getElem.1 hn i j q3 q1 hh (by rw [q2, q4])
          · exact List.pairwise_iff_getElem.1 hn j i q1 q3 hh (by rw [q2, q4])
        rw [List.count_append, List.count_singleton, if_neg (by simpa using fun e => hne e.symm)]
        exact h.cnt p (List.mem_of_getElem? hp)
    · obtain ⟨j, hj⟩ := List.mem_iff_getElem?.1 hq
      obtain ⟨p, hp, rfl⟩ := hget j q hj
      have := h.pos p (List.mem_of_getElem? hp)
      split
      · show 1 ≤ p.ti + 1; omega
      · exact this
    · have hb' : b ∈ P.map Pn.vb := by
        rcases List.mem_append.1 hb with hb | hb
        · obtain ⟨p, hp, e⟩ := h.has b hb
          exact List.mem_map.2 ⟨p, hp, e⟩
        · simp at hb; subst hb
          exact List.mem_map.2 ⟨p0, List.mem_of_getElem? hp0, e1⟩
      rw [← hvb] at hb'
      obtain ⟨p, hp, e⟩ := List.mem_map.1 hb'
      exact ⟨p, hp, e⟩
    · obtain ⟨p, hp, q1, q2⟩ := mem_modify hq
      rw [q2]
      exact h.cur p hp (q1.symm.trans e)
    · rw [mem_allN, mem_allN]
      have : (∃ p ∈ P.modify i (more 1), x ∈ nums p.V) ↔ ∃ p ∈ P, x ∈ nums p.V := by
        constructor
        · rintro ⟨q, hq, hx⟩
          obtain ⟨p, hp, _, q2⟩ := mem_modify hq
          exact ⟨p, hp, by rw [← q2]; exact hx⟩
        · rintro ⟨p, hp, hx⟩
          obtain ⟨j, hj⟩ := List.mem_iff_getElem?.1 hp
          refine ⟨if i = j then more 1 p else p, List.mem_iff_getElem?.2 ⟨j, by rw [List.getElem?_modify, hj]; by_cases e : i = j <;> simp [e]⟩, ?_⟩
          split
          · exact hx
          · exact hx
      rw [this]
end Vr
end Go.Proofs.Ytecgecolghgjoaa
namespace Go.Proofs.Ytecgecolghgjoaa
namespace Vr
open Go.Shelf Go.RowKit Go.Lib Go.Sort Go.Maps Go.ChangeMaps Go.MapKept Laws Irw Crw
set_option linter.unusedVariables false
set_option linter.unusedSimpArgs false
set_option maxRecDepth 20000
theorem vb_modify (P : List Pn) (i : Nat) (d : Int) : (P.modify i (more d)).map Pn.vb = P.map Pn.vb := by
  apply List.ext_getElem?
  intro j
  rw [List.getElem?_map, List.getElem?_map, List.getElem?_modify]
  cases P[j]? with
  | none => rfl
  | some p => by_cases e : i = j <;> simp [e, more]
theorem allN_modify (V : Lv) (P : List Pn) (i : Nat) (d : Int) (x : Nat) : x ∈ allN V (P.modify i (more d)) ↔ x ∈ allN V P := by
  rw [mem_allN, mem_allN]
  have : (∃ p ∈ P.modify i (more d), x ∈ nums p.V) ↔ ∃ p ∈ P, x ∈ nums p.V := by
    constructor
    · rintro ⟨q, hq, hx⟩
      obtain ⟨p, hp, _, q2⟩ := mem_modify hq
      exact ⟨p, hp, by rw [← q2]; exact hx⟩
    · rintro ⟨p, hp, hx⟩
      obtain ⟨j, hj⟩ := List.mem_iff_getElem?.1 hp
      refine ⟨if i = j then more d p else p, List.mem_iff_getElem?.2 ⟨j, by rw [List.getElem?_modify, hj]; by_cases e : i = j <;> simp [e]⟩, ?_⟩
      split
      · exact hx
      · exact hx
  rw [this]
theorem idp_pin {b : Nat} {P : List Pn} : 0 ≤ idp (some ⟨b, 0, none⟩) P ↔ ∃ p ∈ P, p.vb = b := by
  unfold idp
  cases hf : P.findIdx? (isV (some ⟨b, 0, none⟩)) with
  | none =>
    have := find_isV.1 hf
    constructor
    · intro h; exact absurd h (by decide)
    · rintro ⟨p, hp, e⟩; exact absurd e (this p hp)
  | some i =>
    obtain ⟨_, _, p, hp, e⟩ := idp_some hf
    constructor
    · intro _; exact ⟨p, List.mem_of_getElem? hp, by simpa using e.symm⟩
    · intro _; exact Int.natCast_nonneg i
theorem count_eraseIdx {B : List Nat} {n b : Nat} (hn : B[n]? = some b) (c : Nat) : (B.eraseIdx n).count c = B.count c - (if b = c then 1 else 0) := by
  obtain ⟨h1, h2⟩ := List.getElem?_eq_some_iff.1 hn
  have hp : B.Perm (b :: B.eraseIdx n) := by
    have e0 : B = B.take n ++ b :: B.drop (n + 1) := by rw [← h2, ← List.drop_eq_getElem_cons h1, List.take_append_drop]
    rw [List.eraseIdx_eq_take_drop_succ]
    exact (List.Perm.of_eq e0).trans List.perm_middle
  rw [hp.count_eq c, List.count_cons]
  by_cases e : b = c <;> simp [e]
/-- one pin less -/
theorem Pk.unpin {cb : Nat} {V : Lv} {P : List Pn} {B : List Nat} {n b : Nat} (h : Pk cb V P B) (hn : B[n]? = some b) :
    Pk cb V (unpL (some ⟨b, 0, none⟩) P) (B.eraseIdx n) ∧
    (∀ I G, Bk I G (allN V P) → (∀ y ∈ unpR (some ⟨b, 0, none⟩) cb V P, y ∉ G ∧ y ∈ I) ∧ Bk I (G ++ unpR (some ⟨b, 0, none⟩) cb V P) (allN V (unpL (some ⟨b, 0, none⟩) P))) ∧
    ((∀ p ∈ P, (nums p.V).Nodup ∧ (nums p.V).length ≤ 2457600) → (unpR (some ⟨b, 0, none⟩) cb V P).Pairwise (· < ·) ∧ (unpR (some ⟨b, 0, none⟩) cb V P).length ≤ 2457600) := by
  obtain ⟨p, hp, hpb⟩ := h.has b (List.mem_of_getElem? hn)
  cases hf : P.findIdx? (isV (some ⟨b, 0, none⟩)) with
  | none => exact absurd hpb (find_isV.1 hf p hp)
  | some i =>
    obtain ⟨_, hi, p0, hp0, e0⟩ := idp_some hf
    have e1 : p0.vb = b := by simpa using e0.symm
    have hpp : p = p0 := h.uniq hp (List.mem_of_getElem? hp0) (hpb.trans e1.symm)
    subst hpp
    have eL : unpL (some ⟨b, 0, none⟩) P = if p.ti = 1 then P.eraseIdx i else P.modify i (more (-1)) := by unfold unpL; rw [hf]; dsimp only; rw [hp0]
    have eR : unpR (some ⟨b, 0, none⟩) cb V P = goneL cb V (unpL (some ⟨b, 0, none⟩) P) b p.V := by unfold unpR; rw [hf]; dsimp only; rw [hp0]; dsimp only; rw [e1]
    have hcp := h.cnt p hp
    have hpp1 := h.pos p hp
    rw [e1] at hcp
    have hnd := h.nod
    rw [List.Nodup, List.pairwise_map] at hnd
    have hothers : ∀ j q, P[j]? = some q → i ≠ j → q.vb ≠ b := fun j q hq hij e => by
      obtain ⟨q1, q2⟩ := List.getElem?_eq_some_iff.1 hq
      obtain ⟨q3, q4⟩ := List.getElem?_eq_some_iff.1 hp0
      rcases Nat.lt_or_gt_of_ne hij with hh | hh
      · exact List.pairwise_iff_getElem.1 hnd i j q3 q1 hh (by rw [q2, q4, e, e1])
      · exact List.pairwise_iff_getElem.1 hnd j i q1 q3 hh (by rw [q2, q4, e, e1])
    refine ⟨?_, ?_, fun hg => by rw [eR]; exact ⟨gone_rise (hg p hp).1, Nat.le_trans (gone_len _ _ _ _ _) (hg p hp).2⟩⟩
    · rw [eL]
      by_cases ht : p.ti = 1
      · rw [if_pos ht]
        have hmem : ∀ q ∈ P.eraseIdx i, q ∈ P ∧ q.vb ≠ b := fun q hq => by
          refine ⟨List.mem_of_mem_eraseIdx hq, ?_⟩
          obtain ⟨j, hj⟩ := List.mem_iff_getElem?.1 hq
          rw [List.getElem?_eraseIdx] at hj
          split at hj
          · exact hothers j q hj (by omega)
          · exact hothers (j + 1) q hj (by omega)
        have hin : ∀ q ∈ P, q.vb ≠ b → q ∈ P.eraseIdx i := fun q hq hne => by
          obtain ⟨j, hj⟩ := List.mem_iff_getElem?.1 hq
          have hij : j ≠ i := fun e => by subst e; rw [hp0] at hj; cases hj; exact hne e1
          rcases Nat.lt_or_gt_of_ne hij with hh | hh
          · exact List.mem_iff_getElem?.2 ⟨j, by rw [List.getElem?_eraseIdx, if_pos hh]; exact hj⟩
          · exact List.mem_iff_getElem?.2 ⟨j - 1, by rw [List.getElem?_eraseIdx, if_neg (by omega), show j - 1 + 1 = j by omega]; exact hj⟩
        refine ⟨fun q hq => ?_, fun q hq => h.pos q (hmem q hq).1, fun c hc => ?_, ?_, fun q hq => h.cur q (hmem q hq).1⟩
        · rw [count_eraseIdx hn, if_neg (fun e => (hmem q hq).2 e.symm), Nat.sub_zero]
          exact h.cnt q (hmem q hq).1
        · obtain ⟨q, hq, e⟩ := h.has c (List.mem_of_mem_eraseIdx hc)
          refine ⟨q, hin q hq fun e2 => ?_, e⟩
          have hc1 : 0 < (B.eraseIdx n).count c := List.count_pos_iff.2 hc
          rw [count_eraseIdx hn, if_pos (e2.symm.trans e), ← e, e2] at hc1
          omega
        · exact ((List.eraseIdx_sublist P i).map Pn.vb).nodup h.nod
      · rw [if_neg ht]
        refine ⟨fun q hq => ?_, fun q hq => ?_, fun c hc => ?_, by rw [vb_modify]; exact h.nod, fun q hq e => ?_⟩
        · obtain ⟨j, hj⟩ := List.mem_iff_getElem?.1 hq
          rw [List.getElem?_modify] at hj
          obtain ⟨q', hq', rfl⟩ := Option.map_eq_some_iff.1 hj
          by_cases hij : i = j
          · subst hij
            rw [hp0] at hq'
            cases hq'
            simp only [if_true]
            show (((B.eraseIdx n).count p.vb : Nat) : Int) = p.ti + (-1)
            rw [e1, count_eraseIdx hn, if_pos rfl]
            omega
          · simp only [if_neg hij, id]
            rw [count_eraseIdx hn, if_neg (fun e => hothers j q' hq' hij e.symm), Nat.sub_zero]
            exact h.cnt q' (List.mem_of_getElem? hq')
        · obtain ⟨j, hj⟩ := List.mem_iff_getElem?.1 hq
          rw [List.getElem?_modify] at hj
          obtain ⟨q', hq', rfl⟩ := Option.map_eq_some_iff.1 hj
          by_cases hij : i = j
          · subst hij
            rw [hp0] at hq'
            cases hq'
            simp only [if_true]
            show 1 ≤ p.ti + (-1)
            omega
          · simp only [if_neg hij, id]
            exact h.pos q' (List.mem_of_getElem? hq')
        · obtain ⟨q, hq, e⟩ := h.has c (List.mem_of_mem_eraseIdx hc)
          have : c ∈ (P.modify i (more (-1))).map Pn.vb := by
            rw [vb_modify]
            exact List.mem_map.2 ⟨q, hq, e⟩
          obtain ⟨q', hq', e'⟩ := List.mem_map.1 this
          exact ⟨q', hq', e'⟩
        · obtain ⟨q', hq', q1, q2⟩ := mem_modify hq
          rw [q2]
          exact h.cur q' hq' (q1.symm.trans e)
    · intro I G hB
      rw [eR]
      by_cases hk : b = cb ∨ 0 ≤ idp (some ⟨b, 0, none⟩) (unpL (some ⟨b, 0, none⟩) P)
      · have e9 : goneL cb V (unpL (some ⟨b, 0, none⟩) P) b p.V = [] := by unfold goneL; rw [if_pos hk]
        rw [e9, List.append_nil]
        refine ⟨fun y hy => (by cases hy), hB.same fun x => ?_⟩
        rw [eL]
        by_cases ht : p.ti = 1
        · rw [if_pos ht, mem_allN, mem_allN]
          constructor
          · rintro (h1 | ⟨q, hq, hx⟩)
            · exact .inl h1
            · exact .inr ⟨q, List.mem_of_mem_eraseIdx hq, hx⟩
          · rintro (h1 | ⟨q, hq, hx⟩)
            · exact .inl h1
            · by_cases hqb : q.vb = b
              · rw [eL, if_pos ht] at hk
                rcases hk with hk | hk
                · exact .inl (by rw [← h.cur q hq (hqb.trans hk)]; exact hx)
                · obtain ⟨q', hq', e'⟩ := idp_pin.1 hk
                  obtain ⟨j, hj⟩ := List.mem_iff_getElem?.1 hq'
                  rw [List.getElem?_eraseIdx] at hj
                  split at hj
                  · exact absurd e' (hothers j q' hj (by omega))
                  · exact absurd e' (hothers (j + 1) q' hj (by omega))
              · obtain ⟨j, hj⟩ := List.mem_iff_getElem?.1 hq
                have hij : j ≠ i := fun e => by subst e; rw [hp0] at hj; cases hj; exact hqb e1
                refine .inr ⟨q, ?_, hx⟩
                rcases Nat.lt_or_gt_of_ne hij with hh | hh
                · exact List.mem_iff_getElem?.2 ⟨j, by rw [List.getElem?_eraseIdx, if_pos hh]; exact hj⟩
                · exact List.mem_iff_getElem?.2 ⟨j - 1, by rw [List.getElem?_eraseIdx, if_neg (by omega), show j - 1 + 1 = j by omega]; exact hj⟩
        · rw [if_neg ht]
          exact allN_modify V P i (-1) x
      · refine hB.tell (V := p.V) (fun x hx => ?_) (fun x hx => mem_allN.2 (.inr ⟨p, hp, hx⟩)) (fun y hy => mem_gone hy) (fun x hA hA' => ?_)
        · rcases mem_allN.1 hx with h1 | ⟨q, hq, hx⟩
          · exact mem_allN.2 (.inl h1)
          · obtain ⟨q', hq', _, q2⟩ := mem_unpL hq
            exact mem_allN.2 (.inr ⟨q', hq', by rw [← q2]; exact hx⟩)
        · have hxp : x ∈ nums p.V := by
            rcases mem_allN.1 hA with h1 | ⟨q, hq, hx⟩
            · exact absurd (mem_allN.2 (.inl h1)) hA'
            · by_cases hqp : q = p
              · rw [← hqp]; exact hx
              · exfalso
                apply hA'
                rw [eL]
                by_cases ht : p.ti = 1
                · rw [if_pos ht]
                  obtain ⟨j, hj⟩ := List.mem_iff_getElem?.1 hq
                  have hij : j ≠ i := fun e => by subst e; rw [hp0] at hj; cases hj; exact hqp rfl
                  refine mem_allN.2 (.inr ⟨q, ?_, hx⟩)
                  rcases Nat.lt_or_gt_of_ne hij with hh | hh
                  · exact List.mem_iff_getElem?.2 ⟨j, by rw [List.getElem?_eraseIdx, if_pos hh]; exact hj⟩
                  · exact List.mem_iff_getElem?.2 ⟨j - 1, by rw [List.getElem?_eraseIdx, if_neg (by omega), show j - 1 + 1 = j by omega]; exact hj⟩
                · rw [if_neg ht]
                  exact (allN_modify V P i (-1) x).2 hA
          exact gone_full hk hxp hA'
/-- an Apply that was taken: the numbers of the edit come in, then what is gone is told -/
theorem Pk.apply {cb cb' : Nat} {V V' : Lv} {P : List Pn} {B : List Nat} {O : List Pc} {l : List Pi} {I I' G : List Int} (h : Pk cb V P B) (hne : cb ≠ cb') (he : edit2 V O l = .ok V') (hB : Bk I G (allN V P)) (hI : ∀ y, y ∈ I' ↔ y ∈ I ∨ ∃ p ∈ l, ((p.t.no : Nat) : Int) = y) (hG : ∀ p ∈ l, ((p.t.no : Nat) : Int) ∉ G) :
    (∀ y ∈ goneL cb' V' P cb V, y ∉ G ∧ y ∈ I') ∧ Bk I' (G ++ goneL cb' V' P cb V) (allN V' P) := by
  obtain ⟨m1, m2⟩ := edit2_mem he
  have hB2 : Bk I' G (allN V P ++ l.map fun p => p.t.no) := hB.come (A' := allN V P ++ l.map fun p => p.t.no) (V := V) hI hG fun x => by rw [List.mem_append, List.mem_map]
  refine hB2.tell (V := V) (fun x hx => ?_) (fun x hx => List.mem_append_left _ (mem_allN.2 (.inl hx))) (fun y hy => mem_gone hy) (fun x hA hA' => ?_)
  · rcases mem_allN.1 hx with h1 | h1
    · rcases m1 x h1 with h2 | ⟨p, hp, rfl⟩
      · exact List.mem_append_left _ (mem_allN.2 (.inl h2))
      · exact List.mem_append_right _ (List.mem_map.2 ⟨p, hp, rfl⟩)
    · exact List.mem_append_left _ (mem_allN.2 (.inr h1))
  · rcases List.mem_append.1 hA with h1 | h1
    · rcases mem_allN.1 h1 with h2 | h2
      · refine gone_full ?_ h2 hA'
        rintro (h3 | h3)
        · exact hne h3
        · obtain ⟨p, hp, e⟩ := idp_pin.1 h3
          exact hA' (mem_allN.2 (.inr ⟨p, hp, by rw [h.cur p hp e]; exact h2⟩))
      · exact absurd (mem_allN.2 (.inr h2)) hA'
    · obtain ⟨p, hp, rfl⟩ := List.mem_map.1 h1
      exact absurd (mem_allN.2 (.inl (m2 p hp))) hA'
end Vr
end Go.Proofs.Ytecgecolghgjoaa
namespace Go.Proofs.Ytecgecolghgjoaa
namespace Vr
open Go.Shelf Go.RowKit Go.Lib Go.Sort Go.Maps Go.ChangeMaps Go.MapKept Laws Irw Crw
set_option linter.unusedVariables false
set_option linter.unusedSimpArgs false
set_option maxRecDepth 20000
def kV : Knd Nat := ⟨31, 1, 8, .pointer none, fun b => [.pointer (some ⟨b, 0, none⟩)], fun _ => rfl, fun x u hu => by simp at hu; subst hu; rfl, by omega, rfl, by omega⟩
theorem infoV : (Try.prog.info? 31).map (fun i => (i.zero, i.size, i.bytes)) = some (some kV.zero, 1, 8) := by kernel_rfl
theorem Ls.u {w : World} {a : Option Addr} {n c : Nat} {l : List Int} (h : Ls kU w (a, n, c) l) {i : Nat} {x : Int} (hi : l[i]? = some x) : ∃ b off, a = some ⟨b, off, none⟩ ∧ b < w.heap.size ∧ w.cell? ⟨b, off + i, none⟩ = some (.int .u64 x) := by
  obtain ⟨b, off, e, hb, hc⟩ := h.cell hi
  refine ⟨b, off, e, hb, ?_⟩
  have := hc 0 _ rfl
  rw [show off + i * kU.size + 0 = off + i by show off + i * 1 + 0 = off + i; omega] at this
  exact this
theorem Ls.v {w : World} {a : Option Addr} {n c : Nat} {l : List Nat} (h : Ls kV w (a, n, c) l) {i : Nat} {x : Nat} (hi : l[i]? = some x) : ∃ b off, a = some ⟨b, off, none⟩ ∧ b < w.heap.size ∧ w.cell? ⟨b, off + i, none⟩ = some (.pointer (some ⟨x, 0, none⟩)) := by
  obtain ⟨b, off, e, hb, hc⟩ := h.cell hi
  refine ⟨b, off, e, hb, ?_⟩
  have := hc 0 _ rfl
  rw [show off + i * kV.size + 0 = off + i by show off + i * 1 + 0 = off + i; omega] at this
  exact this
set_option maxHeartbeats 1000000 in
theorem inside_any (a : Option Addr) (c m : Nat) (l : List Int) (n : Int) (w : World) (h : Ls kU w (a, m, c) l) (hlen : l.length ≤ 2000000000) :
    Calls Try.prog 11 #[.slice a m c, .int .u64 n] w fun e w' => e = .returned (.bool (decide (n ∈ l))) ∧ w' = w := by
  have hm := h.2.1
  change m = l.length at hm
  have HL : Hid (Ls kU w (a, l.length, c) l) := by rw [← hm]; exact h
  subst hm
  clear h
  go_enter Try.func11, Try.ntmps11
  go_wp2
  go_loopw [5] (fun i wr => ∃ k : Nat, k ≤ l.length ∧ i = .int .i64 (k : Int) ∧ wr = w ∧ Hid (n ∉ l.take k)) (fun i _ => l.length - (intOf i).toNat)
  case atStart => exact ⟨0, Nat.zero_le _, rfl, rfl, (by simp : n ∉ l.take 0)⟩
  case round =>
    obtain ⟨k, hk, rfl, rfl, HX⟩ := hrel
    by_cases hlt : k < l.length
    · obtain ⟨x, hx⟩ : ∃ x, l[k]? = some x := ⟨_, List.getElem?_eq_getElem hlt⟩
      obtain ⟨b, off, rfl, hb, y0⟩ := HL.out.u hx
      have q1 : (k : Int) < (l.length : Int) := by omega
      have HF : Hid (l.take (k + 1) = l.take k ++ [x] ∧ x ∈ l) := ⟨by rw [List.take_add_one, hx]; simp, List.mem_of_getElem? hx⟩
      clear hx
      by_cases he : x = n
      · have HD : Hid (decide (n ∈ l) = true) := by
          show _ = _
          rw [decide_eq_true_eq, ← he]
          exact HF.out.2
        go_wp2
        go_ret
        exact ⟨by rw [HD.out]; rfl, rfl⟩
      · go_wp2
        go_roundw
        case rel =>
          refine ⟨k + 1, by omega, by go_num, trivial, ?_⟩
          show n ∉ _
          rw [HF.out.1]
          simp only [List.mem_append, List.mem_singleton, not_or]
          exact ⟨HX.out, fun e => he e.symm⟩
        case measure => simp [intOf]; omega
    · have q1 : ¬ (k : Int) < (l.length : Int) := by omega
      have HD : Hid (decide (n ∈ l) = false) := by
        show _ = _
        have := HX.out
        rw [List.take_of_length_le (by omega)] at this
        exact decide_eq_false this
      go_wp2
      go_ret
      exact ⟨by rw [HD.out]; rfl, rfl⟩
set_option maxHeartbeats 2000000 in
theorem has_any (vb : Nat) (V : Lv) (n : Nat) (w : World) (hv : VAt w vb V) :
    Calls Try.prog 29 #[.pointer (some ⟨vb, 0, none⟩), .int .u64 (n : Int)] w fun e w' => e = .returned (.bool (decide (n ∈ nums V))) ∧ RowKit.Below w.heap.size w w' := by
  have HV : Hid (VAt w vb V) := hv
  have hv5 := hv.1.1
  clear hv
  go_enter Try.func29, Try.ntmps29
  go_wp2_with fail
  go_loopw [5] (fun vi wr => ∃ i : Nat, i ≤ V.length ∧ vi = .int .i64 (i : Int) ∧ Hid (RowKit.Below w.heap.size w wr ∧ n ∉ nums (V.take i))) (fun vi _ => V.length - (intOf vi).toNat)
  case atStart => exact ⟨0, Nat.zero_le _, rfl, Below.refl _ _, by simp [nums]⟩
  case round =>
    obtain ⟨i, hi, rfl, HB⟩ := hrel
    rename World => wr
    have HLv : Hid (Calls Try.prog 23 #[.pointer (some ⟨vb, 0, none⟩)] wr fun e w' => e = .returned (.int .i64 (V.length : Int)) ∧ w' = wr) := levels_any vb V wr (HV.out.below HB.out.1)
    by_cases hlt : i < V.length
    · have q1 : (i : Int) < (V.length : Int) := by omega
      obtain ⟨l, hl⟩ : ∃ l, V[i]? = some l := ⟨_, List.getElem?_eq_getElem hlt⟩
      have hll : l.length ≤ 3000000 := HV.out.1.2 l (List.mem_of_getElem? hl)
      have HT : Hid (Calls Try.prog 30 #[.pointer (some ⟨vb, 0, none⟩), .int .i64 (i : Int)] wr fun e w' => NewIs wr l e w') := by
        have := tables_any vb V (i : Int) wr (HV.out.below HB.out.1)
        rw [lev_in hl] at this
        exact this
      have HVI : Hid (V[i]? = some l) := hl
      clear hl
      go_upto_region 5 with (first
        | (go_at_call 23; go_loud (refine HLv.out.mono ?_; rintro e w1 ⟨rfl, hw⟩; have hw := hw.symm; subst hw))
        | (go_at_call 30; go_loud (refine HT.out.mono ?_; rintro e w2 ⟨_, rfl, ⟨G, rfl, hG, hrow⟩, hb2⟩; have HS : Hid (Ls kTb w2 (some ⟨G, 0, none⟩, l.length, l.length) l ∧ RowKit.Below w.heap.size w w2) := ⟨Ls.row hrow rfl, HB.out.1.trans (hb2.mono HB.out.1.size)⟩; clear hrow hb2 hG; simp only [svV])))
      clear HLv HT
      go_wp2_with fail
      go_loopw [7] (fun v7 wr => ∃ k : Nat, k ≤ l.length ∧ v7 = .int .i64 (k : Int) ∧ wr = w2 ∧ Hid (n ∉ (l.take k).map Tb.no)) (fun vk _ => l.length - (intOf vk).toNat)
      case atStart => exact ⟨0, Nat.zero_le _, rfl, rfl, (by simp : n ∉ (l.take 0).map Tb.no)⟩
      case round =>
        obtain ⟨k, hk, rfl, rfl, HX⟩ := hrel
        by_cases hlk : k < l.length
        · have q2 : (k : Int) < (l.length : Int) := by omega
          obtain ⟨b, off, e1, hb, t, ht, y0, y1, y2, y3, y4, y5⟩ := HS.out.1.tb hlk
          cases e1
          rw [Nat.zero_add] at y0
          have HF : Hid ((l.take (k + 1)).map Tb.no = (l.take k).map Tb.no ++ [t.no] ∧ t ∈ l) := ⟨by rw [List.take_add_one, ht]; simp, List.mem_of_getElem? ht⟩
          clear ht y1 y2 y3 y4 y5
          by_cases he : t.no = n
          · have q3 : (t.no : Int) = (n : Int) := by omega
            have HD : Hid (decide (n ∈ nums V) = true) := by
              show _ = _
              rw [decide_eq_true_eq, ← he]
              exact mem_nums (List.mem_of_getElem? HVI.out) HF.out.2
            clear he
            go_wp2_with fail
            go_ret
            exact ⟨by rw [HD.out]; rfl, HS.out.2⟩
          · have q3 : ¬ (t.no : Int) = (n : Int) := by omega
            go_wp2_with fail
            go_roundw
            case rel =>
              refine ⟨k + 1, by omega, by go_num, trivial, ?_⟩
              show n ∉ _
              rw [HF.out.1]
              simp only [List.mem_append, List.mem_singleton, not_or]
              exact ⟨HX.out, fun e => he e.symm⟩
            case measure => simp [intOf]; omega
        · have q2 : ¬ (k : Int) < (l.length : Int) := by omega
          have HN : Hid (n ∉ nums (V.take (i + 1))) := by
            show n ∉ _
            have := HX.out
            rw [List.take_of_length_le (by omega)] at this
            rw [nums_take HVI.out, List.mem_append, not_or]
            exact ⟨HB.out.2, this⟩
          go_wp2_with fail
          go_roundw
          case rel => exact ⟨i + 1, by omega, by go_num, HS.out.2, HN.out⟩
          case measure => simp [intOf]; omega
    · have q1 : ¬ (i : Int) < (V.length : Int) := by omega
      have HD : Hid (decide (n ∈ nums V) = false) := by
        show _ = _
        have := HB.out.2
        rw [List.take_of_length_le (by omega)] at this
        exact decide_eq_false this
      go_wp2_with (go_at_call 23; go_loud (refine HLv.out.mono ?_; rintro e w1 ⟨rfl, hw⟩; have hw := hw.symm; subst hw))
      go_ret
      exact ⟨by rw [HD.out]; rfl, HB.out.1⟩
end Vr
end Go.Proofs.Ytecgecolghgjoaa
