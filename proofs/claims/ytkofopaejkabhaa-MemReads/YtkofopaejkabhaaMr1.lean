import Derived.Test.YtkofopaejkabhaaMs1
namespace Go.Proofs.Ytkofopaejkabhaa
namespace Mem
open Go.RowKit Laws Irw Erw KMath Skm Byt Sk Grp
set_option linter.unusedVariables false
set_option maxRecDepth 100000
set_option linter.unusedSimpArgs false

def qk (k : ByteArray) (s : Int) (e : En) : Bool := decide (e.1 = k) && decide (e.2.1 ≤ s)
/-- the last of a key -/
def lastE (k : ByteArray) (s : Int) (l : List En) : Option En := (l.filter (qk k s)).getLast?
theorem lastE_snoc (k : ByteArray) (s : Int) (l : List En) (e : En) : lastE k s (l ++ [e]) = if e.1 = k ∧ e.2.1 ≤ s then some e else lastE k s l := by
  unfold lastE
  rw [List.filter_append, List.filter_cons, List.filter_nil]
  by_cases h : e.1 = k ∧ e.2.1 ≤ s
  · have : qk k s e = true := by simp [qk, h.1, h.2]
    rw [if_pos h, this]
    simp
  · have : qk k s e = false := by
      unfold qk
      rw [Bool.and_eq_false_iff, decide_eq_false_iff_not, decide_eq_false_iff_not]
      by_cases h1 : e.1 = k
      · exact .inr fun h2 => h ⟨h1, h2⟩
      · exact .inl h1
    rw [if_neg h, this]
    simp
/-- what is told last is what stands first -/
theorem gk_last {f : Nat} {gs : List (List Chk.Wr)} (hb : Bs gs) (hf : f ≤ 1000) {es : List En} (hp : es.Perm (fwd f gs gs.length)) (hs : es.Pairwise ltE) (k : ByteArray) (s : Int) : gk k s es = lastE k s (fwd f gs gs.length) := by
  have h1 : (fwd f gs gs.length).Pairwise (fun a b => a.2.1 < b.2.1) := by
    have h2 : ((fwd f gs gs.length).map (fun e => e.2.1)).Pairwise (fun a b : Int => a < b) := by
      rw [fwd_seq hb hf _ (Nat.le_refl _), List.pairwise_map]
      exact List.pairwise_lt_range.imp fun h => by omega
    exact List.pairwise_map.1 h2
  have h3 : es.filter (qk k s) = ((fwd f gs gs.length).filter (qk k s)).reverse := by
    refine eq_sorted ltE_asym ((hp.filter _).trans (List.reverse_perm _).symm) (hs.filter _) ?_
    rw [List.pairwise_reverse]
    have h4 := h1.filter (qk k s)
    refine List.Pairwise.imp_of_mem ?_ h4
    intro a b ha hb' hab
    have ha2 := (List.mem_filter.1 ha).2
    have hb2 := (List.mem_filter.1 hb').2
    simp [qk] at ha2 hb2
    unfold ltE
    rw [cmpE_lt_iff, ha2.1, hb2.1]
    exact .inr ⟨rfl, hab⟩
  unfold gk lastE
  show (es.filter (qk k s)).head? = _
  rw [h3, List.head?_reverse]
def kle (a b : ByteArray) : Prop := Op.bytesLess b.toList a.toList = false
def klt (a b : ByteArray) : Prop := Op.bytesLess a.toList b.toList = true
theorem kle_of {a b : ByteArray} (h : klt a b ∨ a = b) : kle a b := by
  unfold kle
  rcases h with h | rfl
  · exact bl_asymm _ _ h
  · exact bl_irrefl _
theorem kle_or {a b : ByteArray} (h : kle a b) : klt a b ∨ a = b := by
  by_cases h1 : Op.bytesLess a.toList b.toList = true
  · exact .inl h1
  · exact .inr (toList_inj (bl_tri _ _ (by simpa using h1) h))
theorem klt_irr (a : ByteArray) : ¬ klt a a := by unfold klt; rw [bl_irrefl]; exact Bool.false_ne_true
theorem klt_trans {a b c : ByteArray} (h : klt a b) (k : klt b c) : klt a c := bl_trans _ _ _ h k
theorem kle_klt {a b c : ByteArray} (h : kle a b) (k : klt b c) : klt a c := by
  rcases kle_or h with h | rfl
  · exact klt_trans h k
  · exact k
theorem kle_trans {a b c : ByteArray} (h : kle a b) (k : kle b c) : kle a c := by
  rcases kle_or k with k | rfl
  · exact kle_of (.inl (kle_klt h k))
  · exact h
theorem lt_key {a b : En} (h : ltE a b) : kle a.1 b.1 := by
  unfold ltE at h
  rw [cmpE_lt_iff] at h
  rcases h with h | h
  · exact kle_of (.inl h)
  · exact kle_of (.inr (toList_inj h.1))
/-- where the walk of From stands behind p -/
structure Fi (s : Int) (p : List En) (st : ByteArray × List En) : Prop where
  one : ∀ x ∈ st.2, x ∈ p ∧ x.2.1 ≤ s ∧ ∀ y ∈ p, y.1 = x.1 → y.2.1 ≤ s → y = x ∨ ltE x y
  up : st.2.Pairwise (fun a b => klt a.1 b.1)
  all : ∀ y ∈ p, y.2.1 ≤ s → ∃ x ∈ st.2, x.1 = y.1
  top : (st.2 = [] ∧ st.1 = ⟨#[]⟩) ∨ ((∀ x ∈ st.2, kle x.1 st.1) ∧ ∃ x ∈ st.2, x.1 = st.1)
theorem Fi.step {s : Int} {p : List En} {st : ByteArray × List En} (h : Fi s p st) {e : En} (hl : ∀ y ∈ p, ltE y e) (he : 0 < e.1.size) : Fi s (p ++ [e]) (stp s st e) := by
  unfold stp
  by_cases h1 : s < e.2.1
  · rw [if_pos (.inl h1)]
    refine ⟨fun x hx => ?_, h.up, fun y hy hys => ?_, h.top⟩
    · obtain ⟨a1, a2, a3⟩ := h.one x hx
      refine ⟨List.mem_append_left _ a1, a2, fun y hy hk hys => ?_⟩
      rcases List.mem_append.1 hy with hy | hy
      · exact a3 y hy hk hys
      · rw [List.mem_singleton.1 hy] at hys; omega
    · rcases List.mem_append.1 hy with hy | hy
      · exact h.all y hy hys
      · rw [List.mem_singleton.1 hy] at hys; omega
  · by_cases h2 : e.1 = st.1
    · rw [if_pos (.inr h2)]
      have hne : ∃ x ∈ st.2, x.1 = st.1 := by
        rcases h.top with ⟨_, q⟩ | q
        · rw [h2, q] at he; exact absurd he (by decide)
        · exact q.2
      refine ⟨fun x hx => ?_, h.up, fun y hy hys => ?_, h.top⟩
      · obtain ⟨a1, a2, a3⟩ := h.one x hx
        refine ⟨List.mem_append_left _ a1, a2, fun y hy hk hys => ?_⟩
        rcases List.mem_append.1 hy with hy | hy
        · exact a3 y hy hk hys
        · rw [List.mem_singleton.1 hy]
          exact .inr (hl x a1)
      · rcases List.mem_append.1 hy with hy | hy
        · exact h.all y hy hys
        · rw [List.mem_singleton.1 hy]
          obtain ⟨x, hx, e2⟩ := hne
          exact ⟨x, hx, by rw [e2, h2]⟩
    · rw [if_neg (by rintro (q | q); exact h1 q; exact h2 q)]
      have hlt : ∀ x ∈ st.2, klt x.1 e.1 := fun x hx => by
        rcases h.top with ⟨q, _⟩ | ⟨q1, z, q2, q3⟩
        · rw [q] at hx; cases hx
        · have k1 : kle st.1 e.1 := by rw [← q3]; exact lt_key (hl z (h.one z q2).1)
          rcases kle_or k1 with k1 | k1
          · exact kle_klt (q1 x hx) k1
          · exact absurd k1.symm h2
      refine ⟨fun x hx => ?_, ?_, fun y hy hys => ?_, .inr ⟨fun x hx => ?_, e, by simp, rfl⟩⟩
      · rcases List.mem_append.1 hx with hx | hx
        · obtain ⟨a1, a2, a3⟩ := h.one x hx
          refine ⟨List.mem_append_left _ a1, a2, fun y hy hk hys => ?_⟩
          rcases List.mem_append.1 hy with hy | hy
          · exact a3 y hy hk hys
          · rw [List.mem_singleton.1 hy] at hk
            have := hlt x hx
            rw [← hk] at this
            exact absurd this (klt_irr _)
        · obtain rfl := List.mem_singleton.1 hx
          refine ⟨by simp, by omega, fun y hy hk hys => ?_⟩
          rcases List.mem_append.1 hy with hy | hy
          · obtain ⟨z, hz, e2⟩ := h.all y hy hys
            have := hlt z hz
            rw [e2, hk] at this
            exact absurd this (klt_irr _)
          · exact .inl (List.mem_singleton.1 hy)
      · rw [List.pairwise_append]
        refine ⟨h.up, List.pairwise_singleton _ _, fun a ha b hb => ?_⟩
        rw [List.mem_singleton.1 hb]
        exact hlt a ha
      · rcases List.mem_append.1 hy with hy | hy
        · obtain ⟨x, hx, e2⟩ := h.all y hy hys
          exact ⟨x, List.mem_append_left _ hx, e2⟩
        · rw [List.mem_singleton.1 hy]
          exact ⟨e, by simp, rfl⟩
      · rcases List.mem_append.1 hx with hx | hx
        · exact kle_of (.inl (hlt x hx))
        · rw [List.mem_singleton.1 hx]; exact kle_of (.inr rfl)
theorem Fi.all_ {s : Int} : ∀ (r p : List En) (st : ByteArray × List En), Fi s p st → (p ++ r).Pairwise ltE → (∀ e ∈ r, 0 < e.1.size) → Fi s (p ++ r) (r.foldl (stp s) st)
  | [], p, st, h, _, _ => by simpa using h
  | e :: r, p, st, h, hs, hk => by
    have hs2 : ((p ++ [e]) ++ r).Pairwise ltE := by simpa using hs
    have hl : ∀ y ∈ p, ltE y e := fun y hy => (List.pairwise_append.1 hs).2.2 y hy e (by simp)
    have := Fi.all_ r (p ++ [e]) (stp s st e) (h.step hl (hk e (by simp))) hs2 (fun x hx => hk x (by simp [hx]))
    simpa using this
/-- what From tells, told otherwise -/
theorem frm_is {k : ByteArray} {s : Int} {es : List En} (hs : es.Pairwise ltE) (hk : ∀ e ∈ es, 0 < e.1.size) :
    (frm k s es).Pairwise (fun a b => klt a.1 b.1) ∧ (∀ x ∈ frm k s es, kle k x.1 ∧ gk x.1 s es = some x) ∧ ∀ j, kle k j → (gk j s es).isSome = true → ∃ x ∈ frm k s es, x.1 = j := by
  have hfi : Fi s (es.filter fun e => !decide (cmpE e.1 k e.2.1 s < 0)) (stt s (es.filter fun e => !decide (cmpE e.1 k e.2.1 s < 0))) := by
    have := Fi.all_ (s := s) (es.filter fun e => !decide (cmpE e.1 k e.2.1 s < 0)) [] (⟨#[]⟩, []) ⟨by simp, by simp, by simp, .inl ⟨rfl, rfl⟩⟩ (by simpa using hs.filter _) (fun e he => hk e (List.mem_filter.1 he).1)
    simpa [stt] using this
  have hD : ∀ e, e ∈ (es.filter fun e => !decide (cmpE e.1 k e.2.1 s < 0)) ↔ e ∈ es ∧ ¬ cmpE e.1 k e.2.1 s < 0 := fun e => by simp [List.mem_filter]
  have hge : ∀ e : En, ¬ cmpE e.1 k e.2.1 s < 0 → kle k e.1 := fun e h => by
    rw [cmpE_lt_iff] at h
    unfold kle
    by_cases h1 : Op.bytesLess e.1.toList k.toList = true
    · exact absurd (.inl h1) h
    · simpa using h1
  have hin : ∀ e : En, kle k e.1 → e.2.1 ≤ s → ¬ cmpE e.1 k e.2.1 s < 0 := fun e h1 h2 => by
    rw [cmpE_lt_iff]
    rintro (h | h)
    · rw [h1] at h; cases h
    · omega
  refine ⟨hfi.up, fun x hx => ?_, fun j hj hg => ?_⟩
  · obtain ⟨a1, a2, a3⟩ := hfi.one x hx
    have b1 := (hD x).1 a1
    refine ⟨hge x b1.2, ?_⟩
    obtain ⟨y, g1, g2, g3, g4, g5⟩ := gk_top (k := x.1) (s := s) hs b1.1 rfl a2
    have hy : y ∈ (es.filter fun e => !decide (cmpE e.1 k e.2.1 s < 0)) := (hD y).2 ⟨g2, hin y (by rw [g3]; exact hge x b1.2) g5⟩
    rcases a3 y hy g3 g5 with h | h
    · rw [g1, h]
    · unfold ltE at h
      rw [cmpE_lt_iff, g3] at h
      rcases h with h | h
      · rw [bl_irrefl] at h; cases h
      · omega
  · obtain ⟨y, hy⟩ := Option.isSome_iff_exists.1 hg
    have hm : y ∈ es.filter (fun e => decide (e.1 = j) && decide (e.2.1 ≤ s)) := List.mem_of_head? hy
    rw [List.mem_filter] at hm
    simp only [Bool.and_eq_true, decide_eq_true_eq] at hm
    obtain ⟨x, hx, e2⟩ := hfi.all y ((hD y).2 ⟨hm.1, hin y (by rw [hm.2.1]; exact hj) hm.2.2⟩) hm.2.2
    exact ⟨x, hx, by rw [e2, hm.2.1]⟩
/-- is it among the first j? -/
def agn (ks : List ByteArray) (k : ByteArray) (j : Nat) : Bool := (ks.take j).any fun x => decide (x = k)
theorem agn_iff {ks : List ByteArray} {k : ByteArray} {j : Nat} : agn ks k j = true ↔ k ∈ ks.take j := by
  unfold agn
  rw [List.any_eq_true]
  constructor
  · rintro ⟨x, hx, h⟩
    rw [← of_decide_eq_true h]; exact hx
  · intro h
    exact ⟨k, h, decide_eq_true rfl⟩
theorem agn_succ {ks : List ByteArray} {k : ByteArray} {j : Nat} (h : j < ks.length) : agn ks k (j + 1) = (agn ks k j || decide (ks.getD j ⟨#[]⟩ = k)) := by
  unfold agn
  rw [List.take_succ_eq_append_getElem h, List.any_append]
  simp [h]
/-- how many of a list are the first of their kind, of those that count -/
def ctr (P : ByteArray → Bool) (ks : List ByteArray) (n : Nat) : Nat := ((List.range n).filter fun i => P (ks.getD i ⟨#[]⟩) && !agn ks (ks.getD i ⟨#[]⟩) i).length
theorem ctr_succ (P : ByteArray → Bool) (ks : List ByteArray) (n : Nat) : ctr P ks (n + 1) = ctr P ks n + (if (P (ks.getD n ⟨#[]⟩) && !agn ks (ks.getD n ⟨#[]⟩) n) = true then 1 else 0) := by
  unfold ctr
  rw [List.range_succ, List.filter_append, List.length_append, List.filter_cons, List.filter_nil]
  split
  · rfl
  · rfl
theorem first_at {k : ByteArray} : ∀ {ks : List ByteArray}, k ∈ ks → ∃ i, ∃ h : i < ks.length, ks[i] = k ∧ k ∉ ks.take i
  | x :: r, hk => by
    by_cases hx : x = k
    · exact ⟨0, by simp, hx, by simp⟩
    · have hr : k ∈ r := by
        rcases List.mem_cons.1 hk with h | h
        · exact absurd h.symm hx
        · exact h
      obtain ⟨i, hi, h1, h2⟩ := first_at hr
      refine ⟨i + 1, by simp; omega, by simpa using h1, ?_⟩
      rw [List.take_succ_cons, List.mem_cons, not_or]
      exact ⟨fun h => hx h.symm, h2⟩
/-- a list in which each comes once, with the same members -/
theorem ctr_eq {P : ByteArray → Bool} {ks : List ByteArray} {fs : List ByteArray} (hn : fs.Nodup) (hm : ∀ k, k ∈ fs ↔ k ∈ ks ∧ P k = true) : ctr P ks ks.length = fs.length := by
  have h1 : ctr P ks ks.length = (((List.range ks.length).filter fun i => P (ks.getD i ⟨#[]⟩) && !agn ks (ks.getD i ⟨#[]⟩) i).map fun i => ks.getD i ⟨#[]⟩).length := by
    rw [List.length_map]; rfl
  rw [h1]
  apply List.Perm.length_eq
  rw [List.perm_ext_iff_of_nodup ?_ hn]
  · intro k
    rw [hm, List.mem_map]
    constructor
    · rintro ⟨i, hi, rfl⟩
      rw [List.mem_filter] at hi
      have hil := List.mem_range.1 hi.1
      have e : ks.getD i ⟨#[]⟩ = ks[i] := by simp [hil]
      simp only [Bool.and_eq_true] at hi
      exact ⟨by rw [e]; exact List.getElem_mem hil, hi.2.1⟩
    · rintro ⟨hk, hP⟩
      obtain ⟨i, hi, h2, h3⟩ := first_at hk
      have e : ks.getD i ⟨#[]⟩ = ks[i] := by simp [hi]
      refine ⟨i, ?_, by rw [e]; exact h2⟩
      rw [List.mem_filter]
      refine ⟨List.mem_range.2 hi, ?_⟩
      rw [e, h2, hP]
      simp only [Bool.true_and, Bool.not_eq_true']
      rw [Bool.eq_false_iff]
      exact fun h9 => h3 (agn_iff.1 h9)
  · rw [List.nodup_iff_pairwise_ne, List.pairwise_map]
    refine List.Pairwise.imp_of_mem ?_ ((List.pairwise_lt_range (n := ks.length)).filter _)
    intro i j hi hj hij h9
    rw [List.mem_filter] at hi hj
    have hjl := List.mem_range.1 hj.1
    have hil : i < ks.length := by omega
    simp only [Bool.and_eq_true, Bool.not_eq_true'] at hj
    have hc := hj.2.2
    rw [← h9] at hc
    have : ks.getD i ⟨#[]⟩ ∈ ks.take j := by
      rw [List.mem_take_iff_getElem]
      exact ⟨i, by omega, by simp [hil]⟩
    rw [agn_iff.2 this] at hc
    cases hc
theorem nodup_keys {l : List En} (h : l.Pairwise (fun a b => klt a.1 b.1)) : (l.map (fun e => e.1)).Nodup := by
  rw [List.nodup_iff_pairwise_ne, List.pairwise_map]
  exact h.imp fun h e => by rw [e] at h; exact klt_irr _ h
end Mem
end Go.Proofs.Ytkofopaejkabhaa
