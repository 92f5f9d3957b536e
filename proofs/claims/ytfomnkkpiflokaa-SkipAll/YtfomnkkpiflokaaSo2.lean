import Derived.Test.YtfomnkkpiflokaaSo1
namespace Go.Proofs.Ytfomnkkpiflokaa
namespace Sk
open Go.RowKit Laws Irw Erw KMath Skm Byt
set_option linter.unusedVariables false
set_option maxRecDepth 100000
set_option linter.unusedSimpArgs false

theorem uniq {p : En → Bool} : ∀ {l : List En}, l.Pairwise ltE → (∃ x ∈ l, p x = true) → (∀ x y, p x = true → p y = true → ¬ ltE x y) → (l.filter p).length = 1
  | [], _, h, _ => by obtain ⟨x, hx, _⟩ := h; cases hx
  | a :: l, hs, h, hp => by
    obtain ⟨h1, h2⟩ := List.pairwise_cons.1 hs
    by_cases ha : p a = true
    · rw [List.filter_cons, if_pos ha, List.length_cons]
      have : l.filter p = [] := by
        rw [List.filter_eq_nil_iff]
        intro x hx hpx
        exact hp a x ha hpx (h1 x hx)
      rw [this]; rfl
    · rw [List.filter_cons, if_neg ha]
      refine uniq h2 ?_ hp
      obtain ⟨x, hx, hpx⟩ := h
      rcases List.mem_cons.1 hx with rfl | hx
      · exact absurd hpx ha
      · exact ⟨x, hx, hpx⟩
def cnt (p : En → Bool) (l : List En) (k : Nat) : Nat := ((l.take k).filter p).length
theorem cnt_le (p : En → Bool) (l : List En) (k : Nat) : cnt p l k ≤ k := by
  unfold cnt
  have h1 := List.length_filter_le p (l.take k)
  have h2 := List.length_take_le k l
  omega
theorem cnt_step {p : En → Bool} {l : List En} {k : Nat} (h : k < l.length) : cnt p l (k + 1) = cnt p l k + if p (l.getD k ez) = true then 1 else 0 := by
  unfold cnt
  rw [List.take_succ_eq_append_getElem h, List.filter_append, List.length_append]
  have e : l.getD k ez = l[k] := by simp [h]
  rw [e]
  by_cases hp : p l[k] = true
  · simp [hp]
  · simp [hp]
theorem cnt_all (p : En → Bool) (l : List En) : cnt p l l.length = (l.filter p).length := by unfold cnt; rw [List.take_length]
/-- equal in all -/
def eqB (x y : En) : Bool := decide (y = x)
/-- at one place -/
def atB (x y : En) : Bool := decide (y.1 = x.1 ∧ y.2.1 = x.2.1)
theorem toList_inj {a b : ByteArray} (h : a.toList = b.toList) : a = b := by
  rw [ByteArray.toList_eq, ByteArray.toList_eq] at h
  obtain ⟨x⟩ := a
  obtain ⟨y⟩ := b
  have : x = y := Array.toList_inj.1 h
  rw [this]
theorem not_lt_at {x y : En} (h1 : x.1 = y.1) (h2 : x.2.1 = y.2.1) : ¬ ltE x y := by
  unfold ltE
  rw [h1, h2, cmpE_self]
  omega
theorem MadeIs.one_eq {ds : List Nat} {done : List En} {ns : List Nd} {ins : List En} (h : MadeIs ds done ns ins) (hs : ns.Pairwise (fun a b => ltE a.e b.e)) {x : En} (hx : x ∈ ns.map Nd.e) : cnt (eqB x) ins ins.length = 1 := by
  rw [cnt_all, ← (h.perm.filter (eqB x)).length_eq]
  refine uniq (List.pairwise_map.2 hs) ⟨x, hx, by simp [eqB]⟩ fun a b ha hb => ?_
  simp only [eqB, decide_eq_true_eq] at ha hb
  subst ha
  subst hb
  exact not_lt_at rfl rfl
theorem MadeIs.one_at {ds : List Nat} {done : List En} {ns : List Nd} {ins : List En} (h : MadeIs ds done ns ins) (hs : ns.Pairwise (fun a b => ltE a.e b.e)) {x : En} (hx : x ∈ done) : cnt (atB x) ins ins.length = 1 := by
  rw [cnt_all, ← (h.perm.filter (atB x)).length_eq]
  obtain ⟨y, hy, q1, q2⟩ := h.all x hx
  refine uniq (List.pairwise_map.2 hs) ⟨y, h.perm.mem_iff.2 hy, by simp [atB, toList_inj q1, q2]⟩ fun a b ha hb => ?_
  simp only [atB, decide_eq_true_eq] at ha hb
  exact not_lt_at (ha.1.trans hb.1.symm) (ha.2.trans hb.2.symm)
/-- from the empty key and the greatest number on: all -/
theorem post_all {W : World} {L : Nat} {ns pre post : List Nd} (h : Wk W L ⟨#[]⟩ 18446744073709551615 ns pre post) (hm : ∀ n ∈ ns, n.e.2.1 ≤ 18446744073709551615) : post = ns := by
  have hp : pre = [] := by
    cases hp : pre with
    | nil => rfl
    | cons n r =>
      have h1 := h.hpre n (by rw [hp]; simp)
      have h2 : cmpE n.e.1 ⟨#[]⟩ n.e.2.1 18446744073709551615 < 0 := by simpa [aheadB] using h1
      rw [cmpE_lt_iff] at h2
      have h3 := hm n (by rw [h.cut, hp]; simp)
      rcases h2 with h2 | h2
      · have : (⟨#[]⟩ : ByteArray).toList = [] := by rw [ByteArray.toList_eq]
        rw [this] at h2
        cases hl : n.e.1.toList <;> rw [hl] at h2 <;> simp [Op.bytesLess] at h2
      · omega
  rw [h.cut, hp]; rfl
end Sk
end Go.Proofs.Ytfomnkkpiflokaa
