import Derived.Test.YtdflepndhemfgaaGreatDoorMd1
namespace Go.Proofs.YtdflepndhemfgaaGreatDoor
namespace Sk
open Go.RowKit Laws Irw Erw KMath Skm Byt
set_option linter.unusedVariables false
set_option maxRecDepth 100000
set_option linter.unusedSimpArgs false

theorem eq_sorted {α : Type} {r : α → α → Prop} (ha : ∀ a b, r a b → ¬ r b a) : ∀ {l m : List α}, l.Perm m → l.Pairwise r → m.Pairwise r → l = m
  | [], m, hp, _, _ => by rw [List.nil_perm.1 hp]
  | a :: l, [], hp, _, _ => by have := hp.length_eq; simp at this
  | a :: l, b :: m, hp, h1, h2 => by
    obtain ⟨p1, p2⟩ := List.pairwise_cons.1 h1
    obtain ⟨q1, q2⟩ := List.pairwise_cons.1 h2
    have hab : a = b := by
      have m1 : a ∈ b :: m := hp.mem_iff.1 List.mem_cons_self
      have m2 : b ∈ a :: l := hp.mem_iff.2 List.mem_cons_self
      rcases List.mem_cons.1 m1 with e | m1
      · exact e
      · rcases List.mem_cons.1 m2 with e | m2
        · exact e.symm
        · exact absurd (q1 a m1) (ha a b (p1 b m2))
    subst hab
    rw [eq_sorted ha hp.cons_inv p2 q2]
theorem ltE_asym (a b : En) (h : ltE a b) : ¬ ltE b a := by
  unfold ltE at *
  have := cmpE_neg a.1 b.1 a.2.1 b.2.1
  omega

abbrev eB2 : En := (⟨#[98]⟩, 2, false, ⟨#[]⟩)
abbrev eA1 : En := (⟨#[97]⟩, 1, false, ⟨#[]⟩)
abbrev eB3 : En := (⟨#[98]⟩, 3, false, ⟨#[]⟩)
abbrev eBx : En := (⟨#[98]⟩, 2, false, ⟨#[120]⟩)
abbrev eC9 : En := (⟨#[99]⟩, 9, false, ⟨#[]⟩)
theorem cmp1 (x y : UInt8) (m n : Int) : cmpE ⟨#[x]⟩ ⟨#[y]⟩ m n = if x < y then -1 else if y < x then 1 else if n < m then -1 else if m < n then 1 else 0 := by
  have e1 : (⟨#[x]⟩ : ByteArray).toList = [x] := by rw [ByteArray.toList_eq]
  have e2 : (⟨#[y]⟩ : ByteArray).toList = [y] := by rw [ByteArray.toList_eq]
  unfold cmpE cmpS cmpN
  rw [e1, e2]
  by_cases h1 : x < y
  · simp [Op.bytesLess, h1]
  · by_cases h2 : y < x
    · simp [Op.bytesLess, h1, h2]
    · simp [Op.bytesLess, h1, h2]
theorem sorted4 : [eA1, eB3, eB2, eC9].Pairwise ltE := by
  simp [ltE, cmp1]
theorem four {α : Type} : ∀ {l : List α}, l.length = 4 → ∃ a b c d, l = [a, b, c, d]
  | [a, b, c, d], _ => ⟨a, b, c, d, rfl⟩
theorem known_ns {done : List En} {ns : List Nd} (h : MadeIs [0, 13, 5] done ns [eB2, eA1, eB3, eC9]) (hs : ns.Pairwise (fun a b => ltE a.e b.e)) : ∃ n1 n2 n3 n4 : Nd, ns = [n1, n2, n3, n4] ∧ n1.e = eA1 ∧ n2.e = eB3 ∧ n3.e = eB2 ∧ n4.e = eC9 ∧ n1.h = 2 ∧ n2.h = 6 ∧ n3.h = 1 ∧ n4.h = 1 := by
  have h1 : (ns.map Nd.e).Pairwise ltE := List.pairwise_map.2 hs
  have h2 : ns.map Nd.e = [eA1, eB3, eB2, eC9] := eq_sorted ltE_asym (h.perm.trans (by decide)) h1 sorted4
  have hl : ns.length = 4 := by have := congrArg List.length h2; simpa using this
  obtain ⟨n1, n2, n3, n4, rfl⟩ : ∃ n1 n2 n3 n4, ns = [n1, n2, n3, n4] := four hl
  simp only [List.map_cons, List.map_nil, List.cons.injEq, and_true] at h2
  obtain ⟨e1, e2, e3, e4⟩ := h2
  obtain ⟨a0, m0, q0, r0⟩ := h.hts 0 _ rfl
  obtain ⟨a1, m1, q1, r1⟩ := h.hts 1 _ rfl
  obtain ⟨a2, m2, q2, r2⟩ := h.hts 2 _ rfl
  obtain ⟨a3, m3, q3, r3⟩ := h.hts 3 _ rfl
  have g0 : hgt [0, 13, 5] 0 = 1 := by decide
  have g1 : hgt [0, 13, 5] 1 = 2 := by decide
  have g2 : hgt [0, 13, 5] 2 = 6 := by decide
  have g3 : hgt [0, 13, 5] 3 = 1 := by decide
  rw [g0] at r0
  rw [g1] at r1
  rw [g2] at r2
  rw [g3] at r3
  refine ⟨n1, n2, n3, n4, rfl, e1, e2, e3, e4, ?_, ?_, ?_, ?_⟩
  · simp only [List.mem_cons, List.not_mem_nil, or_false] at m1
    rcases m1 with rfl | rfl | rfl | rfl
    · exact r1
    · rw [e2] at q1; simp at q1
    · rw [e3] at q1; simp at q1
    · rw [e4] at q1; simp at q1
  · simp only [List.mem_cons, List.not_mem_nil, or_false] at m2
    rcases m2 with rfl | rfl | rfl | rfl
    · rw [e1] at q2; simp at q2
    · exact r2
    · rw [e3] at q2; simp at q2
    · rw [e4] at q2; simp at q2
  · simp only [List.mem_cons, List.not_mem_nil, or_false] at m0
    rcases m0 with rfl | rfl | rfl | rfl
    · rw [e1] at q0; simp at q0
    · rw [e2] at q0; simp at q0
    · exact r0
    · rw [e4] at q0; simp at q0
  · simp only [List.mem_cons, List.not_mem_nil, or_false] at m3
    rcases m3 with rfl | rfl | rfl | rfl
    · rw [e1] at q3; simp at q3
    · rw [e2] at q3; simp at q3
    · rw [e3] at q3; simp at q3
    · exact r3
/-- a Put that goes in -/
theorem put_ok {ds : List Nat} {done : List En} {ns ns' : List Nd} {ins : List En} {e : En} {ok : Bool} (h : MadeIs ds done ns ins) (hp : PutIs ds ns e ns' ok) (hn : ∀ x ∈ ins, cmpE x.1 e.1 x.2.1 e.2.1 ≠ 0) : ok = true ∧ MadeIs ds (done ++ [e]) ns' (ins ++ [e]) := by
  have h2 := h.put hp
  rcases hp with ⟨rfl, _, nd, h3, h4⟩ | ⟨rfl, _⟩
  · exact absurd h4 (hn nd.e (h.perm.mem_iff.1 (List.mem_map.2 ⟨nd, h3, rfl⟩)))
  · rw [if_pos rfl] at h2
    exact ⟨rfl, h2⟩
theorem put_no {ds : List Nat} {done : List En} {ns ns' : List Nd} {ins : List En} {e : En} {ok : Bool} (h : MadeIs ds done ns ins) (hp : PutIs ds ns e ns' ok) {x : En} (hx : x ∈ ins) (h0 : cmpE x.1 e.1 x.2.1 e.2.1 = 0) : ok = false ∧ MadeIs ds (done ++ [e]) ns' ins := by
  have h2 := h.put hp
  rcases hp with ⟨rfl, _⟩ | ⟨rfl, h3, _⟩
  · rw [if_neg Bool.false_ne_true] at h2
    exact ⟨rfl, h2⟩
  · obtain ⟨nd, h4, h5⟩ := List.mem_map.1 (h.perm.mem_iff.2 hx)
    rw [← h5] at h0
    exact absurd h0 (h3 nd h4)
/-- what is behind a place -/
theorem post_of {W : World} {L : Nat} {k : ByteArray} {s : Int} {ns pre post : List Nd} (h : Wk W L k s ns pre post) : post = ns.dropWhile (aheadB k s) := by
  rw [h.cut, List.dropWhile_append_of_pos h.hpre]
  cases hp : post with
  | nil => rfl
  | cons n r => rw [List.dropWhile_cons, h.hpost n (by rw [hp]; simp)]; rfl
end Sk
end Go.Proofs.YtdflepndhemfgaaGreatDoor
