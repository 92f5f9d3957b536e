import Derived.Test.YtnhhalabmmcemaaDoorQb7
namespace Go.Proofs.YtnhhalabmmcemaaDoor
namespace Qb
open Go.RowKit CMath Byt Laws Irw Crw Cod
set_option linter.unusedVariables false
set_option linter.unusedSimpArgs false
set_option maxRecDepth 20000

theorem entB_len {e : En} (h : Ok e) {s : Nat} (hs : s ≤ (kB e).length) (h0 : 0 ≤ e.2.1) : (entB s e).length ≤ 700 := by
  obtain ⟨k, q, d, v⟩ := e
  have hk : (kB (k, q, d, v)).length = k.size := strB_length k
  have h1 := h.k2
  have h2 := h.q
  simp only at h1 h2 h0
  have n1 := num_le10 (show s < 18446744073709551616 by omega)
  have n2 := num_le10 (show (kB (k, q, d, v)).length - s < 18446744073709551616 by omega)
  have n3 := num_le10 (show tag (k, q, d, v) < 18446744073709551616 by unfold tag; simp only; split <;> omega)
  unfold entB
  cases d with
  | true => simp; omega
  | false =>
    have h3 := h.v rfl
    have hv : (vB (k, q, false, v)).length = v.size := strB_length v
    have n4 := num_le10 (show (vB (k, q, false, v)).length < 18446744073709551616 by rw [hv]; simp only at h3; omega)
    simp only at h3
    simp [words]
    omega
theorem pushes_len' (R : Nat) (l : List En) : ∀ s, (∀ e ∈ l, Ok e ∧ 0 ≤ e.2.1) → (pushes R s l).b.length ≤ s.b.length + 700 * l.length := by
  induction l with
  | nil => intro s _; simp [pushes]
  | cons e l ih =>
    intro s h
    rw [pushes_cons]
    have h1 := ih (push R s e) (fun x hx => h x (by simp [hx]))
    have he := h e (by simp)
    have h2 : (entB (sh R s e) e).length ≤ 700 := entB_len he.1 (by unfold sh; split; omega; exact shr_le_right _ _) he.2
    have h3 : (push R s e).b.length = s.b.length + (entB (sh R s e) e).length := by show (s.b ++ entB _ e).length = _; simp
    simp only [List.length_cons]
    omega
theorem pushes_len (R : Nat) (l : List En) (h : ∀ e ∈ l, Ok e ∧ 0 ≤ e.2.1) : (pushes R st0 l).b.length ≤ 700 * l.length := by
  have := pushes_len' R l st0 h
  simpa [st0] using this

theorem pushes_plen (R : Nat) (l : List En) : ∀ s, (pushes R s l).p.length ≤ s.p.length + 4 * l.length := by
  induction l with
  | nil => intro s; simp [pushes]
  | cons e l ih =>
    intro s
    rw [pushes_cons]
    have h1 := ih (push R s e)
    have h2 : (push R s e).p.length ≤ s.p.length + 4 := by
      show (plc R s).length ≤ _
      unfold plc
      split
      · rw [List.length_append, four_len]; omega
      · omega
    simp only [List.length_cons]
    omega
def lastE (last : ByteArray) : List En → ByteArray
  | [] => last
  | e :: l => lastE e.1 l
theorem lastE_snoc (l : List En) (e : En) : ∀ last, lastE last (l ++ [e]) = e.1 := by
  induction l with
  | nil => intro last; rfl
  | cons x l ih => intro last; exact ih x.1
theorem pushes_lastE (R : Nat) (l : List En) : ∀ s, (pushes R s l).last = lastE s.last l := by
  induction l with
  | nil => intro s; rfl
  | cons e l ih => intro s; rw [pushes_cons, ih]; rfl
theorem chain_app (l m : List En) : ∀ last, chain last (l ++ m) ↔ chain last l ∧ chain (lastE last l) m := by
  induction l with
  | nil => intro last; simp [chain, lastE]
  | cons e l ih =>
    intro last
    simp only [List.cons_append, chain, lastE, ih, and_assoc]
theorem chain_snoc {l : List En} {e : En} {last : ByteArray} (h : chain last l) (ha : adds (lastE last l) e = 0) : chain last (l ++ [e]) := (chain_app l [e] last).2 ⟨h, ha, trivial⟩
theorem no_chain {l m : List En} {e : En} {last : ByteArray} (hp : l ++ [e] <+: m) (ha : adds (lastE last l) e ≠ 0) : ¬ chain last m := by
  rintro hc
  obtain ⟨t, rfl⟩ := hp
  rw [chain_app, chain_app] at hc
  exact ha hc.1.2.1
theorem rdE_v {b ah : List Nat} {x : En × Nat} (hb : ∀ x ∈ b, x < 256) (h : rdE b ah = some x) : x.1.2.2.2.size ≤ 512 := by
  unfold rdE at h
  split at h
  · cases h
  split at h
  · cases h
  split at h
  · cases h
  unfold rdE.rdK at h
  split at h
  · cases h
  split at h
  · cases h; exact Nat.zero_le _
  split at h
  · cases h
  · rename_i hz
    cases h
    have key : ∀ d, (ofB (text d 512).1).size ≤ 512 := fun d => by
      have : (text d 512).1.length ≤ 512 := by
        unfold text
        split
        · simp
        split
        · simp
        split
        · simp
        · rename_i h2 h3
          simp only [List.length_take]
          omega
      have e1 : (ofB (text d 512).1).size = (text d 512).1.length := by simp [ofB, ByteArray.size]
      omega
    exact key _
theorem wk_sizes (n : Nat) : ∀ b ah, b.length ≤ n → (∀ x ∈ b, x < 256) → (∀ x ∈ ah, x < 256) → ∀ x ∈ wk b ah, x.1.1.size ≤ 64 ∧ x.1.2.2.2.size ≤ 512 := by
  induction n with
  | zero =>
    intro b ah hb _ _ x hx
    have : b = [] := List.eq_nil_of_length_eq_zero (by omega)
    subst this
    rw [wk_nil] at hx
    simp at hx
  | succ n ih =>
    intro b ah hb hB hA x hx
    by_cases h0 : b = []
    · subst h0; rw [wk_nil] at hx; simp at hx
    · cases h : rdE b ah with
      | none => rw [wk_none h] at hx; simp at hx
      | some y =>
        have hp := rdE_pos h hB
        have hl : 0 < b.length := List.length_pos_iff.2 h0
        rw [wk_some h0 hB h] at hx
        rcases List.mem_cons.1 hx with rfl | hx
        · exact ⟨(rdE_le hB hA h).1, rdE_v hB h⟩
        · exact ih _ _ (by rw [List.length_drop]; omega) (fun y hy => hB y (List.mem_of_mem_drop hy)) (strB_byte _) x hx
theorem pos_snd (l : List (En × Nat)) : ∀ p, (pos p l).map Prod.snd = l.map Prod.fst := by
  induction l with
  | nil => intro p; rfl
  | cons x t ih => intro p; simp [pos, ih]
theorem wkp_snd (eb : List Nat) : (wkp eb 0).map Prod.snd = (wk eb []).map Prod.fst := by
  unfold wkp
  rw [List.drop_zero, pos_snd]
theorem wkp_mem {eb : List Nat} (hB : ∀ x ∈ eb, x < 256) {x : Nat × En} (h : x ∈ wkp eb 0) : x.2.1.size ≤ 64 ∧ x.2.2.2.2.size ≤ 512 ∧ 0 ≤ x.2.2.1 := by
  have h1 : x.2 ∈ (wk eb []).map Prod.fst := by rw [← wkp_snd]; exact List.mem_map.2 ⟨x, h, rfl⟩
  obtain ⟨y, hy, e⟩ := List.mem_map.1 h1
  rw [← e]
  exact ⟨(wk_sizes _ eb [] (Nat.le_refl _) hB (by simp) y hy).1, (wk_sizes _ eb [] (Nat.le_refl _) hB (by simp) y hy).2, wk_nonneg _ eb [] (Nat.le_refl _) y hy⟩
end Qb
end Go.Proofs.YtnhhalabmmcemaaDoor
