import Derived.Test.YtnoipjeoclkeoabDoorQbN
namespace Go.Proofs.YtnoipjeoclkeoabDoor
namespace Qb
open CMath Byt KMath
set_option linter.unusedVariables false
set_option linter.unusedSimpArgs false

/-! P9.9: turned bits, first parts. -/
theorem blk0_byte (r : Nat) (l : List En) : ∀ x ∈ blk0 (pushes r st0 l), x < 256 := by
  intro x hx
  unfold blk0 at hx
  rcases List.mem_append.1 hx with hx | hx
  · rcases List.mem_append.1 hx with hx | hx
    · rw [pushes_b] at hx
      rcases List.mem_append.1 hx with hx | hx
      · simp [st0] at hx
      · exact tl_byte _ _ _ _ x hx
    · exact pushes_pbyte r l st0 (by simp [st0]) x hx
  · exact four_byte _ x hx
theorem blk_byte (r : Nat) (l : List En) : ∀ x ∈ blk (pushes r st0 l), x < 256 := by
  intro x hx
  unfold blk at hx
  rcases List.mem_append.1 hx with hx | hx
  · exact blk0_byte r l x hx
  · exact four_byte _ x hx
theorem blk_rest (r : Nat) (l : List En) : rest (blk0 (pushes r st0 l)).length (blk (pushes r st0 l)) = 0 := by
  refine (rest_zero (blk_byte r l) (by simp [blk, CMath.four_len, four])).2 ?_
  unfold blk
  rw [List.drop_left, List.take_left]
/-- A block of which some bits within 32 are turned is none. -/
theorem no_turned {r r' : Nat} {l l' : List En} {a e : Nat} (hl : (blk (pushes r' st0 l')).length = (blk (pushes r st0 l)).length) (hv : val (blk (pushes r' st0 l')) = val (blk (pushes r st0 l)) ^^^ 2 ^ a * e) (he : e < 4294967296) : e = 0 := by
  by_cases h0 : e = 0
  · exact h0
  · exfalso
    have n1 : (blk (pushes r st0 l)).length = (blk0 (pushes r st0 l)).length + 4 := by simp [blk, four]
    have n2 : (blk (pushes r' st0 l')).length = (blk0 (pushes r' st0 l')).length + 4 := by simp [blk, four]
    have hN : (blk0 (pushes r' st0 l')).length = (blk0 (pushes r st0 l)).length := by omega
    have z1 := blk_rest r l
    have z2 := blk_rest r' l'
    rw [hN] at z2
    have := rest_diff (N := (blk0 (pushes r st0 l)).length) (blk_byte r l) (blk_byte r' l') n1 (by omega) _ hv
    rw [z1, z2] at this
    simp at this
    exact burst he h0 this.symm

theorem rd_zero (m : List Nat) : rd (0 :: m) 0 0 = (0, 1, 0) := by simp [rd]
/-- No entry that can be written begins with two bytes 0. -/
theorem rdE_zero {m ah : List Nat} {e : En} {n : Nat} (h : rdE (0 :: 0 :: m) ah = some (e, n)) : e.1.size = 0 := by
  unfold rdE at h
  rw [rd_zero] at h
  simp only [ne_eq, not_true_eq_false, if_false, List.drop_succ_cons, List.drop_zero, rd_zero] at h
  split at h
  · cases h
  unfold rdE.rdK at h
  have z : ∀ x : List Nat, ofB (ah.take 0 ++ x.take 0) = ⟨#[]⟩ := by intro x; simp [ofB]
  split at h
  · cases h
  split at h
  · simp only [Option.some.injEq, Prod.mk.injEq] at h
    rw [← h.1]
    show (ofB _).size = 0
    rw [z]; rfl
  split at h
  · cases h
  · simp only [Option.some.injEq, Prod.mk.injEq] at h
    rw [← h.1]
    show (ofB _).size = 0
    rw [z]; rfl
/-- Two rows of entries with two bytes 0 behind them are the same. -/
theorem tl_uniq (r r' : Nat) (l : List En) : ∀ (l' : List En) n n' last x x', (∀ e ∈ l, Ok e ∧ 0 ≤ e.2.1) → (∀ e ∈ l', Ok e ∧ 0 ≤ e.2.1) →
    tl r n last l ++ 0 :: 0 :: x = tl r' n' last l' ++ 0 :: 0 :: x' → l = l' ∧ x = x' ∧ tl r n last l = tl r' n' last l' := by
  induction l with
  | nil =>
    intro l' n n' last x x' h1 h2 h
    cases l' with
    | nil => simp only [tl, List.nil_append, List.cons.injEq, true_and] at h; exact ⟨rfl, h, rfl⟩
    | cons e l' =>
      exfalso
      have he := h2 e (by simp)
      simp only [tl, List.nil_append, List.append_assoc] at h
      have hr := rdE_entB (if n' % r' = 0 then 0 else shr last (kB e)) e last (tl r' (n' + 1) (kB e) l' ++ 0 :: 0 :: x') he.1 he.2 (by split <;> omega)
      rw [← h] at hr
      have := rdE_zero hr
      have := he.1.k1
      omega
  | cons e l ih =>
    intro l' n n' last x x' h1 h2 h
    have he := h1 e (by simp)
    have hr := rdE_entB (if n % r = 0 then 0 else shr last (kB e)) e last (tl r (n + 1) (kB e) l ++ 0 :: 0 :: x) he.1 he.2 (by split <;> omega)
    cases l' with
    | nil =>
      exfalso
      simp only [tl, List.nil_append, List.append_assoc] at h
      rw [h] at hr
      have := rdE_zero hr
      have := he.1.k1
      omega
    | cons e' l' =>
      have he' := h2 e' (by simp)
      have hr' := rdE_entB (if n' % r' = 0 then 0 else shr last (kB e')) e' last (tl r' (n' + 1) (kB e') l' ++ 0 :: 0 :: x') he'.1 he'.2 (by split <;> omega)
      simp only [tl, List.append_assoc] at h
      rw [h, hr'] at hr
      simp only [Option.some.injEq, Prod.mk.injEq] at hr
      obtain ⟨rfl, hlen⟩ := hr
      obtain ⟨e1, e2⟩ := List.append_inj h hlen.symm
      obtain ⟨rfl, rfl, e3⟩ := ih l' (n + 1) (n' + 1) (kB e') x x' (fun y hy => h1 y (by simp [hy])) (fun y hy => h2 y (by simp [hy])) e2
      refine ⟨rfl, rfl, ?_⟩
      simp only [tl]
      rw [e1, e3]

/-- Where the restart points lie. -/
structure Pl (s : St) : Prop where
  n : 3 * s.n ≤ s.b.length
  p : s.p.length ≤ 4 * s.n
  d : s.p.length % 4 = 0
  at_ : ∀ j, 4 * j < s.p.length → ∃ x, (s.p.drop (4 * j)).take 4 = four x ∧ 3 * j ≤ x ∧ x ≤ s.b.length
theorem entB_three (s : Nat) (e : En) : 3 ≤ (entB s e).length := by
  unfold entB
  have := num_pos s
  have := num_pos ((kB e).length - s)
  have := num_pos (tag e)
  simp only [List.length_append]; omega
theorem Pl.push {s : St} (h : Pl s) (r : Nat) (e : En) : Pl (push r s e) := by
  have h3 := entB_three (sh r s e) e
  obtain ⟨hn, hp, hd, ha⟩ := h
  have hlen : (s.b ++ entB (sh r s e) e).length = s.b.length + (entB (sh r s e) e).length := by simp
  refine ⟨?_, ?_, ?_, ?_⟩
  · show 3 * (s.n + 1) ≤ _
    show 3 * (s.n + 1) ≤ (s.b ++ entB (sh r s e) e).length
    omega
  · show (plc r s).length ≤ 4 * (s.n + 1)
    unfold plc
    split
    · rw [List.length_append, four_len]; omega
    · omega
  · show (plc r s).length % 4 = 0
    unfold plc
    split
    · rw [List.length_append, four_len]; omega
    · exact hd
  · show ∀ j, 4 * j < (plc r s).length → ∃ x, ((plc r s).drop (4 * j)).take 4 = four x ∧ 3 * j ≤ x ∧ x ≤ (s.b ++ entB (sh r s e) e).length
    intro j hj
    unfold plc at hj ⊢
    split at hj
    · rename_i hz
      rw [if_pos hz]
      rw [List.length_append, four_len] at hj
      by_cases hlt : 4 * j < s.p.length
      · obtain ⟨x, h1, h2, h3'⟩ := ha j hlt
        refine ⟨x, ?_, h2, by omega⟩
        rw [List.drop_append_of_le_length (by omega), List.take_append_of_le_length (by rw [List.length_drop]; omega)]
        exact h1
      · have hj' : 4 * j = s.p.length := by omega
        refine ⟨s.b.length, ?_, by omega, by omega⟩
        rw [hj', List.drop_left]
        rfl
    · rename_i hz
      rw [if_neg hz]
      obtain ⟨x, h1, h2, h3'⟩ := ha j hj
      exact ⟨x, h1, h2, by omega⟩
theorem Pl.pushes {r : Nat} (l : List En) : ∀ {s : St}, Pl s → Pl (pushes r s l) := by
  induction l with
  | nil => intro s h; exact h
  | cons e l ih => intro s h; rw [pushes_cons]; exact ih (h.push r e)
theorem pl0 : Pl st0 := ⟨by simp [st0], by simp [st0], by simp [st0], by intro j hj; simp [st0] at hj⟩

/-- What lies behind the entries begins with two bytes 0. -/
theorem tail_zero (r : Nat) (l : List En) (hr : 1 ≤ r) (y : List Nat) : ∃ x, (pushes r st0 l).p ++ (four ((pushes r st0 l).p.length / 4) ++ y) = 0 :: 0 :: x := by
  cases l with
  | nil => exact ⟨[0, 0] ++ y, by simp [pushes, st0, four]⟩
  | cons e l =>
    rw [pushes_cons]
    obtain ⟨m, hm⟩ := pushes_pre r l (push r st0 e)
    have : (push r st0 e).p = four 0 := by
      show plc r st0 = _
      unfold plc
      rw [if_pos (by simp [st0])]
      rfl
    rw [hm, this]
    exact ⟨_, by simp only [four, List.cons_append]; rfl⟩
theorem four_inj {x y : Nat} (hx : x < 4294967296) (hy : y < 4294967296) (h : four x = four y) : x = y := by
  have := congrArg val h
  rwa [four_val hx, four_val hy] at this
/-- No proper first part of a block is one. -/
theorem no_part {r r' : Nat} {l l' : List En} (hr : 1 ≤ r) (hr' : 1 ≤ r') (hc : ∀ e ∈ l, Ok e ∧ 0 ≤ e.2.1) (hc' : ∀ e ∈ l', Ok e ∧ 0 ≤ e.2.1) (hb : (pushes r st0 l).b.length < 4294967296) {more : List Nat} (h : blk (pushes r st0 l) = blk (pushes r' st0 l') ++ more) : more = [] := by
  have hP := Pl.pushes (r := r) l pl0
  have hP' := Pl.pushes (r := r') l' pl0
  have b1 : (pushes r st0 l).b = tl r 0 [] l := by rw [pushes_b]; rfl
  have b2 : (pushes r' st0 l').b = tl r' 0 [] l' := by rw [pushes_b]; rfl
  have q1 : blk (pushes r st0 l) = tl r 0 [] l ++ ((pushes r st0 l).p ++ (four ((pushes r st0 l).p.length / 4) ++ four (crc (blk0 (pushes r st0 l))))) := by
    rw [← b1]; simp [blk, blk0]
  have q2 : blk (pushes r' st0 l') ++ more = tl r' 0 [] l' ++ ((pushes r' st0 l').p ++ (four ((pushes r' st0 l').p.length / 4) ++ (four (crc (blk0 (pushes r' st0 l'))) ++ more))) := by
    rw [← b2]; simp [blk, blk0]
  obtain ⟨x, hx⟩ := tail_zero r l hr (four (crc (blk0 (pushes r st0 l))))
  obtain ⟨x', hx'⟩ := tail_zero r' l' hr' (four (crc (blk0 (pushes r' st0 l'))) ++ more)
  rw [q1, q2, hx, hx'] at h
  obtain ⟨rfl, rfl, htl⟩ := tl_uniq r r' l l' 0 0 [] x x' hc hc' h
  have hb' : (pushes r' st0 l).b.length < 4294967296 := by rw [b2, ← htl, ← b1]; exact hb
  rw [← hx'] at hx
  clear hx' h q1 q2
  generalize hy : four (crc (blk0 (pushes r st0 l))) = y at *
  generalize hy' : four (crc (blk0 (pushes r' st0 l))) = y' at *
  have ly : y.length = 4 := by rw [← hy]; rfl
  have ly' : y'.length = 4 := by rw [← hy']; rfl
  have hlen := congrArg List.length hx
  simp only [List.length_append, four_len, ly, ly'] at hlen
  by_cases hm : more = []
  · exact hm
  · exfalso
    have hml : 0 < more.length := List.length_pos_iff.2 hm
    have hlt : (pushes r' st0 l).p.length < (pushes r st0 l).p.length := by omega
    obtain ⟨_, hp4', hd', _⟩ := hP'
    obtain ⟨_, hp4, hd, ha⟩ := hP
    have hj : 4 * ((pushes r' st0 l).p.length / 4) = (pushes r' st0 l).p.length := by omega
    obtain ⟨z, z1, z2, z3⟩ := ha ((pushes r' st0 l).p.length / 4) (by omega)
    rw [hj] at z1
    have hne : l ≠ [] := by
      rintro rfl
      simp [pushes, st0] at hlt
    have hpos : 4 ≤ (pushes r' st0 l).p.length := by
      cases l with
      | nil => exact absurd rfl hne
      | cons e l =>
        rw [pushes_cons]
        obtain ⟨m, hm⟩ := pushes_pre r' l (push r' st0 e)
        rw [hm]
        have : (push r' st0 e).p = four 0 := by
          show plc r' st0 = _
          unfold plc
          rw [if_pos (by simp [st0])]
          rfl
        rw [this]
        simp [four_len]
    have hd2 := congrArg (fun q => (q.drop (pushes r' st0 l).p.length).take 4) hx
    simp only [List.drop_left] at hd2
    rw [List.drop_append_of_le_length (by omega), List.take_append_of_le_length (by rw [List.length_drop]; omega), z1] at hd2
    have e4 : (four ((pushes r' st0 l).p.length / 4) ++ (y' ++ more)).take 4 = four ((pushes r' st0 l).p.length / 4) := List.take_left (l₁ := four _)
    rw [e4] at hd2
    have := four_inj (by omega) (by omega) hd2
    omega

end Qb
end Go.Proofs.YtnoipjeoclkeoabDoor
