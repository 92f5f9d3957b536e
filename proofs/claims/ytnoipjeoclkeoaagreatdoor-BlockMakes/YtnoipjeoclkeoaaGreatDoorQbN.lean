import Derived.Test.YtnoipjeoclkeoaaGreatDoorQbM
namespace Go.Proofs.YtnoipjeoclkeoaaGreatDoor
namespace Qb
open CMath Byt KMath
set_option linter.unusedVariables false
set_option linter.unusedSimpArgs false

/-! Open's mathematics: which restart, and that what was made is read again. -/
theorem pushes_app (r : Nat) (s : St) (l m : List En) : pushes r s (l ++ m) = pushes r (pushes r s l) m := by
  unfold pushes; rw [List.foldl_append]
theorem pushes_cons (r : Nat) (s : St) (e : En) (l : List En) : pushes r s (e :: l) = pushes r (push r s e) l := rfl
theorem four_len (x : Nat) : (four x).length = 4 := rfl
theorem plc_pre (r : Nat) (s : St) : ∃ m, plc r s = s.p ++ m := by
  unfold plc
  split
  · exact ⟨_, rfl⟩
  · exact ⟨[], by simp⟩
theorem pushes_pre (r : Nat) (l : List En) : ∀ s, ∃ m, (pushes r s l).p = s.p ++ m := by
  induction l with
  | nil => intro s; exact ⟨[], by simp [pushes]⟩
  | cons e l ih =>
    intro s
    obtain ⟨m, hm⟩ := ih (push r s e)
    obtain ⟨m', hm'⟩ := plc_pre r s
    refine ⟨m' ++ m, ?_⟩
    rw [pushes_cons, hm]
    show plc r s ++ m = _
    rw [hm', List.append_assoc]
theorem pushes_p4 (r : Nat) (l : List En) : ∀ s, s.p.length % 4 = 0 → (pushes r s l).p.length % 4 = 0 := by
  induction l with
  | nil => intro s h; exact h
  | cons e l ih =>
    intro s h
    rw [pushes_cons]
    refine ih _ ?_
    show (plc r s).length % 4 = 0
    unfold plc
    split
    · rw [List.length_append, four_len]; omega
    · exact h
theorem plc_byte (r : Nat) (s : St) (h : ∀ x ∈ s.p, x < 256) : ∀ x ∈ plc r s, x < 256 := by
  intro x hx
  unfold plc at hx
  split at hx
  · rcases List.mem_append.1 hx with hx | hx
    · exact h x hx
    · exact four_byte _ x hx
  · exact h x hx
theorem pushes_pbyte (r : Nat) (l : List En) : ∀ s, (∀ x ∈ s.p, x < 256) → ∀ x ∈ (pushes r s l).p, x < 256 := by
  induction l with
  | nil => intro s h; exact h
  | cons e l ih =>
    intro s h
    rw [pushes_cons]
    exact ih _ (plc_byte r s h)
/-- No restart point besides, as long as none is reached. -/
theorem pushes_none (r : Nat) (l : List En) : ∀ s, (∀ i, i < l.length → (s.n + i) % r ≠ 0) → (pushes r s l).p = s.p := by
  induction l with
  | nil => intro s _; rfl
  | cons e l ih =>
    intro s h
    rw [pushes_cons, ih _ (fun i hi => by
      have := h (i + 1) (by simpa using hi)
      show (s.n + 1 + i) % r ≠ 0
      rw [show s.n + 1 + i = s.n + (i + 1) by omega]
      exact this)]
    show plc r s = s.p
    unfold plc
    rw [if_neg (by have := h 0 (by simp); simpa using this)]
theorem pushes_eq (r r' : Nat) (l : List En) : ∀ s, (∀ i, i < l.length → ((s.n + i) % r = 0 ↔ (s.n + i) % r' = 0)) → pushes r s l = pushes r' s l := by
  induction l with
  | nil => intro s _; rfl
  | cons e l ih =>
    intro s h
    have h0 := h 0 (by simp)
    simp only [Nat.add_zero] at h0
    have e1 : push r s e = push r' s e := by
      unfold push sh plc
      by_cases hz : s.n % r = 0
      · rw [if_pos hz, if_pos hz, if_pos (h0.1 hz), if_pos (h0.1 hz)]
      · have hz' : ¬ s.n % r' = 0 := fun h' => hz (h0.2 h')
        rw [if_neg hz, if_neg hz, if_neg hz', if_neg hz']
    rw [pushes_cons, pushes_cons, e1]
    refine ih _ fun i hi => ?_
    have := h (i + 1) (by simpa using hi)
    show (s.n + 1 + i) % r = 0 ↔ (s.n + 1 + i) % r' = 0
    rw [show s.n + 1 + i = s.n + (i + 1) by omega]
    exact this
theorem mod_zero_small {i r : Nat} (h : i < r) : i % r = 0 ↔ i = 0 := by rw [Nat.mod_eq_of_lt h]

/-- The first r entries have one restart point, and the next one begins the second. -/
theorem p_first (r : Nat) (l : List En) (hr : 1 ≤ r) (hl : l.length ≤ r) (hne : l ≠ []) : (pushes r st0 l).p = four 0 := by
  cases l with
  | nil => exact absurd rfl hne
  | cons e l =>
    rw [pushes_cons, pushes_none]
    · show plc r st0 = _
      unfold plc
      rw [if_pos (by simp [st0])]
      rfl
    · intro i hi
      show (0 + 1 + i) % r ≠ 0
      rw [Nat.mod_eq_of_lt (by simp at hl; omega)]
      omega
theorem p_nil (r : Nat) : (pushes r st0 []).p = [] := rfl
theorem p_second (r : Nat) (l1 : List En) (e : En) (l2 : List En) (hr : 1 ≤ r) (h1 : l1.length = r) : ∃ m, (pushes r st0 (l1 ++ e :: l2)).p = four 0 ++ (four (pushes r st0 l1).b.length ++ m) := by
  rw [pushes_app, pushes_cons]
  obtain ⟨m, hm⟩ := pushes_pre r l2 (push r (pushes r st0 l1) e)
  refine ⟨m, ?_⟩
  rw [hm]
  show plc r (pushes r st0 l1) ++ m = _
  unfold plc
  have hn : (pushes r st0 l1).n = r := by rw [pushes_n, h1]; simp [st0]
  rw [if_pos (by rw [hn]; exact Nat.mod_self r), p_first r l1 hr (by omega) (by intro h; rw [h] at h1; simp at h1; omega)]
  simp

/-- How many entries are ahead of a place. -/
def cnt : List (En × Nat) → Nat → Nat → Nat
  | [], _, _ => 0
  | x :: t, p, q => if p = q then 0 else cnt t (p + x.2) q + 1
def sumS (l : List (En × Nat)) : Nat := (l.map Prod.snd).foldr (· + ·) 0
theorem sumS_cons (x : En × Nat) (l : List (En × Nat)) : sumS (x :: l) = x.2 + sumS l := rfl
theorem cnt_at (l m : List (En × Nat)) (hp : ∀ x ∈ l, 0 < x.2) (hm : m ≠ []) : ∀ p q, q = p + sumS l → cnt (l ++ m) p q = l.length := by
  induction l with
  | nil =>
    intro p q hq
    cases m with
    | nil => exact absurd rfl hm
    | cons x m => simp [sumS] at hq; simp [cnt, hq]
  | cons x l ih =>
    intro p q hq
    have h0 := hp x (by simp)
    rw [sumS_cons] at hq
    simp only [List.cons_append, cnt]
    rw [if_neg (by omega), ih (fun y hy => hp y (by simp [hy])) (p + x.2) q (by omega)]
    rfl
theorem szs_pos (r : Nat) (l : List En) : ∀ n last, ∀ x ∈ szs r n last l, 0 < x.2 := by
  induction l with
  | nil => intro n last x hx; simp [szs] at hx
  | cons e l ih =>
    intro n last x hx
    simp only [szs, List.mem_cons] at hx
    rcases hx with rfl | hx
    · exact entB_pos _ _
    · exact ih _ _ x hx
theorem szs_sum (r : Nat) (l : List En) : ∀ n last, sumS (szs r n last l) = (tl r n last l).length := by
  induction l with
  | nil => intro n last; rfl
  | cons e l ih => intro n last; simp only [szs, tl, sumS_cons, ih, List.length_append]
theorem szs_app (r : Nat) (l m : List En) : ∀ n last, ∃ last', szs r n last (l ++ m) = szs r n last l ++ szs r (n + l.length) last' m := by
  induction l with
  | nil => intro n last; exact ⟨last, by simp [szs]⟩
  | cons e l ih =>
    intro n last
    obtain ⟨last', h⟩ := ih (n + 1) (kB e)
    refine ⟨last', ?_⟩
    simp only [List.cons_append, szs, h, List.length_cons]
    rw [show n + 1 + l.length = n + (l.length + 1) by omega]
theorem szs_length (r : Nat) (l : List En) : ∀ n last, (szs r n last l).length = l.length := by
  induction l with
  | nil => intro n last; rfl
  | cons e l ih => intro n last; simp [szs, ih]

/-- The restart that a block can have. -/
def rst (eb pb : List Nat) : Nat := if pb.length / 4 < 2 then 9223372036854775807 else cnt (wk eb []) 0 (val ((pb.drop 4).take 4))
/-- What Open takes of bytes: the restart, and the entries. -/
noncomputable def opn (b : List Nat) : Option (Nat × List En) :=
  if b.length < 8 then none
  else if b.length - 8 < 4 * val ((b.drop (b.length - 8)).take 4) then none
  else opn2 b (b.length - 8 - 4 * val ((b.drop (b.length - 8)).take 4))
where
  opn2 (b : List Nat) (p : Nat) : Option (Nat × List En) := opn3 b (b.take p) (rst (b.take p) ((b.drop p).take (b.length - 8 - p)))
  opn3 (b eb : List Nat) (r : Nat) : Option (Nat × List En) := open Classical in
    if chain ⟨#[]⟩ ((wk eb []).map Prod.fst) ∧ blk (pushes (max r 1) st0 ((wk eb []).map Prod.fst)) = b then some (max r 1, (wk eb []).map Prod.fst) else none

theorem pushes_len4 (r : Nat) (l : List En) : 4 * ((pushes r st0 l).p.length / 4) = (pushes r st0 l).p.length := by
  have := pushes_p4 r l st0 (by simp [st0])
  omega
theorem blk_len (s : St) : (blk s).length = s.b.length + s.p.length + 8 := by simp [blk, blk0, four_len]; omega
theorem blk_tail (s : St) : (blk s).drop (s.b.length + s.p.length) = four (s.p.length / 4) ++ four (crc (blk0 s)) := by
  unfold blk blk0
  have : s.b ++ s.p ++ four (s.p.length / 4) ++ four (crc (s.b ++ s.p ++ four (s.p.length / 4))) = (s.b ++ s.p) ++ (four (s.p.length / 4) ++ four (crc (s.b ++ s.p ++ four (s.p.length / 4)))) := by simp
  rw [this, ← List.length_append, List.drop_left]

theorem rst_mk (r : Nat) (l : List En) (hr : 1 ≤ r) (hok : ∀ e ∈ l, Ok e ∧ 0 ≤ e.2.1) (hb : (pushes r st0 l).b.length < 4294967296) (hl : l.length ≤ 9223372036854775807) :
    1 ≤ rst (pushes r st0 l).b (pushes r st0 l).p ∧ pushes (rst (pushes r st0 l).b (pushes r st0 l).p) st0 l = pushes r st0 l := by
  by_cases hlr : l.length ≤ r
  · have hp : (pushes r st0 l).p.length / 4 < 2 := by
      by_cases hne : l = []
      · subst hne; rw [p_nil]; simp
      · rw [p_first r l hr hlr hne]; simp [four_len]
    unfold rst
    rw [if_pos hp]
    refine ⟨by omega, pushes_eq _ _ l st0 fun i hi => ?_⟩
    show (0 + i) % _ = 0 ↔ (0 + i) % r = 0
    rw [Nat.zero_add, mod_zero_small (by omega), mod_zero_small (by omega)]
  · obtain ⟨l1, e, l2, rfl, h1⟩ : ∃ l1 e l2, l = l1 ++ e :: l2 ∧ l1.length = r := by
      refine ⟨l.take r, l[r]'(by omega), l.drop (r + 1), ?_, by rw [List.length_take]; omega⟩
      rw [← List.drop_eq_getElem_cons, List.take_append_drop]
    obtain ⟨m, hm⟩ := p_second r l1 e l2 hr h1
    have hp : ¬ (pushes r st0 (l1 ++ e :: l2)).p.length / 4 < 2 := by rw [hm]; simp [four_len]
    have hb1 : (pushes r st0 l1).b.length < 4294967296 := by
      rw [pushes_app, pushes_b] at hb
      simp at hb; omega
    have hv : val (((pushes r st0 (l1 ++ e :: l2)).p.drop 4).take 4) = (pushes r st0 l1).b.length := by
      rw [hm]
      have e1 : (four 0 ++ (four (pushes r st0 l1).b.length ++ m)).drop 4 = four (pushes r st0 l1).b.length ++ m := List.drop_left (l₁ := four 0)
      have e2 : (four (pushes r st0 l1).b.length ++ m).take 4 = four (pushes r st0 l1).b.length := List.take_left (l₁ := four _)
      rw [e1, e2]
      exact four_val hb1
    have hw : wk (pushes r st0 (l1 ++ e :: l2)).b [] = szs r 0 [] (l1 ++ e :: l2) := by
      rw [pushes_b]
      exact wk_tl r _ hok 0 [] [] (.inl rfl)
    have hc : rst (pushes r st0 (l1 ++ e :: l2)).b (pushes r st0 (l1 ++ e :: l2)).p = r := by
      unfold rst
      rw [if_neg hp, hv, hw]
      obtain ⟨last', hs⟩ := szs_app r l1 (e :: l2) 0 []
      rw [hs, cnt_at _ _ (szs_pos _ _ _ _) (by simp [szs]), szs_length, h1]
      rw [szs_sum, pushes_b]
      show ([] ++ tl r 0 [] l1).length = _
      simp
    rw [hc]
    exact ⟨hr, rfl⟩

/-- What was made is opened again. -/
theorem opn_mk (r : Nat) (l : List En) (hr : 1 ≤ r) (hc : chain ⟨#[]⟩ l) (h0 : ∀ e ∈ l, 0 ≤ e.2.1) (hb : (pushes r st0 l).b.length < 4294967296) (hpl : (pushes r st0 l).p.length < 4294967296) (hl : l.length ≤ 9223372036854775807) :
    ∃ r', 1 ≤ r' ∧ opn (blk (pushes r st0 l)) = some (r', l) ∧ pushes r' st0 l = pushes r st0 l := by
  have hok : ∀ e ∈ l, Ok e ∧ 0 ≤ e.2.1 := fun e he => ⟨chain_ok hc e he, h0 e he⟩
  obtain ⟨h1, h2⟩ := rst_mk r l hr hok hb hl
  have h4 := pushes_len4 r l
  have hw : (wk (pushes r st0 l).b []).map Prod.fst = l := by
    rw [pushes_b]
    show (wk ([] ++ tl r 0 [] l) []).map Prod.fst = l
    rw [List.nil_append, wk_tl r _ hok 0 [] [] (.inl rfl), szs_map]
  generalize hS : pushes r st0 l = S at *
  have hL := blk_len S
  have hT := blk_tail S
  refine ⟨max (rst S.b S.p) 1, by omega, ?_, by rw [Nat.max_eq_left h1]; exact h2⟩
  have e0 : (blk S).length - 8 = S.b.length + S.p.length := by omega
  have e1 : val (((blk S).drop ((blk S).length - 8)).take 4) = S.p.length / 4 := by
    rw [e0, hT]
    have : (four (S.p.length / 4) ++ four (crc (blk0 S))).take 4 = four (S.p.length / 4) := List.take_left (l₁ := four _)
    rw [this]
    exact four_val (by omega)
  have e2 : blk S = S.b ++ (S.p ++ (four (S.p.length / 4) ++ four (crc (blk0 S)))) := by simp [blk, blk0]
  unfold opn
  rw [if_neg (by omega), e1, if_neg (by omega), h4, show (blk S).length - 8 - S.p.length = S.b.length by omega]
  unfold opn.opn2
  have e3 : (blk S).take S.b.length = S.b := by rw [e2]; exact List.take_left
  have e4 : ((blk S).drop S.b.length).take ((blk S).length - 8 - S.b.length) = S.p := by
    rw [show (blk S).length - 8 - S.b.length = S.p.length by omega]
    rw [e2, List.drop_left, List.take_left]
  rw [e3, e4]
  unfold opn.opn3
  rw [hw, if_pos ⟨hc, by rw [Nat.max_eq_left h1, h2]⟩]

theorem opn_is {b : List Nat} {r : Nat} {l : List En} (h : opn b = some (r, l)) : 1 ≤ r ∧ chain ⟨#[]⟩ l ∧ blk (pushes r st0 l) = b ∧ ∃ eb, l = (wk eb []).map Prod.fst := by
  unfold opn at h
  split at h
  · cases h
  split at h
  · cases h
  unfold opn.opn2 opn.opn3 at h
  split at h
  · rename_i h1
    cases h
    exact ⟨by omega, h1.1, h1.2, _, rfl⟩
  · cases h
/-- A restart from 1 to the number of the entries. -/
theorem some_restart {r : Nat} {l : List En} (hr : 1 ≤ r) : ∃ r', 1 ≤ r' ∧ (r' ≤ l.length ∨ r' = 1) ∧ pushes r' st0 l = pushes r st0 l := by
  by_cases hl : r ≤ l.length
  · exact ⟨r, hr, .inl hl, rfl⟩
  · by_cases h0 : l = []
    · subst h0; exact ⟨1, by omega, .inr rfl, rfl⟩
    · have : 0 < l.length := List.length_pos_iff.2 h0
      refine ⟨l.length, by omega, .inl (Nat.le_refl _), pushes_eq _ _ l st0 fun i hi => ?_⟩
      show (0 + i) % _ = 0 ↔ (0 + i) % r = 0
      rw [Nat.zero_add, mod_zero_small hi, mod_zero_small (by omega)]

/-- Numbers of entries that were read are not below 0. -/
theorem wk_nonneg (n : Nat) : ∀ b ah, b.length ≤ n → ∀ x ∈ wk b ah, 0 ≤ x.1.2.1 := by
  induction n with
  | zero =>
    intro b ah hb x hx
    have : b = [] := List.eq_nil_of_length_eq_zero (by omega)
    subst this
    rw [wk_nil] at hx
    simp at hx
  | succ n ih =>
    intro b ah hb x hx
    rw [wk] at hx
    split at hx
    · simp at hx
    · rename_i hne
      have hpos : 0 < b.length := List.length_pos_iff.2 hne
      split at hx
      · simp at hx
      · rename_i y hy
        split at hx
        · simp at hx
        · rename_i hz
          rcases List.mem_cons.1 hx with rfl | hx
          · unfold rdE at hy
            split at hy
            · cases hy
            split at hy
            · cases hy
            split at hy
            · cases hy
            unfold rdE.rdK at hy
            split at hy
            · cases hy
            split at hy
            · cases hy; exact Int.natCast_nonneg _
            split at hy
            · cases hy
            · cases hy; exact Int.natCast_nonneg _
          · exact ih _ _ (by simp; omega) x hx

end Qb
end Go.Proofs.YtnoipjeoclkeoaaGreatDoor
