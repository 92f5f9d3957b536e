import Derived.Test.YtcmbogogakdeoaaDoorLgM
namespace Go.Proofs.YtcmbogogakdeoaaDoor
namespace Lg
open CMath
set_option linter.unusedVariables false

theorem val_four {l : List Nat} (h4 : l.length = 4) (hl : ∀ x ∈ l, x < 256) : four (val l) = l := by
  refine val_inj _ _ (four_byte _) hl (by rw [h4]; rfl) ?_
  refine four_val ?_
  have := val_lt l hl
  rw [h4] at this
  omega

/-- the length that the head at d's beginning tells -/
def hl (d : List Nat) : Nat := d.getD 4 0 + 256 * d.getD 5 0
/-- is the sum of the piece at d's beginning right? -/
def Sums (d : List Nat) : Prop := d.take 4 = four (crc ((d.drop 4).take (hl d + 3)))

theorem pie_pre {k : Nat} {p d : List Nat} (hp : p.length < 65536) (hd : ∀ x ∈ d, x < 256) : pie k p <+: d ↔ 7 + p.length ≤ d.length ∧ hl d = p.length ∧ d.getD 6 0 = k ∧ p = (d.drop 7).take p.length ∧ Sums d := by
  constructor
  · rintro ⟨t, rfl⟩
    have e7 : (pie k p ++ t).drop 7 = p ++ t := by simp [pie, body, four]
    have e4 : (pie k p ++ t).drop 4 = body k p ++ t := by simp [pie, body, four]
    have eh : hl (pie k p ++ t) = p.length := by simp [hl, pie, body, four]; omega
    refine ⟨by simp [pie_length]; omega, eh, by simp [pie, body, four], by rw [e7]; simp, ?_⟩
    unfold Sums
    rw [eh, e4, show p.length + 3 = (body k p).length by rw [body_length], List.take_left]
    simp [pie, four]
  · rintro ⟨h1, h2, h3, h4, h5⟩
    match d, h1, hd with
    | d0 :: d1 :: d2 :: d3 :: d4 :: d5 :: d6 :: d', h1, hd =>
      simp only [List.length_cons] at h1
      simp only [hl, List.getD_cons_succ, List.getD_cons_zero] at h2 h3
      simp only [List.drop_succ_cons, List.drop_zero] at h4
      have b4 : d4 < 256 := hd d4 (by simp)
      have b5 : d5 < 256 := hd d5 (by simp)
      have eh : hl (d0 :: d1 :: d2 :: d3 :: d4 :: d5 :: d6 :: d') = p.length := by simp only [hl, List.getD_cons_succ, List.getD_cons_zero]; omega
      have eb : (d4 :: d5 :: d6 :: d').take (p.length + 3) = body k p := by
        simp only [List.take_succ_cons, body, List.cons_append, List.nil_append]
        rw [← h4, h3, show p.length % 256 = d4 by omega, show p.length / 256 % 256 = d5 by omega]
      unfold Sums at h5
      rw [eh] at h5
      simp only [List.drop_succ_cons, List.drop_zero, List.take_succ_cons, List.take_zero] at h5
      rw [show d4 :: d5 :: d6 :: d'.take p.length = (d4 :: d5 :: d6 :: d').take (p.length + 3) by simp, eb] at h5
      refine ⟨d'.drop p.length, ?_⟩
      unfold pie
      rw [← h5, ← eb]
      simp
    | [], h1, _ => simp at h1
    | [_], h1, _ => simp at h1; omega
    | [_, _], h1, _ => simp at h1; omega
    | [_, _, _], h1, _ => simp at h1; omega
    | [_, _, _, _], h1, _ => simp at h1; omega
    | [_, _, _, _, _], h1, _ => simp at h1; omega
    | [_, _, _, _, _, _], h1, _ => simp at h1; omega

theorem kd_inj {a b c d : Bool} (h : kd a b = kd c d) : a = c ∧ b = d := by revert h; cases a <;> cases b <;> cases c <;> cases d <;> decide

/-- does the piece that ends the record stand at d's beginning? -/
def Ends (begun : Bool) (left : Nat) (d : List Nat) : Prop := 7 + hl d ≤ d.length ∧ d.getD 6 0 = kd begun true ∧ Sums d ∧ hl d ≤ left - 7 ∧ (begun = true → 0 < hl d)
/-- does a piece stand there that more follows? -/
def On (begun : Bool) (left : Nat) (d : List Nat) : Prop := 7 + hl d ≤ d.length ∧ d.getD 6 0 = kd begun false ∧ Sums d ∧ hl d = left - 7
def part (d : List Nat) : List Nat := (d.drop 7).take (hl d)
theorem part_length {d : List Nat} (h : 7 + hl d ≤ d.length) : (part d).length = hl d := by simp [part]; omega

theorem pre_drop {a b d : List Nat} (h : a ++ b <+: d) : b <+: d.drop a.length := by
  obtain ⟨t, rfl⟩ := h
  exact ⟨t, by simp⟩
theorem pre_app {a b d : List Nat} (h : a <+: d) (hb : b <+: d.drop a.length) : a ++ b <+: d := by
  obtain ⟨t, rfl⟩ := h
  obtain ⟨u, hu⟩ := hb
  refine ⟨u, ?_⟩
  rw [List.drop_left] at hu
  rw [List.append_assoc, hu]
theorem byte_drop {d : List Nat} (h : ∀ x ∈ d, x < 256) (n : Nat) : ∀ x ∈ d.drop n, x < 256 := fun x hx => h x (List.mem_of_mem_drop hx)

/-- What the piece at d's beginning says of the records that stand there. -/
theorem lay_ends {begun : Bool} {left : Nat} {d r : List Nat} (h8 : 8 ≤ left) (h5 : left ≤ 512) (hd : ∀ x ∈ d, x < 256) (hr : begun = true → r ≠ []) (he : Ends begun left d) : lay begun left r <+: d ↔ r = part d := by
  obtain ⟨h1, h2, h3, h4, h6⟩ := he
  have hpl := part_length h1
  constructor
  · intro h
    by_cases hf : r.length ≤ left - 7
    · rw [lay_end hf, pie_pre (by omega) hd] at h
      obtain ⟨_, g2, _, g4, _⟩ := h
      rw [g4, part, g2]
    · rw [lay_on hf h8] at h
      have := (pie_pre (by simp; omega) hd).1 ((List.prefix_append _ _).trans h)
      rw [this.2.2.1] at h2
      have := (kd_inj h2).2
      cases this
  · rintro rfl
    rw [lay_end (by omega), pie_pre (by omega) hd]
    exact ⟨by omega, by omega, h2, by rw [hpl]; rfl, h3⟩
theorem lay_ons {begun : Bool} {left : Nat} {d r : List Nat} (h8 : 8 ≤ left) (h5 : left ≤ 512) (hd : ∀ x ∈ d, x < 256) (hr : begun = true → r ≠ []) (he : On begun left d) : lay begun left r <+: d ↔ ∃ q, r = part d ++ q ∧ q ≠ [] ∧ lay true 512 q <+: d.drop (7 + (part d).length) := by
  obtain ⟨h1, h2, h3, h4⟩ := he
  have hpl := part_length h1
  constructor
  · intro h
    by_cases hf : r.length ≤ left - 7
    · rw [lay_end hf] at h
      have := (pie_pre (by omega) hd).1 h
      rw [this.2.2.1] at h2
      have := (kd_inj h2).2
      cases this
    · rw [lay_on hf h8] at h
      obtain ⟨_, g2, _, g4, _⟩ := (pie_pre (by simp; omega) hd).1 ((List.prefix_append _ _).trans h)
      have hp := pre_drop h
      rw [pie_length] at hp
      have e : r.take (left - 7) = part d := by
        rw [g4, part, g2]
      refine ⟨r.drop (left - 7), ?_, ?_, ?_⟩
      · rw [← e, List.take_append_drop]
      · intro hn
        have := congrArg List.length hn
        simp at this
        omega
      · rw [← e, Nat.add_comm]
        exact hp
  · rintro ⟨q, rfl, hq, hlq⟩
    have hq1 : 0 < q.length := List.length_pos_iff.2 hq
    rw [lay_on (by simp; omega) h8, show left - 7 = (part d).length by omega, List.take_left, List.drop_left]
    refine pre_app ((pie_pre (by omega) hd).2 ⟨by omega, by omega, h2, by rw [hpl]; rfl, h3⟩) ?_
    rw [pie_length, Nat.add_comm]
    exact hlq
theorem lay_none {begun : Bool} {left : Nat} {d r : List Nat} (h8 : 8 ≤ left) (h5 : left ≤ 512) (hd : ∀ x ∈ d, x < 256) (hr : begun = true → r ≠ []) (h1 : ¬ Ends begun left d) (h2 : ¬ On begun left d) : ¬ lay begun left r <+: d := by
  intro h
  by_cases hf : r.length ≤ left - 7
  · rw [lay_end hf, pie_pre (by omega) hd] at h
    obtain ⟨g1, g2, g3, g4, g5⟩ := h
    exact h1 ⟨by omega, g3, g5, by omega, fun hb => by have := List.length_pos_iff.2 (hr hb); omega⟩
  · rw [lay_on hf h8] at h
    obtain ⟨g1, g2, g3, g4, g5⟩ := (pie_pre (by simp; omega) hd).1 ((List.prefix_append _ _).trans h)
    simp only [List.length_take] at g1 g2
    exact h2 ⟨by omega, g3, g5, by omega⟩

/-- a record stands behind the first n bytes of b -/
def Std (b : List Nat) (n : Nat) (r : List Nat) : Prop := app n r <+: b.drop n
/-- what is left of a record stands there -/
def Sta (b : List Nat) (begun : Bool) (n : Nat) (r : List Nat) : Prop := (begun = true → r ≠ []) ∧ lay begun (512 - n % 512) r <+: b.drop n

theorem lay_uniq (n : Nat) : ∀ (begun : Bool) (left : Nat) (d r s : List Nat), r.length ≤ n → 8 ≤ left → left ≤ 512 → (∀ x ∈ d, x < 256) → (begun = true → r ≠ []) → (begun = true → s ≠ []) → lay begun left r <+: d → lay begun left s <+: d → r = s := by
  induction n with
  | zero =>
    intro begun left d r s hn h8 h5 hd hr hs h g
    obtain rfl : r = [] := List.eq_nil_of_length_eq_zero (by omega)
    by_cases he : Ends begun left d
    · rw [lay_ends h8 h5 hd hr he] at h
      rw [lay_ends h8 h5 hd hs he] at g
      rw [h, g]
    · by_cases ho : On begun left d
      · rw [lay_ons h8 h5 hd hr ho] at h
        obtain ⟨q, hq, hq1, _⟩ := h
        exact absurd (List.append_eq_nil_iff.1 hq.symm).2 hq1
      · exact absurd h (lay_none h8 h5 hd hr he ho)
  | succ n ih =>
    intro begun left d r s hn h8 h5 hd hr hs h g
    by_cases he : Ends begun left d
    · rw [lay_ends h8 h5 hd hr he] at h
      rw [lay_ends h8 h5 hd hs he] at g
      rw [h, g]
    · by_cases ho : On begun left d
      · rw [lay_ons h8 h5 hd hr ho] at h
        rw [lay_ons h8 h5 hd hs ho] at g
        obtain ⟨q, rfl, hq1, hq⟩ := h
        obtain ⟨q', rfl, hq1', hq'⟩ := g
        have hpl := part_length ho.1
        have := ho.2.2.2
        simp only [List.length_append] at hn
        rw [ih true 512 _ q q' (by omega) (by omega) (by omega) (byte_drop hd _) (fun _ => hq1) (fun _ => hq1') hq hq']
      · exact absurd h (lay_none h8 h5 hd hr he ho)
theorem zer_length (n : Nat) : (zer n).length = n := by simp [zer]
/-- where the pieces of a record begin that is laid behind the first n bytes -/
def beg (n : Nat) : Nat := if 512 - n % 512 < 8 then n + (512 - n % 512) else n
theorem beg_left (n : Nat) : 8 ≤ 512 - beg n % 512 ∧ 512 - beg n % 512 ≤ 512 := by unfold beg; split <;> omega
/-- what must be zeros is -/
def Zs (b : List Nat) (n : Nat) : Prop := 512 - n % 512 < 8 → zer (512 - n % 512) <+: b.drop n
theorem std_iff {b : List Nat} {n : Nat} {r : List Nat} : Std b n r ↔ Zs b n ∧ Sta b false (beg n) r := by
  unfold Std Zs Sta app beg
  split
  · rename_i h
    have e : (n + (512 - n % 512)) % 512 = 0 := by omega
    rw [e]
    constructor
    · intro g
      refine ⟨fun _ => (List.prefix_append _ _).trans g, by simp, ?_⟩
      have := pre_drop g
      rw [zer_length, List.drop_drop] at this
      exact this
    · rintro ⟨g1, _, g2⟩
      refine pre_app (g1 h) ?_
      rw [zer_length, List.drop_drop]
      exact g2
  · rename_i h
    exact ⟨fun g => ⟨fun h' => absurd h' h, by simp, g⟩, fun g => g.2.2⟩
theorem std_uniq {b : List Nat} (hb : ∀ x ∈ b, x < 256) {n : Nat} {r s : List Nat} (h : Std b n r) (g : Std b n s) : r = s := by
  rw [std_iff] at h g
  have := beg_left n
  exact lay_uniq _ false _ _ r s (Nat.le_refl _) this.1 this.2 (byte_drop hb _) (by simp) (by simp) h.2.2 g.2.2

end Lg
end Go.Proofs.YtcmbogogakdeoaaDoor
