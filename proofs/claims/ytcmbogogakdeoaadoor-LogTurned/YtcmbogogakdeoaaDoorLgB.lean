import Derived.Test.YtcmbogogakdeoaaDoorLgR
namespace Go.Proofs.YtcmbogogakdeoaaDoor
namespace Lg
open CMath
set_option linter.unusedVariables false

/-- a log of records -/
def laidF (acc : List Nat) (recs : List (List Nat)) : List Nat := recs.foldl (fun a r => a ++ app a.length r) acc
theorem laidF_nil (acc : List Nat) : laidF acc [] = acc := rfl
theorem laidF_cons (acc r : List Nat) (rs : List (List Nat)) : laidF acc (r :: rs) = laidF (acc ++ app acc.length r) rs := rfl
theorem laidF_append (acc : List Nat) (a b : List (List Nat)) : laidF acc (a ++ b) = laidF (laidF acc a) b := by simp [laidF]
theorem laidF_pre (rs : List (List Nat)) : ∀ acc, acc <+: laidF acc rs := by
  induction rs with
  | nil => intro acc; exact List.prefix_refl _
  | cons r rs ih => intro acc; exact (List.prefix_append _ _).trans (ih _)
theorem laidF_take (acc : List Nat) (rs : List (List Nat)) (k : Nat) : laidF acc (rs.take k) <+: laidF acc rs := by
  conv => rhs; rw [← List.take_append_drop k rs, laidF_append]
  exact laidF_pre _ _
theorem app_pos (n : Nat) (r : List Nat) : 0 < (app n r).length := by
  unfold app
  have hl : ∀ b l, 8 ≤ l → 0 < (lay b l r).length := by
    intro b l h8
    by_cases h : r.length ≤ l - 7
    · rw [lay_end h, pie_length]; omega
    · rw [lay_on h h8, List.length_append, pie_length]; omega
  split
  · have := hl false 512 (by omega)
    simp only [List.length_append]; omega
  · exact hl _ _ (by omega)
theorem laidF_byte (rs : List (List Nat)) : ∀ acc, (∀ x ∈ acc, x < 256) → (∀ r ∈ rs, ∀ x ∈ r, x < 256) → ∀ x ∈ laidF acc rs, x < 256 := by
  induction rs with
  | nil => intro acc h _; exact h
  | cons r rs ih =>
    intro acc h hr
    refine ih _ (fun x hx => ?_) (fun q hq => hr q (List.mem_cons_of_mem _ hq))
    rcases List.mem_append.1 hx with hx | hx
    · exact h x hx
    · exact app_byte (hr r (List.mem_cons_self ..)) x hx
theorem std_of_pre {c acc r : List Nat} (h : acc ++ app acc.length r <+: c) : Std c acc.length r := pre_drop h
theorem pre_of_std {c acc r : List Nat} (h : acc <+: c) (hs : Std c acc.length r) : acc ++ app acc.length r <+: c := pre_app h hs

/-- What Read answers of b. -/
def Reads (b : List Nat) (recs : List (List Nat)) : Prop := laidF [] recs <+: b ∧ ∀ r, ¬ Std b (laidF [] recs).length r
theorem reads_pre {c : List Nat} (hc : ∀ x ∈ c, x < 256) (recs : List (List Nat)) : ∀ (acc : List Nat) (rs : List (List Nat)), laidF acc recs <+: c → laidF acc rs <+: c → (∀ r, ¬ Std c (laidF acc rs).length r) → recs <+: rs := by
  induction recs with
  | nil => intro acc rs _ _ _; exact List.nil_prefix
  | cons r recs ih =>
    intro acc rs h g hn
    have hs : Std c acc.length r := std_of_pre ((laidF_pre recs _).trans h)
    cases rs with
    | nil => exact absurd hs (hn r)
    | cons r' rs =>
      obtain rfl := std_uniq hc hs (std_of_pre ((laidF_pre rs _).trans g))
      obtain ⟨t, ht⟩ := ih _ rs h g hn
      exact ⟨t, by rw [← ht]; rfl⟩
theorem Reads.more {b : List Nat} (hb : ∀ x ∈ b, x < 256) {rs recs : List (List Nat)} (h : Reads b rs) (hp : laidF [] recs <+: b) : recs <+: rs := reads_pre hb recs [] rs hp h.1 h.2
theorem pre_antisymm {α : Type} {a b : List α} (h : a <+: b) (g : b <+: a) : a = b := h.eq_of_length (Nat.le_antisymm h.length_le g.length_le)
theorem Reads.uniq {b : List Nat} (hb : ∀ x ∈ b, x < 256) {rs recs : List (List Nat)} (h : Reads b rs) (g : Reads b recs) : rs = recs := pre_antisymm (Reads.more hb g h.1) (Reads.more hb h g.1)
theorem not_std_end (b : List Nat) (n : Nat) (r : List Nat) (h : b.length ≤ n) : ¬ Std b n r := by
  intro hs
  unfold Std at hs
  rw [List.drop_of_length_le h] at hs
  have h1 := hs.length_le
  have h2 := app_pos n r
  rw [List.length_nil] at h1
  omega
/-- P7.8: what was laid is read again. -/
theorem back_all (recs : List (List Nat)) : Reads (laidF [] recs) recs := ⟨List.prefix_refl _, fun r => not_std_end _ _ r (Nat.le_refl _)⟩
theorem std_grow {b c : List Nat} {n : Nat} {r : List Nat} (h : b <+: c) (hs : Std b n r) : Std c n r := by
  obtain ⟨t, rfl⟩ := h
  unfold Std at *
  by_cases hn : n ≤ b.length
  · rw [List.drop_append_of_le_length hn]
    exact hs.trans (List.prefix_append _ _)
  · exact absurd hs (not_std_end b n r (by omega))
theorem std_fits {b : List Nat} {n : Nat} {r : List Nat} (hs : Std b n r) : n + (app n r).length ≤ b.length := by
  by_cases hn : n ≤ b.length
  · have := hs.length_le
    simp at this
    omega
  · exact absurd hs (not_std_end b n r (by omega))
/-- of a first part: the records that lie wholly in it. -/
theorem back_cut (recs : List (List Nat)) (hr : ∀ r ∈ recs, ∀ x ∈ r, x < 256) (cut whole : Nat) (hw : whole ≤ recs.length) (hin : (laidF [] (recs.take whole)).length ≤ cut) (hout : whole < recs.length → cut < (laidF [] (recs.take (whole + 1))).length) : Reads ((laidF [] recs).take cut) (recs.take whole) := by
  have hb := laidF_byte recs [] (by simp) hr
  refine ⟨List.prefix_take_iff.2 ⟨laidF_take _ _ _, hin⟩, fun r hs => ?_⟩
  have hs2 := std_grow (List.take_prefix _ _) hs
  rcases Nat.lt_or_ge whole recs.length with hlt | hge
  · have e : recs.take (whole + 1) = recs.take whole ++ [recs[whole]] := by rw [List.take_add_one, List.getElem?_eq_getElem hlt]; rfl
    have hp := laidF_take [] recs (whole + 1)
    rw [e, laidF_append] at hp
    have hq : Std (laidF [] recs) (laidF [] (recs.take whole)).length recs[whole] := std_of_pre hp
    obtain rfl := std_uniq hb hs2 hq
    have h1 := std_fits hs
    have h2 := hout hlt
    rw [e, laidF_append] at h2
    simp only [laidF_cons, laidF_nil, List.length_append, List.length_take] at h1 h2
    omega
  · rw [List.take_of_length_le hge] at hs2
    exact not_std_end _ _ r (Nat.le_refl _) hs2

end Lg
end Go.Proofs.YtcmbogogakdeoaaDoor
