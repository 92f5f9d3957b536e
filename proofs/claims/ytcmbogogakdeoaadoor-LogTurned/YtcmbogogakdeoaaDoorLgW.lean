import Derived.Test.YtcmbogogakdeoaaDoorLgV
namespace Go.Proofs.YtcmbogogakdeoaaDoor
namespace Lg
open CMath
set_option linter.unusedVariables false
set_option maxRecDepth 100000

/-- m bytes behind the place where r is laid stands a piece of it: what is left of r then. -/
inductive StL : Bool → Nat → List Nat → Nat → Bool → Nat → List Nat → Prop
  | here (b : Bool) (l : Nat) (r : List Nat) : StL b l r 0 b l r
  | next {b : Bool} {l : Nat} {r : List Nat} {m : Nat} {b' : Bool} {l' : Nat} {r' : List Nat} (h : ¬ r.length ≤ l - 7) (g : StL true 512 (r.drop (l - 7)) m b' l' r') : StL b l r (l + m) b' l' r'
theorem StL.snoc {b b' : Bool} {l l' m : Nat} {r r' : List Nat} (h : StL b l r m b' l' r') (hf : ¬ r'.length ≤ l' - 7) : StL b l r (m + l') true 512 (r'.drop (l' - 7)) := by
  induction h with
  | here b l r =>
    have := StL.next (b := b) hf (StL.here true 512 (r.drop (l - 7)))
    rw [Nat.add_zero] at this
    rw [Nat.zero_add]
    exact this
  | next h g ih =>
    rw [Nat.add_assoc]
    exact StL.next h (ih hf)
theorem StL.room {b b' : Bool} {l l' m : Nat} {r r' : List Nat} (h : StL b l r m b' l' r') (h8 : 8 ≤ l) (h5 : l ≤ 512) (hr : b = true → r ≠ []) : 8 ≤ l' ∧ l' ≤ 512 ∧ (b' = true → r' ≠ []) ∧ (lay b l r).length = m + (lay b' l' r').length ∧ (lay b l r).drop m = lay b' l' r' ∧ ∀ n, l = 512 - n % 512 → l' = 512 - (n + m) % 512 := by
  induction h with
  | here b l r => exact ⟨h8, h5, hr, by omega, rfl, fun n hn => hn⟩
  | @next b l r m b' l' r' hf g ih =>
    have hne : r.drop (l - 7) ≠ [] := fun e => by
      have := congrArg List.length e
      simp at this
      omega
    obtain ⟨i1, i2, i3, i4, i5, i6⟩ := ih (by omega) (by omega) (fun _ => hne)
    have hpl : (pie (kd b false) (r.take (l - 7))).length = l := by rw [pie_length, List.length_take]; omega
    refine ⟨i1, i2, i3, ?_, ?_, fun n hn => ?_⟩
    · rw [lay_on hf h8, List.length_append, hpl, i4]; omega
    · rw [lay_on hf h8, ← List.drop_drop]
      have e := List.drop_left (l₁ := pie (kd b false) (r.take (l - 7))) (l₂ := lay true 512 (r.drop (l - 7)))
      rw [hpl] at e
      rw [e]
      exact i5
    · rw [i6 (n + l) (by omega), Nat.add_assoc]
/-- Where the bytes ahead of a piece are as they were, and none stands there any more, no record does. -/
theorem StL.dead {b b' : Bool} {l l' m : Nat} {r r' : List Nat} (h : StL b l r m b' l' r') : ∀ {d d' : List Nat}, 8 ≤ l → l ≤ 512 → (∀ x ∈ d', x < 256) → lay b l r <+: d → d'.take m = d.take m → (∀ s, (b' = true → s ≠ []) → ¬ lay b' l' s <+: d'.drop m) → ∀ s, (b = true → s ≠ []) → ¬ lay b l s <+: d' := by
  induction h with
  | here b l r => intro d d' _ _ _ _ _ hn s hs; exact hn s hs
  | @next b l r m b' l' r' hf g ih =>
    intro d d' h8 h5 hd' hp he hn s hs hl'
    have hpl : (pie (kd b false) (r.take (l - 7))).length = l := by rw [pie_length, List.length_take]; omega
    have htl : (r.take (l - 7)).length = l - 7 := by rw [List.length_take]; omega
    rw [lay_on hf h8] at hp
    have hpd : pie (kd b false) (r.take (l - 7)) <+: d' := by
      have h1 : pie (kd b false) (r.take (l - 7)) <+: d.take (l + m) := List.prefix_take_iff.2 ⟨(List.prefix_append _ _).trans hp, by omega⟩
      rw [← he] at h1
      exact h1.trans (List.take_prefix _ _)
    obtain ⟨g1, g2, g3, g4, g5⟩ := (pie_pre (by omega) hd').1 hpd
    have hon : On b l d' := ⟨by omega, g3, g5, by omega⟩
    obtain ⟨q, rfl, hq, hlq⟩ := (lay_ons h8 h5 hd' hs hon).1 hl'
    have hpt : 7 + (part d').length = l := by rw [part_length hon.1]; omega
    rw [hpt] at hlq
    have hp2 := pre_drop hp
    rw [hpl] at hp2
    refine ih (d := d.drop l) (d' := d'.drop l) (by omega) (by omega) (byte_drop hd' _) hp2 ?_ ?_ q (fun _ => hq) hlq
    · have := congrArg (List.drop l) he
      rw [List.drop_take, List.drop_take, show l + m - l = m by omega] at this
      exact this
    · rw [List.drop_drop]
      exact hn
/-- Bits turned behind the first n bytes. -/
theorem turn_drop {b b' : List Nat} {at' F n : Nat} (hb : ∀ x ∈ b, x < 256) (hb' : ∀ x ∈ b', x < 256) (hlen : b'.length = b.length) (hv : val b' = val b ^^^ 2 ^ at' * F) (hn : n ≤ b.length) (h8 : 8 * n ≤ at') : b'.take n = b.take n ∧ val (b'.drop n) = val (b.drop n) ^^^ 2 ^ (at' - 8 * n) * F := by
  have l1 : (b.take n).length = n := by simp; omega
  have l2 : (b'.take n).length = n := by simp; omega
  have t1 := lt_pow8 _ (mem_take (n := n) hb)
  have t2 := lt_pow8 _ (mem_take (n := n) hb')
  rw [l1] at t1
  rw [l2] at t2
  have hp : 0 < 2 ^ (8 * n) := Nat.pow_pos (by omega)
  have e : 2 ^ at' * F = 0 + 2 ^ (8 * n) * (2 ^ (at' - 8 * n) * F) := by rw [Nat.zero_add, ← Nat.mul_assoc, ← Nat.pow_add, show 8 * n + (at' - 8 * n) = at' by omega]
  rw [val_take_drop b n hn, val_take_drop b' n (by omega), e, split2 t1 hp, Nat.xor_zero] at hv
  have hm := congrArg (· % 2 ^ (8 * n)) hv
  have hq := congrArg (· / 2 ^ (8 * n)) hv
  simp only [Nat.add_mul_mod_self_left, Nat.mod_eq_of_lt t1, Nat.mod_eq_of_lt t2] at hm
  simp only [Nat.add_mul_div_left _ _ hp, Nat.div_eq_of_lt t1, Nat.div_eq_of_lt t2, Nat.zero_add] at hq
  exact ⟨val_inj _ _ (mem_take hb') (mem_take hb) (by rw [l1, l2]) hm, hq⟩
/-- Bits turned ahead of the n-th byte. -/
theorem turn_take {d d' : List Nat} {E n : Nat} (hd : ∀ x ∈ d, x < 256) (hd' : ∀ x ∈ d', x < 256) (hlen : d'.length = d.length) (hn : n ≤ d.length) (hv : val d' = val d ^^^ E) (he : d'.drop n = d.drop n) : val (d'.take n) = val (d.take n) ^^^ E := by
  have l1 : (d.take n).length = n := by simp; omega
  have l2 : (d'.take n).length = n := by simp; omega
  have t1 := lt_pow8 _ (mem_take (n := n) hd)
  have t2 := lt_pow8 _ (mem_take (n := n) hd')
  rw [l1] at t1
  rw [l2] at t2
  have h := xor_of hv
  rw [val_take_drop d n hn, val_take_drop d' n (by omega), he, split2 t1 t2, Nat.xor_self, Nat.mul_zero, Nat.add_zero] at h
  rw [← h, ← Nat.xor_assoc, Nat.xor_self, Nat.zero_xor]
end Lg
end Go.Proofs.YtcmbogogakdeoaaDoor
