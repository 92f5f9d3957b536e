import Derived.Test.YtcmbogogakdeoaaDoorLgX
namespace Go.Proofs.YtcmbogogakdeoaaDoor
namespace Lg
open CMath
set_option linter.unusedVariables false
set_option maxRecDepth 100000

/-- After i of the 32 bits: l is what b has become, t bits were turned. -/
structure Tn (b : List Nat) (at' e n : Nat) (is : Bool) (i : Nat) (l : List Nat) (t : Nat) : Prop where
  byte : ∀ x ∈ l, x < 256
  len : l.length = b.length
  turn : ∃ F, F < 2 ^ i ∧ val l = val b ^^^ 2 ^ at' * F ∧ (t = 0 ↔ F = 0)
  drop : l.drop e = b.drop e
  keep : is = true → l.getD (n + 4) 0 = b.getD (n + 4) 0 ∧ l.getD (n + 5) 0 = b.getD (n + 5) 0
theorem Tn.zero {b : List Nat} (hb : ∀ x ∈ b, x < 256) (at' e n : Nat) (is : Bool) : Tn b at' e n is 0 b 0 :=
  ⟨hb, rfl, ⟨0, by simp, by simp, by simp⟩, rfl, fun _ => ⟨rfl, rfl⟩⟩
theorem Tn.skip {b l : List Nat} {at' e n i t : Nat} {is : Bool} (h : Tn b at' e n is i l t) : Tn b at' e n is (i + 1) l t := by
  obtain ⟨F, h1, h2, h3⟩ := h.turn
  exact ⟨h.byte, h.len, ⟨F, by rw [Nat.pow_succ]; omega, h2, h3⟩, h.drop, h.keep⟩
theorem getD_set_ne {l : List Nat} {i j v : Nat} (h : i ≠ j) : (l.set i v).getD j 0 = l.getD j 0 := by simp [List.getD, List.getElem?_set_ne h]
theorem Tn.bit {b l : List Nat} {at' e n i t z : Nat} {is : Bool} (h : Tn b at' e n is i l t) (hz : l[(at' + i) / 8]? = some z) (he : (at' + i) / 8 < e) (hi : is = true → (at' + i) / 8 ≠ n + 4 ∧ (at' + i) / 8 ≠ n + 5) : Tn b at' e n is (i + 1) (l.set ((at' + i) / 8) (z ^^^ 2 ^ ((at' + i) % 8))) (t + 1) := by
  obtain ⟨F, h1, h2, h3⟩ := h.turn
  have hz8 : z < 256 := h.byte z (List.mem_of_getElem? hz)
  refine ⟨fun x hx => ?_, by rw [List.length_set]; exact h.len, ⟨F ^^^ 2 ^ i, ?_, ?_, ?_⟩, ?_, fun his => ?_⟩
  · rcases List.mem_or_eq_of_mem_set hx with hx | rfl
    · exact h.byte x hx
    · exact xor_byte hz8 (by omega)
  · have : 2 ^ i < 2 ^ (i + 1) := Nat.pow_lt_pow_right (by omega) (by omega)
    exact Nat.xor_lt_two_pow (by omega) this
  · rw [val_set l h.byte _ _ _ hz (by omega), h2, mul_xor, ← Nat.pow_add, show 8 * ((at' + i) / 8) + (at' + i) % 8 = at' + i by omega, Nat.xor_assoc]
  · refine ⟨fun z => by omega, fun z => ?_⟩
    have e2 : F = 2 ^ i := by
      have := congrArg (· ^^^ 2 ^ i) z
      simpa [Nat.xor_assoc] using this
    omega
  · rw [List.drop_set, if_pos he]
    exact h.drop
  · rw [getD_set_ne (hi his).1, getD_set_ne (hi his).2]
    exact h.keep his
/-- All 32 bits: where one was turned, the reading ends ahead of the record. -/
theorem Tn.reads {recs : List (List Nat)} (hr : ∀ r ∈ recs, ∀ x ∈ r, x < 256) {k n e at' t : Nat} {is : Bool} {l : List Nat} (hs : Stn recs k n) (h : Tn (laidF [] recs) at' e n is 32 l t) (ht : t ≠ 0) (h8 : 8 * n ≤ at') (hz : 512 - n % 512 < 8 → e = n - n % 512 + 512) (hp : 8 ≤ 512 - n % 512 → e = n + 7 + hl ((laidF [] recs).drop n) ∧ is = true) : Reads l (recs.take k) := by
  obtain ⟨F, h1, h2, h3⟩ := h.turn
  exact turned_ends hr hs h.byte h.len h2 (by simpa using h1) (fun z => ht (h3.2 z)) h8 h.drop hz (fun h9 => ⟨(hp h9).1, h.keep (hp h9).2⟩)
/-- Then not all of the bytes are read. -/
theorem reads_short {recs : List (List Nat)} {k n : Nat} (hs : Stn recs k n) : (laidF [] (recs.take k)).length ≠ (laidF [] recs).length := by
  obtain ⟨h1, h2, h3⟩ := stn_in hs
  have := (pk_next (List.getElem?_eq_getElem h3)).2.2
  unfold Pk at *
  omega
/-- The law's first loop: the next station, as the law's own 'piece' tells it. -/
theorem stn_on {recs : List (List Nat)} (hr : ∀ r ∈ recs, ∀ x ∈ r, x < 256) {k n e : Nat} (h : Stn recs k n) (hz : 512 - n % 512 < 8 → e = n - n % 512 + 512) (hp : 8 ≤ 512 - n % 512 → e = n + 7 + hl ((laidF [] recs).drop n)) : n < e ∧ e ≤ (laidF [] recs).length ∧ (e < (laidF [] recs).length → ∃ k', Stn recs k' e) := by
  have hin := stn_in h
  rcases stn_step hr h with ⟨h8, hn, h1, h2⟩ | ⟨h8, h1, h2⟩
  · rw [hz h8]
    exact ⟨by omega, h1, fun _ => ⟨k, h2⟩⟩
  · rw [hp h8]
    refine ⟨by omega, h1, fun hlt => ?_⟩
    rcases h2 with h2 | h2
    · have hk : k + 1 < recs.length := by
        rcases Nat.lt_or_ge (k + 1) recs.length with g | g
        · exact g
        · exfalso
          rw [h2] at hlt
          unfold Pk at hlt
          rw [List.take_of_length_le g] at hlt
          omega
      refine ⟨k + 1, ?_⟩
      rw [h2]
      exact stn_first hk
    · exact ⟨k, h2⟩
end Lg
end Go.Proofs.YtcmbogogakdeoaaDoor
