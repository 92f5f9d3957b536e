import Derived.Test.YtcmbogogakdeoaaDoorLgU
namespace Go.Proofs.YtcmbogogakdeoaaDoor
namespace Lg
open CMath
set_option linter.unusedVariables false
set_option maxRecDepth 100000

theorem two_at {d : List Nat} (h : 6 ≤ d.length) : (d.drop 4).take 2 = [d.getD 4 0, d.getD 5 0] := by
  match d, h with
  | a :: b :: c :: e :: f :: g :: r, _ => rfl
  | [], h => simp at h
  | [_], h => simp at h
  | [_, _], h => simp at h
  | [_, _, _], h => simp at h
  | [_, _, _, _], h => simp at h
  | [_, _, _, _, _], h => simp at h
theorem at_six {d : List Nat} (h : 7 ≤ d.length) (H : Nat) : (d.drop 6).take (H + 1) = d.getD 6 0 :: (d.drop 7).take H := by
  have e : d.drop 6 = d.getD 6 0 :: d.drop 7 := by
    rw [List.drop_eq_getElem_cons (by omega)]
    congr 1
    simp [List.getD, List.getElem?_eq_getElem (show 6 < d.length by omega)]
  rw [e, List.take_succ_cons]
theorem body_parts (d : List Nat) (H : Nat) : (d.drop 4).take (H + 3) = (d.drop 4).take 2 ++ (d.drop 6).take (H + 1) := by
  rw [show H + 3 = 2 + (H + 1) by omega, List.take_add, List.drop_drop]
theorem all_parts (d : List Nat) (H : Nat) : d.take (7 + H) = d.take 4 ++ ((d.drop 4).take 2 ++ (d.drop 6).take (H + 1)) := by
  rw [← body_parts, show 7 + H = 4 + (H + 3) by omega, List.take_add]
theorem kd_xor (a b c : Bool) : kd a b ^^^ kd a c = 0 ∨ kd a b ^^^ kd a c = 3 ∨ kd a b ^^^ kd a c = 7 := by cases a <;> cases b <;> cases c <;> decide
theorem xor_of {x y e : Nat} (h : y = x ^^^ e) : x ^^^ y = e := by rw [h, ← Nat.xor_assoc, Nat.xor_self, Nat.zero_xor]
/-- Bits turned in a piece: it is none any more. -/
theorem dead {d d' : List Nat} {begun : Bool} {a F : Nat} (hd : ∀ x ∈ d, x < 256) (hd' : ∀ x ∈ d', x < 256) (hlen : d'.length = d.length) (h7 : 7 + hl d ≤ d.length) (hH : hl d < 506) (e4 : d'.getD 4 0 = d.getD 4 0) (e5 : d'.getD 5 0 = d.getD 5 0) (hs : Sums d) (hk : ∃ en, d.getD 6 0 = kd begun en)
    (hv : val (d'.take (7 + hl d)) = val (d.take (7 + hl d)) ^^^ 2 ^ a * F) (hF : F < 4294967296) (hF0 : F ≠ 0) : ¬ (Sums d' ∧ ∃ en, d'.getD 6 0 = kd begun en) := by
  rintro ⟨hs', en', hk'⟩
  obtain ⟨en, hk⟩ := hk
  have hh : hl d' = hl d := by unfold hl; rw [e4, e5]
  unfold Sums at hs hs'
  rw [hh] at hs'
  generalize hl d = H at *
  have hX : (d'.drop 4).take 2 = (d.drop 4).take 2 := by rw [two_at (by omega), two_at (by omega), e4, e5]
  rw [body_parts] at hs hs'
  rw [all_parts, all_parts] at hv
  rw [hX] at hs' hv
  have lX : ((d.drop 4).take 2).length = 2 := by simp; omega
  have bX : ∀ z ∈ (d.drop 4).take 2, z < 256 := mem_take (mem_drop hd)
  have lt : ((d.drop 6).take (H + 1)).length = H + 1 := by simp; omega
  have lt' : ((d'.drop 6).take (H + 1)).length = H + 1 := by simp; omega
  have bt : ∀ z ∈ (d.drop 6).take (H + 1), z < 256 := mem_take (mem_drop hd)
  have bt' : ∀ z ∈ (d'.drop 6).take (H + 1), z < 256 := mem_take (mem_drop hd')
  have lq : (d.take 4).length = 4 := by simp; omega
  have lq' : (d'.take 4).length = 4 := by simp; omega
  have bq := lt_pow8 _ (mem_take (n := 4) hd)
  have bq' := lt_pow8 _ (mem_take (n := 4) hd')
  rw [lq] at bq
  rw [lq'] at bq'
  have hX2 := lt_pow8 _ bX
  rw [lX] at hX2
  have hbx := body_xor lX bX lt lt' bt bt'
  have mX : ∀ s : List Nat, (∀ z ∈ s, z < 256) → ∀ z ∈ (d.drop 4).take 2 ++ s, z < 256 := fun s h z hz => by
    rcases List.mem_append.1 hz with h1 | h1
    · exact bX z h1
    · exact h z h1
  have cq := congrArg val hs
  have cq' := congrArg val hs'
  rw [four_val (crc_lt _ (mX _ bt))] at cq
  rw [four_val (crc_lt _ (mX _ bt'))] at cq'
  rw [← cq, ← cq'] at hbx
  have hE := xor_of hv
  rw [val_append, val_append, val_append, val_append, lq, lq', lX, show (256 : Nat) ^ 4 = 2 ^ (8 * 4) by decide, show (256 : Nat) ^ 2 = 2 ^ (8 * 2) by decide, split2 bq bq', split2 hX2 hX2, Nat.xor_self, Nat.zero_add, ← Nat.mul_assoc, ← Nat.pow_add] at hE
  have hT : (val ((d.drop 6).take (H + 1)) ^^^ val ((d'.drop 6).take (H + 1))) % 256 = kd begun en ^^^ kd begun en' := by
    rw [at_six (by omega), at_six (by omega), hk, hk']
    simp only [val]
    have k1 := kd_lt begun en
    have k2 := kd_lt begun en'
    rw [show (256 : Nat) = 2 ^ 8 by decide] at k1 k2 ⊢
    rw [split2 k1 k2, Nat.add_mul_mod_self_left]
    exact Nat.mod_eq_of_lt (Nat.xor_lt_two_pow k1 k2)
  have hS : val (d.take 4) ^^^ val (d'.take 4) < 2 ^ (8 * 4) := Nat.xor_lt_two_pow bq bq'
  generalize val (d.take 4) ^^^ val (d'.take 4) = S at *
  generalize val ((d.drop 6).take (H + 1)) ^^^ val ((d'.drop 6).take (H + 1)) = T at *
  refine no_turn (a := a) hS hH (by rw [hT]; exact kd_xor _ _ _) ?_ ?_ ?_ hbx
  · rw [show (2 : Nat) ^ 48 = 2 ^ (8 * 4 + 8 * 2) by decide, hE]
    exact Nat.mul_ne_zero (Nat.pos_iff_ne_zero.1 (Nat.pow_pos (by omega))) hF0
  · rw [show (2 : Nat) ^ 48 = 2 ^ (8 * 4 + 8 * 2) by decide, hE, Nat.mul_mod_right]
  · rw [show (2 : Nat) ^ 48 = 2 ^ (8 * 4 + 8 * 2) by decide, hE, Nat.pow_add]
    exact Nat.mul_lt_mul_of_pos_left hF (Nat.pow_pos (by omega))
end Lg
end Go.Proofs.YtcmbogogakdeoaaDoor
