import Derived.Test.YtcmbogogakdeoaaDoorCBackM
namespace Go.Proofs.YtcmbogogakdeoaaDoor
namespace CMath
set_option linter.unusedVariables false

theorem mul_xor (k x y : Nat) : 2 ^ k * (x ^^^ y) = 2 ^ k * x ^^^ 2 ^ k * y := by
  apply Nat.eq_of_testBit_eq
  intro i
  simp only [Nat.testBit_xor, Nat.testBit_two_pow_mul]
  by_cases h : k ≤ i <;> simp [h]
theorem pow_lt8 {r : Nat} (h : r < 8) : 2 ^ r < 256 := by
  have : (2 : Nat) ^ r ≤ 2 ^ 7 := Nat.pow_le_pow_right (by omega) (by omega)
  omega
theorem xor_byte {z r : Nat} (hz : z < 256) (hr : r < 8) : z ^^^ 2 ^ r < 256 := Nat.xor_lt_two_pow (n := 8) (by omega) (pow_lt8 hr)
/-- One bit turned. -/
theorem val_set (l : List Nat) (hl : ∀ x ∈ l, x < 256) : ∀ (i z r : Nat), l[i]? = some z → r < 8 → val (l.set i (z ^^^ 2 ^ r)) = val l ^^^ 2 ^ (8 * i + r) := by
  induction l with
  | nil => intro i z r h _; simp at h
  | cons c l ih =>
    intro i z r h hr
    have hc := hl c (by simp)
    cases i with
    | zero =>
      simp at h
      subst h
      simp only [List.set_cons_zero, val, Nat.mul_zero, Nat.zero_add]
      rw [show 256 * val l = 2 ^ 8 * val l from rfl, split_xor 8 _ _ (xor_byte hc hr), split_xor 8 _ _ (by omega), Nat.xor_assoc, Nat.xor_comm (2 ^ r), ← Nat.xor_assoc]
    | succ i =>
      simp at h
      simp only [List.set_cons_succ, val]
      rw [ih (fun x hx => hl x (by simp [hx])) i z r h hr]
      rw [show 256 * (val l ^^^ 2 ^ (8 * i + r)) = 2 ^ 8 * (val l ^^^ 2 ^ (8 * i + r)) from rfl, show 256 * val l = 2 ^ 8 * val l from rfl, mul_xor, ← Nat.pow_add]
      have hlt : c < 2 ^ 8 := by omega
      have e1 : c + (2 ^ 8 * val l ^^^ 2 ^ (8 + (8 * i + r))) = c ^^^ (2 ^ 8 * val l ^^^ 2 ^ (8 + (8 * i + r))) := by
        have : 2 ^ 8 * val l ^^^ 2 ^ (8 + (8 * i + r)) = 2 ^ 8 * (val l ^^^ 2 ^ (8 * i + r)) := by rw [mul_xor, ← Nat.pow_add]
        rw [this]
        exact split_xor 8 _ _ hlt
      rw [e1, split_xor 8 _ _ hlt, ← Nat.xor_assoc, show 8 + (8 * i + r) = 8 * (i + 1) + r by omega]
theorem take_set_ge {l : List Nat} {k i v : Nat} (h : k ≤ i) : (l.set i v).take k = l.take k := by
  rw [List.take_set]
  exact List.set_eq_of_length_le (by simp; omega)

/-- Which bits are turned when i of the span's have been gone through (room: so many lie in the frame). -/
def span (t room i : Nat) : Nat := t % 2 ^ min i room
theorem span_zero (t room : Nat) : span t room 0 = 0 := by simp [span, Nat.mod_one]
theorem span_lt (t room i : Nat) : span t room i < 2 ^ min i room := Nat.mod_lt _ (Nat.pow_pos (by omega))
theorem mod_succ (t i : Nat) : t % 2 ^ (i + 1) = t % 2 ^ i + 2 ^ i * (t / 2 ^ i % 2) := by
  rw [Nat.pow_succ, Nat.mod_mul]
theorem span_on {t room i : Nat} (h : i < room) (hb : t / 2 ^ i % 2 = 1) : span t room (i + 1) = span t room i ^^^ 2 ^ i := by
  unfold span
  rw [Nat.min_eq_left (by omega), Nat.min_eq_left (by omega), mod_succ, hb, Nat.mul_one]
  have := split_xor i (t % 2 ^ i) 1 (Nat.mod_lt _ (Nat.pow_pos (by omega)))
  rw [Nat.mul_one] at this
  exact this
theorem span_off {t room i : Nat} (h : i < room → t / 2 ^ i % 2 ≠ 1) : span t room (i + 1) = span t room i := by
  unfold span
  by_cases hr : i < room
  · have hb := h hr
    rw [Nat.min_eq_left (by omega), Nat.min_eq_left (by omega), mod_succ]
    have : t / 2 ^ i % 2 = 0 := by omega
    rw [this]; simp
  · rw [Nat.min_eq_right (by omega), Nat.min_eq_right (by omega)]
theorem span_ne {t room i : Nat} (h : i < room) (hb : t / 2 ^ i % 2 = 1) : span t room (i + 1) ≠ 0 := by
  unfold span
  rw [Nat.min_eq_left (by omega), mod_succ, hb]
  have : 0 < 2 ^ i := Nat.pow_pos (by omega)
  omega

/-- P2.8. -/
theorem damage {p c : List Nat} {m e : Nat} (hp : ∀ x ∈ p, x < 256) (hlen : p.length ≤ 262144) (hc : ∀ x ∈ c, x < 256) (hl : c.length = (frame p).length) (hk : c.take (num p.length).length = num p.length) (he : e < 4294967296) (he0 : e ≠ 0) (hv : val c = val (frame p) ^^^ 2 ^ m * e) : unframe c = ([], 0, 23) := by
  have hfl : (frame p).length = (num p.length).length + p.length + 4 := by simp [frame, four]; omega
  have hfb : ∀ x ∈ frame p, x < 256 := by
    intro x hx
    simp only [frame, List.mem_append] at hx
    rcases hx with (hx | hx) | hx
    · exact num_byte _ x hx
    · exact hp x hx
    · exact four_byte _ x hx
  have e0 : c = num p.length ++ c.drop (num p.length).length := by
    conv => lhs; rw [← List.take_append_drop (num p.length).length c, hk]
  have hr : rd c 0 0 = (p.length, (num p.length).length, 0) := by
    rw [e0]
    exact rd_words p.length _ (by omega)
  have hN : (frame p).length = ((num p.length).length + p.length) + 4 := by omega
  have r0 : rest ((num p.length).length + p.length) (frame p) = 0 := by
    rw [rest_zero hfb hN]
    have e2 : (frame p).drop ((num p.length).length + p.length) = four (crc (num p.length ++ p)) := by rw [frame, ← List.length_append, drop_len]
    have e3 : (frame p).take ((num p.length).length + p.length) = num p.length ++ p := by rw [frame, ← List.length_append, take_len]
    rw [e2, e3]
  have r1 := rest_diff hfb hc hN (by omega) (2 ^ m * e) hv
  rw [r0, Nat.zero_xor] at r1
  have r2 : rest ((num p.length).length + p.length) c ≠ 0 := by rw [r1]; exact burst he he0
  rw [Ne, rest_zero hc (by omega)] at r2
  unfold unframe
  rw [hr]
  simp only []
  have e4 : (c.drop ((num p.length).length + p.length)).take 4 = c.drop ((num p.length).length + p.length) := List.take_of_length_le (by simp; omega)
  rw [if_neg (by simp), if_neg (by omega), if_neg (by omega), e4, if_pos r2]

end CMath
end Go.Proofs.YtcmbogogakdeoaaDoor
