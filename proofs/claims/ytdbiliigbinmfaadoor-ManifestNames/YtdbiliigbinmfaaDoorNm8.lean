import Derived.Test.YtdbiliigbinmfaaDoorNm7
import Derived.Lib.ParseIntB
namespace Go.Proofs.YtdbiliigbinmfaaDoor
namespace Nms
open Go.RowKit Go.Sort CMath Byt Cod Laws
set_option linter.unusedVariables false
set_option linter.unusedSimpArgs false
set_option maxRecDepth 20000
theorem digs_at (s : ByteArray) (m i : Nat) (h : digs s m = true) (hi : i < m) : 48 ≤ bt s (i + 2) ∧ bt s (i + 2) ≤ 57 := by
  have := digs_le s (i + 1) m (by omega) h
  simp only [digs, Bool.and_eq_true, dig, decide_eq_true_eq] at this
  exact this.2
theorem parse_from (s : ByteArray) (hs : s.size = 14) (h : digs s 12 = true) : ∀ m, m ≤ 12 → Lib.parseUintM (2 ^ 64 - 1) (vl s (12 - m)) (s.data.toList.drop (14 - m)) = .ok (vl s 12)
  | 0, _ => by
    have hl : s.data.toList.length = 14 := hs
    rw [show (14 : Nat) - 0 = s.data.toList.length by rw [hl], List.drop_length]
    rfl
  | m + 1, hm => by
    have hl : s.data.toList.length = 14 := hs
    have ih := parse_from s hs h m (by omega)
    have hb := digs_at s 12 (12 - (m + 1)) h (by omega)
    have e0 : 12 - (m + 1) + 2 = 14 - (m + 1) := by omega
    have hlt : 14 - (m + 1) < s.data.toList.length := by omega
    have ec : (s.data.toList[14 - (m + 1)]'hlt).toNat = bt s (12 - (m + 1) + 2) := by
      rw [e0, ← bt_at s (14 - (m + 1)) (by omega)]
      rfl
    have hv : vl s (12 - (m + 1)) < 10 ^ (12 - (m + 1)) := vl_lt s _ (digs_le s _ 12 (by omega) h)
    have hp : (10 : Nat) ^ (12 - (m + 1)) ≤ 10 ^ 11 := Nat.pow_le_pow_right (by omega) (by omega)
    have hn : vl s (12 - m) = 10 * vl s (12 - (m + 1)) + (bt s (12 - (m + 1) + 2) - 48) := by
      rw [show 12 - m = (12 - (m + 1)) + 1 by omega, vl_succ]
    rw [List.drop_eq_getElem_cons hlt, Lib.parseUintM, ec, if_pos hb, if_neg (by omega), if_neg (by omega), show 14 - (m + 1) + 1 = 14 - m by omega, show vl s (12 - (m + 1)) * 10 + (bt s (12 - (m + 1) + 2) - 48) = vl s (12 - m) by rw [hn]; omega]
    exact ih
theorem parse_is (s : ByteArray) (hs : s.size = 14) (h : digs s 12 = true) : Lib.parseUintB 64 (s.data.toList.drop 2) = .ok (vl s 12) := by
  have hl : s.data.toList.length = 14 := hs
  have e := parse_from s hs h 12 (Nat.le_refl _)
  unfold Lib.parseUintB
  rw [if_neg (fun q => by have := congrArg List.length q; simp at this; omega)]
  exact e
/-- what Name answers, as a text -/
def nm (k n : Nat) : ByteArray := ofB (nameB k n)
/-- Number as the program reckons it -/
theorem num_ok (s : ByteArray) (u : Nat) (hs : s.size = 14) (hp : Lib.parseUintB 64 (s.data.toList.drop 2) = .ok u) : numB s = if nm (bt s 0) u = s then some (bt s 0, u) else none := by
  by_cases he : nm (bt s 0) u = s
  · rw [if_pos he]
    unfold nm nameB at he
    by_cases hc : (kindOk (bt s 0) && decide (u < 1000000000000)) = true
    · rw [if_pos hc] at he
      rw [Bool.and_eq_true, decide_eq_true_eq] at hc
      obtain ⟨a1, a2, a3, a4, a5⟩ := name_num s (bt s 0) u (bt_lt _ _) hc.2 he.symm
      unfold numB
      rw [a1, a3, a4, a5, hc.1]
      rfl
    · rw [if_neg hc] at he
      rw [← he] at hs
      exact absurd hs (by decide)
  · rw [if_neg he]
    unfold numB
    by_cases hc : (s.size == 14 && bt s 1 == 45 && kindOk (bt s 0) && digs s 12) = true
    · exfalso
      simp only [Bool.and_eq_true, beq_iff_eq] at hc
      obtain ⟨⟨⟨_, c1⟩, ck⟩, cd⟩ := hc
      rw [parse_is s hs cd] at hp
      injection hp with hp
      apply he
      unfold nm nameB
      have hv := vl_lt s 12 cd
      rw [← hp, if_pos (by rw [ck, Bool.true_and, decide_eq_true_eq]; exact hv)]
      exact (num_name s hs c1 cd).symm
    · rw [if_neg hc]
theorem num_bad (s : ByteArray) (hs : s.size = 14) (hp : ∀ u, Lib.parseUintB 64 (s.data.toList.drop 2) ≠ .ok u) : numB s = none := by
  unfold numB
  by_cases hc : (s.size == 14 && bt s 1 == 45 && kindOk (bt s 0) && digs s 12) = true
  · simp only [Bool.and_eq_true, beq_iff_eq] at hc
    exact absurd (parse_is s hs hc.2) (hp _)
  · rw [if_neg hc]
end Nms
end Go.Proofs.YtdbiliigbinmfaaDoor
