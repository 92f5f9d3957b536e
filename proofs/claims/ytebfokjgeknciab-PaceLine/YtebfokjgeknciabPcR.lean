import Derived.Test.YtebfokjgeknciabPcF
namespace Go.Proofs.Ytebfokjgeknciab
namespace Pcm
open Go.RowKit
set_option linter.unusedVariables false
set_option maxRecDepth 100000

/-! the document's formulas: the same numbers -/
theorem sadd_in {a b : Int} (h : R64 (a + b)) : sadd a b = a + b := sat_in h
theorem smul_in {a b : Int} (h : R64 (a * b)) : smul a b = a * b := sat_in h
theorem sadd_zero {a : Int} (h : R64 a) : sadd a 0 = a := by unfold sadd; rw [Int.add_zero]; exact sat_in h
theorem zero_sadd {a : Int} (h : R64 a) : sadd 0 a = a := by unfold sadd; rw [Int.zero_add]; exact sat_in h
theorem div_le {x k : Int} (hx : 0 ≤ x) (hk : 1 ≤ k) : 0 ≤ x / k ∧ x / k ≤ x := ⟨Int.ediv_nonneg hx (by omega), Int.ediv_le_self _ hx⟩
theorem div_lt {x k : Int} (hx : 0 ≤ x) (hR : R64 x) (hk : 2 ≤ k) : 0 ≤ x / k ∧ x / k ≤ 4611686018427387904 := by
  refine ⟨Int.ediv_nonneg hx (by omega), ?_⟩
  have h1 : x / k ≤ x / 2 := by
    rw [Int.ediv_le_iff_le_mul (by omega)]
    have h2 : x / 2 * 2 ≤ x / 2 * k := Int.mul_le_mul_of_nonneg_left hk (by omega)
    omega
  unfold R64 at hR
  omega
theorem pmem_r (c : Cf) : R64 (pmem c) := sadd_r _ _
theorem tf_ref {c : Cf} (h : Right c) {x : Int} (hx : 0 ≤ x) (hR : R64 x) : ptf c x = sadd (smul 2 (x / c 16 + 2)) 16 := by
  have h16 := h.o.h16
  have hd := div_lt hx hR (show 2 ≤ c 16 by omega)
  unfold ptf
  rw [sadd_in (a := x / c 16) (by unfold R64; omega)]
theorem g_ref {c : Cf} (h : Right c) : pg c = smul (c 2) (c 16 / c 17 + 3) := by
  have h16 := h.o.h16
  have h17 := h.o.h17
  have hd := div_le (show 0 ≤ c 16 by omega) (show 1 ≤ c 17 by omega)
  unfold pg
  rw [sadd_in (a := c 16 / c 17) (by unfold R64; omega)]
theorem j_ref {c : Cf} (h : Right c) : pj c = smul (c 12 + 1) (c 11 - 1 + 1088) := by
  have h12 := h.o.h12
  have h11 := h.o.h11
  unfold pj pfile
  rw [sadd_in (a := c 12) (by unfold R64; omega), sadd_in (a := c 11 - 1) (by unfold R64; omega)]
theorem file_ref {c : Cf} (h : Right c) : pfile c = c 11 - 1 + 1088 := by
  have h11 := h.o.h11
  exact sadd_in (by unfold R64; omega)
theorem debt_ref {c : Cf} (h : Right c) : pdebt c = c 23 - 1 + c 22 := by
  have h23 := h.h23
  have h22 := h.o.h22
  exact sadd_in (by unfold R64; omega)
theorem plim_r {c : Cf} (hc : RC c) (l : Int) : R64 (plim c l) := by
  unfold plim
  split
  · unfold R64; omega
  · cases (l - 1).toNat with
    | zero => exact hc 9
    | succ n => exact smul_r _ _
theorem plim_out {c : Cf} {l : Int} (h : l < 1 ∨ c 8 - 2 < l) : plim c l = 0 := by unfold plim; rw [if_pos h]
theorem lsum_ref {c : Cf} (hc : RC c) (h : Right c) : plsum c = sadd (sadd (sadd (sadd 0 (plim c 1)) (plim c 2)) (plim c 3)) (plim c 4) := by
  have h8 := h.o.h8
  have z0 : plim c ((0 : Nat) : Int) = 0 := plim_out (.inl (by omega))
  have z4 : plim c 4 = 0 := plim_out (.inr (by omega))
  have e00 : sadd 0 0 = 0 := rfl
  have n3 : plsumN c 3 = sadd (sadd 0 (plim c 1)) (plim c 2) := by
    show sadd (sadd (sadd 0 (plim c ((0 : Nat) : Int))) (plim c ((1 : Nat) : Int))) (plim c ((2 : Nat) : Int)) = _
    rw [z0, e00]; rfl
  have n4 : plsumN c 4 = sadd (sadd (sadd 0 (plim c 1)) (plim c 2)) (plim c 3) := by
    show sadd (plsumN c 3) (plim c ((3 : Nat) : Int)) = _
    rw [n3]; rfl
  have n5 : plsumN c 5 = sadd (sadd (sadd (sadd 0 (plim c 1)) (plim c 2)) (plim c 3)) (plim c 4) := by
    show sadd (plsumN c 4) (plim c ((4 : Nat) : Int)) = _
    rw [n4]; rfl
  unfold plsum
  rcases (show c 8 = 3 ∨ c 8 = 4 ∨ c 8 = 5 by omega) with e | e | e
  · have z3 : plim c 3 = 0 := plim_out (.inr (by omega))
    rw [e]
    show plsumN c 3 = _
    rw [n3, z3, z4, sadd_zero (sadd_r _ _), sadd_zero (sadd_r _ _)]
  · rw [e]
    show plsumN c 4 = _
    rw [n4, z4, sadd_zero (sadd_r _ _)]
  · rw [e]
    exact n5
theorem q_ref {c : Cf} (h : Right c) : pq c = c 22 / c 3 + c 4 + 2 ∧ 0 ≤ c 22 / c 3 ∧ c 22 / c 3 ≤ 16777216 := by
  have h22 := h.o.h22
  have h3 := h.o.h3
  have h4 := h.o.h4
  have hd := div_le (show 0 ≤ c 22 by omega) (show 1 ≤ c 3 by omega)
  refine ⟨?_, hd.1, by omega⟩
  show sadd (sadd (sadd 0 (c 22 / c 3)) (c 4)) 2 = _
  generalize c 22 / c 3 = z at *
  rw [sadd_in (a := 0) (b := z) (by unfold R64; omega), sadd_in (a := 0 + z) (by unfold R64; omega), sadd_in (by unfold R64; omega)]
  omega
theorem b1_ref {c : Cf} (h : Right c) (d : Int) : pb1 c d = smul (c 0) (ssum [smul (c 22 / c 3 + c 4 + 2 + 2) (sadd (pt0 c d) 2), ptd c d, smul (c 4 + 1) (ssum [pt0 c d, ptf c (pmem c), 2]), 17408 / c 19, 18 * c 0, 24]) := by
  obtain ⟨e, q1, q2⟩ := q_ref h
  have h4 := h.o.h4
  have h0 := h.o.h0
  unfold pb1
  rw [e, sadd_in (a := c 22 / c 3 + c 4 + 2) (by unfold R64; omega), sadd_in (a := c 4) (b := 1) (by unfold R64; omega), smul_in (a := 18) (b := c 0) (by unfold R64; omega)]
theorem td_ref {c : Cf} (d : Int) : ptd c d = smul (sadd (smul (c 8) (py c d) / 450) 2) (ssum [ptc c (py c d), ptc c (pj c), ptf c (pmem c), 8]) := rfl
theorem ssum_assoc {t a b z : Int} (ht : 0 ≤ t) (ha : 0 ≤ a) (hb : 0 ≤ b) : ssum [t, a, b, z] = ssum [t, sadd a b, z] := by
  show sadd (sadd (sadd (sadd 0 t) a) b) z = sadd (sadd (sadd 0 t) (sadd a b)) z
  rw [sadd_assoc (sadd_nn (Int.le_refl _) ht) ha hb]
theorem ssum_front {a b z : Int} (ha : R64 a) : ssum [a, b, z] = sadd (sadd a b) z := by
  show sadd (sadd (sadd 0 a) b) z = _
  rw [zero_sadd ha]
theorem b2_ref {c : Cf} (h : Right c) {n : Int} (hn : 0 ≤ n) : pb2 c n = ssum [pb1 c n, smul (c 4 + 2) (ssum [ptf c (pmem c), sadd (ptc c (pn c n)) (ptc c (pj c)), 8]), smul (sadd (smul (c 8) (pn c n) / 450) 2) (sadd (sadd (ptc c (pn c n)) (ptc c (pj c))) 2), pn c n / c 16, c 8, 40] := by
  have h4 := h.o.h4
  unfold pb2
  rw [sadd_in (a := c 4) (b := 2) (by unfold R64; omega), ssum_assoc (ptf_nn h (pmem_nn h)) (ptc_nn h (pn_nn h hn)) (ptc_nn h (pj_nn h)), ssum_front (a := ptc c (pn c n)) (ssum_r _)]
  rfl
theorem a_ref {c : Cf} (h : Right c) (x y : Int) : pa c x y = ssum [smul 4 x, y, smul 16 (sadd (plsum c) (pdebt c)), smul (c 4 + 4) (pmem c), smul 2 (c 26), 131072] := by
  have h4 := h.o.h4
  unfold pa
  rw [sadd_in (a := c 4) (b := 4) (by unfold R64; omega)]

end Pcm
end Go.Proofs.Ytebfokjgeknciab
