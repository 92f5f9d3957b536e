import Derived.Test.YtfomnkkpiflokaaKn6
namespace Go.Proofs.Ytfomnkkpiflokaa
namespace Sk
open Go.RowKit Laws Irw Erw KMath Skm Byt
set_option linter.unusedVariables false
set_option maxRecDepth 100000
set_option linter.unusedSimpArgs false

/-- screelaw5's ahead -/
def ahB (a b : En) : Bool := decide (cmpE a.1 b.1 a.2.1 b.2.1 < 0)
theorem cmpE_lt_iff (a b : ByteArray) (m n : Int) : cmpE a b m n < 0 ↔ Op.bytesLess a.toList b.toList = true ∨ (a.toList = b.toList ∧ n < m) := by
  rcases cmpS_cases a b with ⟨h1, e1⟩ | ⟨h1, e1⟩ | ⟨h1, e1⟩
  · rw [cmpE_ne (by omega), e1]; simp [h1]
  · rw [cmpE_eq e1]
    have hb : Op.bytesLess a.toList b.toList = false := by rw [h1]; exact bl_irrefl _
    unfold cmpN
    by_cases h2 : n < m
    · simp [h2, h1]
    · by_cases h3 : m < n
      · simp [h2, h3, h1, bl_irrefl]
      · simp [h2, h3, h1, bl_irrefl]
  · rw [cmpE_ne (by omega), e1]
    have hb := bl_asymm _ _ h1
    have hne : a.toList ≠ b.toList := by intro e; rw [e, bl_irrefl] at h1; cases h1
    simp [hb, hne]
set_option maxHeartbeats 1000000 in
theorem ahead_law (a b : En) (w : World) : Calls Try.prog 20 #[.agg #[.string a.1, .int .u64 a.2.1, .bool a.2.2.1, .string a.2.2.2], .agg #[.string b.1, .int .u64 b.2.1, .bool b.2.2.1, .string b.2.2.2]] w fun e w' => e = .returned (.bool (ahB a b)) ∧ Below w.heap.size w w' := by
  obtain ⟨ak, as_, ad, av⟩ := a
  obtain ⟨bk, bs, bd, bv⟩ := b
  unfold ahB
  dsimp only
  have HB : Hid (Below w.heap.size w ((w.alloc (.cells #[.string ak, .int .u64 as_, .bool ad, .string av] 53)).alloc (.cells #[.string bk, .int .u64 bs, .bool bd, .string bv] 53))) := ((Below.refl _ _).alloc (Nat.le_refl _) _).alloc (by simp) _
  by_cases h1 : Op.bytesLess ak.toList bk.toList = true
  · have HR : Hid (decide (cmpE ak bk as_ bs < 0) = true) := by
      show decide (cmpE ak bk as_ bs < 0) = true
      simp [cmpE_lt_iff, h1]
    go_enter Try.func20, Try.ntmps20
    go_wp2
    go_ret
    exact ⟨by rw [HR.out]; rfl, HB.out⟩
  · have h1' : Op.bytesLess ak.toList bk.toList = false := by simpa using h1
    by_cases h2 : ak.toList = bk.toList
    · have h2' : (ak.toList == bk.toList) = true := by simpa using h2
      by_cases h3 : bs < as_
      · have HR : Hid (decide (cmpE ak bk as_ bs < 0) = true) := by
          show decide (cmpE ak bk as_ bs < 0) = true
          simp [cmpE_lt_iff, h2, h3]
        clear h1 h2
        go_enter Try.func20, Try.ntmps20
        go_wp2
        go_ret
        exact ⟨by rw [HR.out]; rfl, HB.out⟩
      · have HR : Hid (decide (cmpE ak bk as_ bs < 0) = false) := by
          show decide (cmpE ak bk as_ bs < 0) = false
          rw [decide_eq_false_iff_not, cmpE_lt_iff]
          simp [h1', h3]
        clear h1 h2
        go_enter Try.func20, Try.ntmps20
        go_wp2
        go_ret
        exact ⟨by rw [HR.out]; rfl, HB.out⟩
    · have h2' : (ak.toList == bk.toList) = false := by simpa using h2
      have HR : Hid (decide (cmpE ak bk as_ bs < 0) = false) := by
        show decide (cmpE ak bk as_ bs < 0) = false
        rw [decide_eq_false_iff_not, cmpE_lt_iff]
        simp [h1', h2]
      clear h1 h2
      go_enter Try.func20, Try.ntmps20
      go_wp2
      go_ret
      exact ⟨by rw [HR.out]; rfl, HB.out⟩
end Sk
end Go.Proofs.Ytfomnkkpiflokaa
