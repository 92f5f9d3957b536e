import Derived.Test.YtecgecolghgjoaaUs1
import Derived.BigRegion
namespace Go.Proofs.Ytecgecolghgjoaa
namespace Us
open Go.RowKit Go.Sort
set_option linter.unusedVariables false
set_option linter.unusedSimpArgs false
theorem rev_on {i j : Nat} {d : Array Int} (h : i < j) : reverseLoop i j d = reverseLoop (i + 1) (j - 1) (swp d i j) := by
  conv => lhs; rw [reverseLoop]
  rw [if_pos h]
theorem rev_end {i j : Nat} {d : Array Int} (h : ¬ i < j) : reverseLoop i j d = d := by rw [reverseLoop, if_neg h]
set_option maxHeartbeats 2000000 in
theorem reverse_any (blk off n cap a b : Nat) (d : Array Int) (w : World) (h : Row w blk off d) (hn : d.size = n) (hab : a < b) (hb : b ≤ n) :
    Calls Try.prog 64 #[.slice (some ⟨blk, off, none⟩) n cap, .int .i64 a, .int .i64 b] w fun e w' => e = .returned (.tuple #[]) ∧ At w blk off (reverseRange d a b) w' := by
  have hsm := h.small
  rw [hn] at hsm
  have H0 : Hid (Row w blk off d ∧ d.size = n) := ⟨h, hn⟩
  have HS : Hid (St w blk off n (fun x => reverseLoop a (b - 1) x = reverseRange d a b) w) := ⟨d, hn, At.start h, rfl⟩
  clear h hn
  go_enter Try.func64, Try.ntmps64
  go_wp2
  go_loopw [6, 7] (fun vi vj wr => ∃ i j : Nat, vi = .int .i64 (i : Int) ∧ vj = .int .i64 (j : Int) ∧ a ≤ i ∧ i ≤ j + 1 ∧ j < b ∧ Hid (St w blk off n (fun x => reverseLoop i j x = reverseRange d a b) wr)) (fun vi vj _ => (iOf vj + 1 - iOf vi).toNat)
  case atStart => exact ⟨a, b - 1, rfl, by congr 1; omega, by omega, by omega, by omega, HS.out⟩
  case round =>
    clear HS
    obtain ⟨i, j, rfl, rfl, hai, hij, hjb, HX⟩ := hrel
    rename World => wq
    by_cases hlt : i < j
    · have q1 : (i : Int) < (j : Int) := by omega
      obtain ⟨x, hx1, hx2, hx3⟩ := HX.out
      obtain ⟨G, hG, hcw, hfw⟩ := hx2.fam (n := n) H0.out.1 (hx1.trans H0.out.2.symm) H0.out.2.symm
      have HG : Hid ((∀ t, G t = x[t]!) ∧ x.size = n ∧ reverseLoop i j x = reverseRange d a b) := ⟨hG, hx1, hx3⟩
      have HA : Hid (At w blk off x wq) := hx2
      clear hx1 hx2 hx3 hG HX
      go_wp2
      go_region
      all_goals go_wp2
      go_roundw
      case rel =>
        refine ⟨i + 1, j - 1, by go_num, by congr 1; omega, by omega, by omega, by omega, swp x i j, by rw [size_swp]; exact HG.out.2.1, ?_, ?_⟩
        · have e := (HA.out.drewN 1).swap H0.out.1.lt i j (by rw [HG.out.2.1]; omega) (by rw [HG.out.2.1]; omega)
          rw [← HG.out.1, ← HG.out.1] at e
          exact e
        · rw [← HG.out.2.2, rev_on hlt]
      case measure => simp [iOf]; omega
    · have q1 : ¬ (i : Int) < (j : Int) := by omega
      go_wp2
      go_end0
      obtain ⟨x, h1, h2, h3⟩ := HX.out
      rw [rev_end hlt] at h3
      rw [h3] at h2
      exact ⟨rfl, h2⟩
/-! the heap -/
theorem sift_out {hi first root : Nat} {d : Array Int} (h : 2 * root + 1 ≥ hi) : siftDown ltInt hi first root d = d := by rw [siftDown, dif_pos h]
/-- the greater child -/
def chd (hi first root : Nat) (G : Nat → Int) : Nat := if 2 * root + 1 + 1 < hi ∧ ltInt (G (first + (2 * root + 1))) (G (first + (2 * root + 1) + 1)) = true then 2 * root + 2 else 2 * root + 1
theorem sift_stop {hi first root : Nat} {d : Array Int} (h : ¬ 2 * root + 1 ≥ hi) (hl : ltInt d[first + root]! d[first + chd hi first root (fun t => d[t]!)]! = false) : siftDown ltInt hi first root d = d := by
  rw [siftDown, dif_neg h]
  unfold chd at hl
  split at hl
  · rename_i q
    rw [if_pos (by simp [q.1, q.2]), if_pos (by simp [hl])]
  · rename_i q
    rw [if_neg (by intro k; simp at k; exact q k), if_pos (by simp [hl])]
theorem sift_on {hi first root : Nat} {d : Array Int} (h : ¬ 2 * root + 1 ≥ hi) (hl : ltInt d[first + root]! d[first + chd hi first root (fun t => d[t]!)]! = true) :
    siftDown ltInt hi first root d = siftDown ltInt hi first (chd hi first root (fun t => d[t]!)) (swp d (first + root) (first + chd hi first root (fun t => d[t]!))) := by
  conv => lhs; rw [siftDown, dif_neg h]
  unfold chd at hl ⊢
  split at hl
  · rename_i q
    rw [if_pos (by simp [q.1, q.2]), if_neg (by simp [hl]), dif_pos (by omega), if_pos q]
  · rename_i q
    rw [if_neg (by intro k; simp at k; exact q k), if_neg (by simp [hl]), if_neg q]
end Us
end Go.Proofs.Ytecgecolghgjoaa
