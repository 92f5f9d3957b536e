import Derived.Test.YtaejjpbpnedblaaGreatProg
import Derived.Sort.Grow
import Derived.Sort.LotD3
import Derived.Sort.LotC
import Derived.Sort.LotB
import Derived.Sort.LotD4
import Derived.Sort.LotD5
import Derived.WalkKit
import Derived.WalkSpells
import Derived.BigGuard
import Derived.BigCall
import Derived.CellFam
import Derived.Deep.Draws
import Derived.Deep.QuietTactic
import Derived.BigQuiet
import Derived.BigRegion
namespace Go.Proofs.YtaejjpbpnedblaaGreat
namespace Us
open Go.RowKit Go.Sort
set_option linter.unusedVariables false
set_option linter.unusedSimpArgs false
/-- a number as it lies -/
abbrev eU : Int → Value := Value.int .u64
def iOf : Value → Int
  | .int _ q => q
  | _ => 0
/-- w with the row turned to d: some draws on, some blocks behind -/
def At (w : World) (blk off : Nat) (d : Array Int) (W : World) : Prop := ∃ n os, W = grow (putRow eU (Sort.ahead w n) blk off d) os
/-- where a row lies -/
structure Row (w : World) (blk off : Nat) (d : Array Int) : Prop where
  holds : Holds eU w blk off d
  lt : blk < w.heap.size
  small : d.size < 4611686018427387904
theorem At.start {w : World} {blk off : Nat} {d : Array Int} (h : Row w blk off d) : At w blk off d w := ⟨0, #[], by rw [grow_empty, ahead_zero, putRow_self _ _ _ _ _ h.holds]⟩
theorem At.cell {w W : World} {blk off : Nat} {d0 d : Array Int} (h : At w blk off d W) (h0 : Row w blk off d0) (hs : d.size = d0.size) (t : Nat) (ht : t < d.size) : W.cell? ⟨blk, off + t, none⟩ = some (.int .u64 d[t]!) := by
  obtain ⟨n, os, rfl⟩ := h
  rw [cell?_grow _ _ _ (by simpa using h0.lt)]
  exact cell?_putRow eU _ _ _ d0 d (holds_ahead _ _ _ _ _ _ h0.holds) hs t ht
theorem At.froz {w W : World} {blk off : Nat} {d0 d : Array Int} (h : At w blk off d W) (h0 : Row w blk off d0) (hs : d.size = d0.size) (t : Nat) (ht : t < d.size) : W.frozen? ⟨blk, off + t, none⟩ = false := by
  obtain ⟨n, os, rfl⟩ := h
  rw [frozen?_grow _ _ _ (by simpa using h0.lt), frozen?_putRow]
  exact ((holds_ahead eU w n blk off d0 h0.holds) t (by omega)).2
theorem At.size {w W : World} {blk off : Nat} {d : Array Int} (h : At w blk off d W) : w.heap.size ≤ W.heap.size := by
  obtain ⟨n, os, rfl⟩ := h
  simp
theorem At.row {w W : World} {blk off : Nat} {d0 d : Array Int} (h : At w blk off d W) (h0 : Row w blk off d0) (hs : d.size = d0.size) : Row W blk off d :=
  ⟨fun j hj => ⟨h.cell h0 hs j hj, h.froz h0 hs j hj⟩, Nat.lt_of_lt_of_le h0.lt h.size, by rw [hs]; exact h0.small⟩
theorem At.drewN {w W : World} {blk off : Nat} {d : Array Int} (h : At w blk off d W) (q : Nat) : At w blk off d (W.drewN q) := by
  obtain ⟨n, os, rfl⟩ := h
  exact ⟨n + q, os, by
    show Sort.ahead (grow (putRow eU (Sort.ahead w n) blk off d) os) q = _
    rw [ahead_grow, ← putRow_ahead, ahead_ahead]⟩
theorem At.drew {w W : World} {blk off : Nat} {d : Array Int} (h : At w blk off d W) : At w blk off d W.drew := h.drewN 1
theorem At.trans {w W X : World} {blk off : Nat} {d0 d d' : Array Int} (h0 : Row w blk off d0) (h : At w blk off d W) (k : At W blk off d' X) (hs : d'.size = d.size) : At w blk off d' X := by
  obtain ⟨n, os, rfl⟩ := h
  obtain ⟨m, os', rfl⟩ := k
  refine ⟨n + m, os ++ os', ?_⟩
  rw [ahead_grow, putRow_grow _ _ _ _ _ _ (by simpa using h0.lt), grow_grow, ← putRow_ahead, ahead_ahead, putRow_putRow _ _ _ _ _ _ hs]
theorem At.alloc {w W : World} {blk off : Nat} {d : Array Int} (h : At w blk off d W) (o : Obj) : At w blk off d (W.alloc o) := by
  obtain ⟨n, os, rfl⟩ := h
  exact ⟨n, os ++ #[o], by rw [alloc_eq_grow, grow_grow]⟩
/-- a cell of a block that was made on the way is written -/
theorem At.new {w W : World} {blk off : Nat} {d : Array Int} (h : At w blk off d W) (b j : Nat) (v : Value) (hb : w.heap.size ≤ b) : At w blk off d (W.setCell ⟨b, j, none⟩ v) := by
  obtain ⟨n, os, rfl⟩ := h
  exact ⟨n, _, by rw [setCell_eq, mapBlock_grow_new _ _ _ _ (by simpa using hb)]⟩
theorem At.set {w W : World} {blk off : Nat} {d : Array Int} (h0 : blk < w.heap.size) (h : At w blk off d W) (i : Nat) (x : Int) (hi : i < d.size) : At w blk off (d.setIfInBounds i x) (W.setCell ⟨blk, off + i, none⟩ (.int .u64 x)) := by
  obtain ⟨n, os, rfl⟩ := h
  refine ⟨n, os, ?_⟩
  rw [← putRow_set eU _ blk off d i x hi, setCell_eq, setCell_eq, mapBlock_grow _ _ _ _ (by simpa using h0)]
theorem At.swap {w W : World} {blk off : Nat} {d : Array Int} (h0 : blk < w.heap.size) (h : At w blk off d W) (i j : Nat) (hi : i < d.size) (hj : j < d.size) :
    At w blk off (swp d i j) ((W.setCell ⟨blk, off + i, none⟩ (.int .u64 d[j]!)).setCell ⟨blk, off + j, none⟩ (.int .u64 d[i]!)) :=
  (h.set h0 i d[j]! hi).set h0 j d[i]! (by simpa using hj)
set_option maxHeartbeats 400000 in
theorem isNaN_any (x : Int) (w : World) : Calls Tryz.prog 137 #[.int .u64 x] w fun e w' => e = .returned (.bool false) ∧ w' = w := by
  go_enter Tryz.func137, Tryz.ntmps137
  go_wp2
  go_ret
  exact ⟨by simp, rfl⟩
set_option maxHeartbeats 400000 in
theorem less_any (x y : Int) (w : World) : Calls Tryz.prog 118 #[.int .u64 x, .int .u64 y] w fun e w' => e = .returned (.bool (ltInt x y)) ∧ w' = w := by
  go_enter Tryz.func118, Tryz.ntmps118
  go_wp2_with (go_at_call 137; refine (isNaN_any _ _).mono ?_; rintro e w' ⟨rfl, hw⟩; have hw := hw.symm; subst hw)
  go_ret
  exact ⟨rfl, rfl⟩
end Us
end Go.Proofs.YtaejjpbpnedblaaGreat
namespace Go.Proofs.YtaejjpbpnedblaaGreat
namespace Us
open Go.RowKit Go.Sort
set_option linter.unusedVariables false
set_option linter.unusedSimpArgs false
/-! what a round does to the plain functions -/
theorem inner_on {a j : Nat} {d : Array Int} (hj : a < j) (hl : ltInt d[j]! d[j - 1]! = true) : insInner ltInt a j d = insInner ltInt a (j - 1) (swp d j (j - 1)) := by
  cases j with
  | zero => omega
  | succ k =>
    have hl' : ltInt d[k + 1]! d[k]! = true := hl
    conv => lhs; rw [insInner]
    rw [if_pos (by rw [hl']; simp; omega)]
    rfl
theorem inner_end {a j : Nat} {d : Array Int} (h : j ≤ a ∨ ltInt d[j]! d[j - 1]! = false) : insInner ltInt a j d = d := by
  cases j with
  | zero => rw [insInner]
  | succ k =>
    rw [insInner, if_neg]
    rcases h with h | h
    · simp; omega
    · have h' : ltInt d[k + 1]! d[k]! = false := h
      rw [h']; simp
/-- the numbers of a row, as a walk reads them -/
def Fam (W : World) (blk off n : Nat) (G : Nat → Int) : Prop := (∀ t, t < n → W.cell? ⟨blk, off + t, none⟩ = some (.int .u64 (G t))) ∧ ∀ t, t < n → W.frozen? ⟨blk, off + t, none⟩ = false
theorem At.fam {w W : World} {blk off n : Nat} {d0 d : Array Int} (h : At w blk off d W) (h0 : Row w blk off d0) (hs : d.size = d0.size) (hn : n = d0.size) : ∃ G : Nat → Int, (∀ t, G t = d[t]!) ∧ Fam W blk off n G :=
  ⟨fun t => d[t]!, fun _ => rfl, fun t ht => h.cell h0 hs t (by omega), fun t ht => h.froz h0 hs t (by omega)⟩
/-- the state of a row within a walk: d stands, what is to come is told by Q -/
def St (w : World) (blk off n : Nat) (Q : Array Int → Prop) (W : World) : Prop := ∃ d : Array Int, d.size = n ∧ At w blk off d W ∧ Q d
set_option maxHeartbeats 2000000 in
theorem insertion_any (blk off n cap a b : Nat) (d : Array Int) (w : World) (h : Row w blk off d) (hn : d.size = n) (hab : a ≤ b) (hb : b ≤ n) :
    Calls Tryz.prog 126 #[.slice (some ⟨blk, off, none⟩) n cap, .int .i64 a, .int .i64 b] w fun e w' => e = .returned (.tuple #[]) ∧ At w blk off (insertionSort ltInt d a b) w' := by
  have hsm := h.small
  rw [hn] at hsm
  have H0 : Hid (Row w blk off d ∧ d.size = n) := ⟨h, hn⟩
  have HS : Hid (St w blk off n (fun x => insOuter ltInt a b (a + 1) x = insertionSort ltInt d a b) w) := ⟨d, hn, At.start h, rfl⟩
  clear h hn
  go_enter Tryz.func126, Tryz.ntmps126
  go_wp2
  go_loopw [6] (fun vi wr => ∃ i : Nat, vi = .int .i64 (i : Int) ∧ a < i ∧ i ≤ b + 1 ∧ Hid (St w blk off n (fun x => insOuter ltInt a b i x = insertionSort ltInt d a b) wr)) (fun vi _ => b + 1 - (iOf vi).toNat)
  case atStart => exact ⟨a + 1, by go_num, by omega, by omega, HS.out⟩
  case round =>
    clear HS
    obtain ⟨i, rfl, hai, hib, HX⟩ := hrel
    by_cases hlt : i < b
    · have q1 : (i : Int) < (b : Int) := by omega
      have HI : Hid (∃ y, insOuter ltInt a b (i + 1) y = insertionSort ltInt d a b ∧ St w blk off n (fun x => insInner ltInt a i x = y) wr) := by
        obtain ⟨x, h1, h2, h3⟩ := HX.out
        rw [insOuter, if_pos hlt] at h3
        exact ⟨_, h3, x, h1, h2, rfl⟩
      clear HX
      obtain ⟨y, hy, hst⟩ := HI.out
      have HY : Hid (insOuter ltInt a b (i + 1) y = insertionSort ltInt d a b) := hy
      have HZ : Hid (St w blk off n (fun x => insInner ltInt a i x = y) wr) := hst
      clear HI hy hst
      go_wp2
      go_loopw [7] (fun vj wr2 => ∃ j : Nat, vj = .int .i64 (j : Int) ∧ a ≤ j ∧ j ≤ i ∧ Hid (St w blk off n (fun x => insInner ltInt a j x = y) wr2)) (fun vj _ => (iOf vj).toNat)
      case atStart => exact ⟨i, rfl, by omega, Nat.le_refl _, HZ.out⟩
      case round =>
        clear HZ
        obtain ⟨j, rfl, haj, hji, HX⟩ := hrel
        obtain ⟨x, hx1, hx2, hx3⟩ := HX.out
        obtain ⟨G, hG, hcw, hfw⟩ := hx2.fam (n := n) H0.out.1 (hx1.trans H0.out.2.symm) H0.out.2.symm
        have HG : Hid ((∀ t, G t = x[t]!) ∧ x.size = n ∧ insInner ltInt a j x = y) := ⟨hG, hx1, hx3⟩
        rename World => wq
        have HA : Hid (At w blk off x wq) := hx2
        have OUT : Hid ((j ≤ a ∨ ltInt (G j) (G (j - 1)) = false) → ∀ q, St w blk off n (fun x => insOuter ltInt a b (i + 1) x = insertionSort ltInt d a b) (wq.drewN q)) := fun hs q => ⟨x, HG.out.2.1, HA.out.drewN q, by
          rw [HG.out.1, HG.out.1] at hs
          have := HG.out.2.2
          rw [inner_end hs] at this
          rw [this]; exact HY.out⟩
        clear hx1 hx2 hx3 hG HX
        by_cases hja : a < j
        · have q2 : (a : Int) < (j : Int) := by omega
          go_wp2
          go_quiet (first | (go_at_call 118; refine Calls.quiet_of_same (less_any _ _ _)))
          go_wp2
          · have hl : ltInt (G j) (G (j - 1)) = true := by assumption
            go_region
            all_goals go_wp2
            go_roundw
            case rel =>
              refine ⟨j - 1, by congr 1; omega, by omega, by omega, swp x j (j - 1), by rw [size_swp]; exact HG.out.2.1, ?_, ?_⟩
              · have e := (HA.out.drewN (nq + 1)).swap H0.out.1.lt j (j - 1) (by rw [HG.out.2.1]; omega) (by rw [HG.out.2.1]; omega)
                rw [← HG.out.1, ← HG.out.1] at e
                exact e
              · rw [HG.out.1, HG.out.1] at hl
                rw [← HG.out.2.2, inner_on hja hl]
            case measure => simp [iOf]; omega
          · have hl : ltInt (G j) (G (j - 1)) = false := by assumption
            go_roundw
            case rel => exact ⟨i + 1, by go_num, by omega, by omega, OUT.out (.inr hl) nq⟩
            case measure => simp [iOf]; omega
        · have q2 : ¬ (a : Int) < (j : Int) := by omega
          go_wp2
          go_quiet (first | (go_at_call 118; refine Calls.quiet_of_same (less_any _ _ _)))
          go_wp2
          go_roundw
          case rel => exact ⟨i + 1, by go_num, by omega, by omega, OUT.out (.inl (by omega)) nq⟩
          case measure => simp [iOf]; omega
    · have q1 : ¬ (i : Int) < (b : Int) := by omega
      go_wp2
      go_end0
      obtain ⟨x, h1, h2, h3⟩ := HX.out
      rw [insOuter, if_neg hlt] at h3
      rw [h3] at h2
      exact ⟨rfl, h2⟩
end Us
end Go.Proofs.YtaejjpbpnedblaaGreat
namespace Go.Proofs.YtaejjpbpnedblaaGreat
namespace Us
open Go.RowKit Go.Sort
set_option linter.unusedVariables false
set_option linter.unusedSimpArgs false
theorem rev_on {i j : Nat} {d : Array Int} (h : i < j) : reverseLoop i j d = reverseLoop (i + 1) (j - 1) (swp d i j) := by
  conv => lhs; rw [reverseLoop]
  rw [if_pos h]
theorem rev_end {i j : Nat} {d : Array Int} (h : ¬ i < j) : reverseLoop i j d = d := by rw [reverseLoop, if_neg h]
set_option maxHeartbeats 2000000 in
theorem reverse_any (blk off n cap a b : Nat) (d : Array Int) (w : World) (h : Row w blk off d) (hn : d.size = n) (hab : a < b) (hb : b ≤ n) :
    Calls Tryz.prog 130 #[.slice (some ⟨blk, off, none⟩) n cap, .int .i64 a, .int .i64 b] w fun e w' => e = .returned (.tuple #[]) ∧ At w blk off (reverseRange d a b) w' := by
  have hsm := h.small
  rw [hn] at hsm
  have H0 : Hid (Row w blk off d ∧ d.size = n) := ⟨h, hn⟩
  have HS : Hid (St w blk off n (fun x => reverseLoop a (b - 1) x = reverseRange d a b) w) := ⟨d, hn, At.start h, rfl⟩
  clear h hn
  go_enter Tryz.func130, Tryz.ntmps130
  go_wp2
  go_loopw [6, 7] (fun vi vj wr => ∃ i j : Nat, vi = .int .i64 (i : Int) ∧ vj = .int .i64 (j : Int) ∧ a ≤ i ∧ i ≤ j + 1 ∧ j < b ∧ Hid (St w blk off n (fun x => reverseLoop i j x = reverseRange d a b) wr)) (fun vi vj _ => (iOf vj + 1 - iOf vi).toNat)
  case atStart => exact ⟨a, b - 1, rfl, by congr 1; omega, by omega, by omega, by omega, HS.out⟩
  case round =>
    clear HS
    obtain ⟨i, j, rfl, rfl, hai, hij, hjb, HX⟩ := hrel
    rename World => wq
    by_cases hlt : i < j
    · have q1 : (i : Int) < (j : Int) := by omega
      obtain ⟨x, hx1, hx2, hx3⟩ := HX.out
      obtain ⟨G, hG, hcw, hfw⟩ := hx2.fam (n := n) H0.out.1 (hx1.trans H0.out.2.symm) H0.out.2.symm
      have HG : Hid ((∀ t, G t = x[t]!) ∧ x.size = n ∧ reverseLoop i j x = reverseRange d a b) := ⟨hG, hx1, hx3⟩
      have HA : Hid (At w blk off x wq) := hx2
      clear hx1 hx2 hx3 hG HX
      go_wp2
      go_region
      all_goals go_wp2
      go_roundw
      case rel =>
        refine ⟨i + 1, j - 1, by go_num, by congr 1; omega, by omega, by omega, by omega, swp x i j, by rw [size_swp]; exact HG.out.2.1, ?_, ?_⟩
        · have e := (HA.out.drewN 1).swap H0.out.1.lt i j (by rw [HG.out.2.1]; omega) (by rw [HG.out.2.1]; omega)
          rw [← HG.out.1, ← HG.out.1] at e
          exact e
        · rw [← HG.out.2.2, rev_on hlt]
      case measure => simp [iOf]; omega
    · have q1 : ¬ (i : Int) < (j : Int) := by omega
      go_wp2
      go_end0
      obtain ⟨x, h1, h2, h3⟩ := HX.out
      rw [rev_end hlt] at h3
      rw [h3] at h2
      exact ⟨rfl, h2⟩
/-! the heap -/
theorem sift_out {hi first root : Nat} {d : Array Int} (h : 2 * root + 1 ≥ hi) : siftDown ltInt hi first root d = d := by rw [siftDown, dif_pos h]
/-- the greater child -/
def chd (hi first root : Nat) (G : Nat → Int) : Nat := if 2 * root + 1 + 1 < hi ∧ ltInt (G (first + (2 * root + 1))) (G (first + (2 * root + 1) + 1)) = true then 2 * root + 2 else 2 * root + 1
theorem sift_stop {hi first root : Nat} {d : Array Int} (h : ¬ 2 * root + 1 ≥ hi) (hl : ltInt d[first + root]! d[first + chd hi first root (fun t => d[t]!)]! = false) : siftDown ltInt hi first root d = d := by
  rw [siftDown, dif_neg h]
  unfold chd at hl
  split at hl
  · rename_i q
    rw [if_pos (by simp [q.1, q.2]), if_pos (by simp [hl])]
  · rename_i q
    rw [if_neg (by intro k; simp at k; exact q k), if_pos (by simp [hl])]
theorem sift_on {hi first root : Nat} {d : Array Int} (h : ¬ 2 * root + 1 ≥ hi) (hl : ltInt d[first + root]! d[first + chd hi first root (fun t => d[t]!)]! = true) :
    siftDown ltInt hi first root d = siftDown ltInt hi first (chd hi first root (fun t => d[t]!)) (swp d (first + root) (first + chd hi first root (fun t => d[t]!))) := by
  conv => lhs; rw [siftDown, dif_neg h]
  unfold chd at hl ⊢
  split at hl
  · rename_i q
    rw [if_pos (by simp [q.1, q.2]), if_neg (by simp [hl]), dif_pos (by omega), if_pos q]
  · rename_i q
    rw [if_neg (by intro k; simp at k; exact q k), if_neg (by simp [hl]), if_neg q]
end Us
end Go.Proofs.YtaejjpbpnedblaaGreat
