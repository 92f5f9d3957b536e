import Derived.Test.YtecgecolghgjoaaUs1
import Derived.BigRegion
import Derived.Deep.Cut
import Derived.Deep.DeepCutAuto
namespace Go.Proofs.Ytecgecolghgjoaa
namespace Us
open Go.RowKit Go.Sort
set_option linter.unusedVariables false
set_option linter.unusedSimpArgs false
theorem rev_on {i j : Nat} {d : Array Int} (h : i < j) : reverseLoop i j d = reverseLoop (i + 1) (j - 1) (swp d i j) := by
  conv => lhs; rw [reverseLoop]
  rw [if_pos h]
theorem rev_end {i j : Nat} {d : Array Int} (h : ¬ i < j) : reverseLoop i j d = d := by rw [reverseLoop, if_neg h]
set_option maxHeartbeats 2000000 in
theorem reverse_any (blk off n cap a b : Nat) (d : Array Int) (w : World) (h : Row w blk off d) (hn : d.size = n) (hab : a < b) (hb : b ≤ n) :
    Calls Try.prog 64 #[.slice (some ⟨blk, off, none⟩) n cap, .int .i64 a, .int .i64 b] w fun e w' => e = .returned (.tuple #[]) ∧ At w blk off (reverseRange d a b) w' := by
  have hsm := h.small
  rw [hn] at hsm
  have H0 : Hid (Row w blk off d ∧ d.size = n) := ⟨h, hn⟩
  have HS : Hid (St w blk off n (fun x => reverseLoop a (b - 1) x = reverseRange d a b) w) := ⟨d, hn, At.start h, rfl⟩
  clear h hn
  go_enter Try.func64, Try.ntmps64
  go_wp2
  go_loopw [6, 7] (fun vi vj wr => ∃ i j : Nat, vi = .int .i64 (i : Int) ∧ vj = .int .i64 (j : Int) ∧ a ≤ i ∧ i ≤ j + 1 ∧ j < b ∧ Hid (St w blk off n (fun x => reverseLoop i j x = reverseRange d a b) wr)) (fun vi vj _ => (iOf vj + 1 - iOf vi).toNat)
  case atStart => exact ⟨a, b - 1, rfl, by congr 1; omega, by omega, by omega, by omega, HS.out⟩
  case round =>
    clear HS
    obtain ⟨i, j, rfl, rfl, hai, hij, hjb, HX⟩ := hrel
    rename World => wq
    by_cases hlt : i < j
    · have q1 : (i : Int) < (j : Int) := by omega
      obtain ⟨x, hx1, hx2, hx3⟩ := HX.out
      obtain ⟨G, hG, hcw, hfw⟩ := hx2.fam (n := n) H0.out.1 (hx1.trans H0.out.2.symm) H0.out.2.symm
      have HG : Hid ((∀ t, G t = x[t]!) ∧ x.size = n ∧ reverseLoop i j x = reverseRange d a b) := ⟨hG, hx1, hx3⟩
      have HA : Hid (At w blk off x wq) := hx2
      clear hx1 hx2 hx3 hG HX
      go_wp2
      go_region
      all_goals go_wp2
      go_roundw
      case rel =>
        refine ⟨i + 1, j - 1, by go_num, by congr 1; omega, by omega, by omega, by omega, swp x i j, by rw [size_swp]; exact HG.out.2.1, ?_, ?_⟩
        · have e := (HA.out.drewN 1).swap H0.out.1.lt i j (by rw [HG.out.2.1]; omega) (by rw [HG.out.2.1]; omega)
          rw [← HG.out.1, ← HG.out.1] at e
          exact e
        · rw [← HG.out.2.2, rev_on hlt]
      case measure => simp [iOf]; omega
    · have q1 : ¬ (i : Int) < (j : Int) := by omega
      go_wp2
      go_end0
      obtain ⟨x, h1, h2, h3⟩ := HX.out
      rw [rev_end hlt] at h3
      rw [h3] at h2
      exact ⟨rfl, h2⟩
/-! the heap -/
theorem sift_out {hi first root : Nat} {d : Array Int} (h : 2 * root + 1 ≥ hi) : siftDown ltInt hi first root d = d := by rw [siftDown, dif_pos h]
/-- the greater child -/
def chd (hi first root : Nat) (G : Nat → Int) : Nat := if 2 * root + 1 + 1 < hi ∧ ltInt (G (first + (2 * root + 1))) (G (first + (2 * root + 1) + 1)) = true then 2 * root + 2 else 2 * root + 1
theorem sift_stop {hi first root : Nat} {d : Array Int} (h : ¬ 2 * root + 1 ≥ hi) (hl : ltInt d[first + root]! d[first + chd hi first root (fun t => d[t]!)]! = false) : siftDown ltInt hi first root d = d := by
  rw [siftDown, dif_neg h]
  unfold chd at hl
  split at hl
  · rename_i q
    rw [if_pos (by simp [q.1, q.2]), if_pos (by simp [hl])]
  · rename_i q
    rw [if_neg (by intro k; simp at k; exact q k), if_pos (by simp [hl])]
theorem sift_on {hi first root : Nat} {d : Array Int} (h : ¬ 2 * root + 1 ≥ hi) (hl : ltInt d[first + root]! d[first + chd hi first root (fun t => d[t]!)]! = true) :
    siftDown ltInt hi first root d = siftDown ltInt hi first (chd hi first root (fun t => d[t]!)) (swp d (first + root) (first + chd hi first root (fun t => d[t]!))) := by
  conv => lhs; rw [siftDown, dif_neg h]
  unfold chd at hl ⊢
  split at hl
  · rename_i q
    rw [if_pos (by simp [q.1, q.2]), if_neg (by simp [hl]), dif_pos (by omega), if_pos q]
  · rename_i q
    rw [if_neg (by intro k; simp at k; exact q k), if_neg (by simp [hl]), if_neg q]
end Us
end Go.Proofs.Ytecgecolghgjoaa
namespace Go.Proofs.Ytecgecolghgjoaa
namespace Us
open Go.RowKit Go.Sort
set_option linter.unusedVariables false
set_option linter.unusedSimpArgs false
set_option maxRecDepth 20000
set_option maxHeartbeats 4000000 in
theorem sift_any (blk off n cap lo hi first : Nat) (d : Array Int) (w : World) (h : Row w blk off d) (hn : d.size = n) (hlo : lo ≤ hi) (hb : first + hi ≤ n) :
    Calls Try.prog 81 #[.slice (some ⟨blk, off, none⟩) n cap, .int .i64 lo, .int .i64 hi, .int .i64 first] w fun e w' => e = .returned (.tuple #[]) ∧ At w blk off (siftDown ltInt hi first lo d) w' := by
  have hsm := h.small
  rw [hn] at hsm
  have H0 : Hid (Row w blk off d ∧ d.size = n) := ⟨h, hn⟩
  obtain ⟨Z, hZ⟩ : ∃ Z, siftDown ltInt hi first lo d = Z := ⟨_, rfl⟩
  have HS : Hid (St w blk off n (fun x => siftDown ltInt hi first lo x = Z) w) := ⟨d, hn, At.start h, hZ⟩
  rw [hZ]
  clear h hn hZ
  go_enter Try.func81, Try.ntmps81
  go_wp2
  go_loopw [8] (fun vi wr => ∃ i : Nat, vi = .int .i64 (i : Int) ∧ i ≤ hi ∧ Hid (St w blk off n (fun x => siftDown ltInt hi first i x = Z) wr)) (fun vi _ => hi - (iOf vi).toNat)
  case atStart => exact ⟨lo, rfl, hlo, HS.out⟩
  case round =>
    clear HS
    obtain ⟨root, rfl, hri, HX⟩ := hrel
    rename World => wq
    obtain ⟨k, hkr⟩ : ∃ k : Nat, k = 2 * root + 1 := ⟨_, rfl⟩
    go_upto_region 2 with (fail)
    rw [show 2 * (root : Int) + 1 = (k : Int) by omega]
    have hrk : root < k := by omega
    have HK : Hid (k = 2 * root + 1) := hkr
    clear hkr
    by_cases hk : k < hi
    · have q1 : (k : Int) < (hi : Int) := by omega
      obtain ⟨x, hx1, hx2, hx3⟩ := HX.out
      obtain ⟨G, hG, hcw, hfw⟩ := hx2.fam (n := n) H0.out.1 (hx1.trans H0.out.2.symm) H0.out.2.symm
      have eG : G = fun t => x[t]! := funext hG
      have hge : ¬ 2 * root + 1 ≥ hi := by rw [← HK.out]; omega
      have HG : Hid ((∀ t, G t = x[t]!) ∧ x.size = n) := ⟨hG, hx1⟩
      have HA : Hid (At w blk off x wq) := hx2
      have ON : Hid (∀ c, chd hi first root G = c → ltInt (G (first + root)) (G (first + c)) = true → siftDown ltInt hi first c (swp x (first + root) (first + c)) = Z) := by
        rintro c rfl hl
        rw [eG] at hl ⊢
        rw [← sift_on hge hl]; exact hx3
      have STOP : Hid (∀ c, chd hi first root G = c → ltInt (G (first + root)) (G (first + c)) = false → x = Z) := by
        rintro c rfl hl
        rw [eG] at hl
        rw [sift_stop hge hl] at hx3
        exact hx3
      have CH : Hid (chd hi first root G = if k + 1 < hi ∧ ltInt (G (first + k)) (G (first + k + 1)) = true then k + 1 else k) := by
        rw [HK.out]; rfl
      clear hx1 hx2 hx3 hG HX eG hge HK
      by_cases h2 : k + 1 < hi
      · have q2 : (k : Int) + 1 < (hi : Int) := by omega
        cases hll : ltInt (G (first + k)) (G (first + k + 1)) with
        | true =>
          have HC : Hid (chd hi first root G = k + 1) := by have := CH.out; rwa [if_pos ⟨h2, hll⟩] at this
          clear CH
          go_wp2
          go_quiet (first | (go_at_call 66; refine Calls.quiet_of_same (less_any _ _ _)))
          go_wp2
          obtain ⟨c, hc⟩ : ∃ c : Nat, c = k + 1 := ⟨_, rfl⟩
          rw [← hc] at HC
          rw [show (k : Int) + 1 = (c : Int) by omega]
          have hch : c < hi := by omega
          have hrc : root < c := by omega
          clear hc hrk hk hll q2
          have hcw2 : ∀ t, t < n → (wq.drewN nq).cell? ⟨blk, off + t, none⟩ = some (.int .u64 (G t)) := hcw
          have hfw2 : ∀ t, t < n → (wq.drewN nq).frozen? ⟨blk, off + t, none⟩ = false := hfw
          have HA2 : Hid (At w blk off x (wq.drewN nq)) := HA.out.drewN nq
          generalize wq.drewN nq = w2 at hcw2 hfw2 HA2 ⊢
          clear hcw hfw HA nq
          cases hl : ltInt (G (first + root)) (G (first + c)) with
          | false =>
            go_quiet (first | (go_at_call 66; refine Calls.quiet_of_same (less_any _ _ _)))
            go_wp2
            ((try simp only [Exit.inBlock, Exit.then]); refine bodyPost_ret (results_none rfl _ _ _) rfl ?_)
            exact ⟨rfl, STOP.out _ HC.out hl ▸ HA2.out.drewN _⟩
          | true =>
            go_quiet (first | (go_at_call 66; refine Calls.quiet_of_same (less_any _ _ _)))
            go_wp2
            have hcw3 : ∀ t, t < n → (w2.drewN nq).cell? ⟨blk, off + t, none⟩ = some (.int .u64 (G t)) := hcw2
            have hfw3 : ∀ t, t < n → (w2.drewN nq).frozen? ⟨blk, off + t, none⟩ = false := hfw2
            have HA3 : Hid (At w blk off x (w2.drewN nq)) := HA2.out.drewN nq
            generalize w2.drewN nq = w3 at hcw3 hfw3 HA3 ⊢
            clear hcw2 hfw2 HA2 nq
            have HL : Hid (ltInt (G (first + root)) (G (first + c)) = true) := hl
            clear hl
            go_region
            all_goals go_wp2
            go_roundw
            case rel =>
              refine ⟨c, rfl, by omega, swp x (first + root) (first + c), by rw [size_swp]; exact HG.out.2, ?_, ?_⟩
              · have e := HA3.out.drew.swap H0.out.1.lt (first + root) (first + c) (by rw [HG.out.2]; omega) (by rw [HG.out.2]; omega)
                rw [← HG.out.1, ← HG.out.1] at e
                exact e
              · exact ON.out _ HC.out HL.out
            case measure => simp [iOf]; omega
        | false =>
          have HC : Hid (chd hi first root G = k) := by have := CH.out; rwa [if_neg (by rintro ⟨_, z⟩; rw [hll] at z; cases z)] at this
          clear CH
          go_wp2
          go_quiet (first | (go_at_call 66; refine Calls.quiet_of_same (less_any _ _ _)))
          go_wp2
          clear hll q2
          have hcw2 : ∀ t, t < n → (wq.drewN nq).cell? ⟨blk, off + t, none⟩ = some (.int .u64 (G t)) := hcw
          have hfw2 : ∀ t, t < n → (wq.drewN nq).frozen? ⟨blk, off + t, none⟩ = false := hfw
          have HA2 : Hid (At w blk off x (wq.drewN nq)) := HA.out.drewN nq
          generalize wq.drewN nq = w2 at hcw2 hfw2 HA2 ⊢
          clear hcw hfw HA nq
          cases hl : ltInt (G (first + root)) (G (first + k)) with
          | false =>
            go_quiet (first | (go_at_call 66; refine Calls.quiet_of_same (less_any _ _ _)))
            go_wp2
            ((try simp only [Exit.inBlock, Exit.then]); refine bodyPost_ret (results_none rfl _ _ _) rfl ?_)
            exact ⟨rfl, STOP.out _ HC.out hl ▸ HA2.out.drewN _⟩
          | true =>
            go_quiet (first | (go_at_call 66; refine Calls.quiet_of_same (less_any _ _ _)))
            go_wp2
            have hcw3 : ∀ t, t < n → (w2.drewN nq).cell? ⟨blk, off + t, none⟩ = some (.int .u64 (G t)) := hcw2
            have hfw3 : ∀ t, t < n → (w2.drewN nq).frozen? ⟨blk, off + t, none⟩ = false := hfw2
            have HA3 : Hid (At w blk off x (w2.drewN nq)) := HA2.out.drewN nq
            generalize w2.drewN nq = w3 at hcw3 hfw3 HA3 ⊢
            clear hcw2 hfw2 HA2 nq
            have HL : Hid (ltInt (G (first + root)) (G (first + k)) = true) := hl
            clear hl
            go_region
            all_goals go_wp2
            go_roundw
            case rel =>
              refine ⟨k, rfl, by omega, swp x (first + root) (first + k), by rw [size_swp]; exact HG.out.2, ?_, ?_⟩
              · have e := HA3.out.drew.swap H0.out.1.lt (first + root) (first + k) (by rw [HG.out.2]; omega) (by rw [HG.out.2]; omega)
                rw [← HG.out.1, ← HG.out.1] at e
                exact e
              · exact ON.out _ HC.out HL.out
            case measure => simp [iOf]; omega
      · have q2 : decide ((k : Int) + 1 < (hi : Int)) = false := by simp; omega
        have q3 : IntKind.i64.wrap ((k : Int) + 1) = (k : Int) + 1 := IntWalk.i64_in _ (by omega)
        have HC : Hid (chd hi first root G = k) := by have := CH.out; rwa [if_neg (by rintro ⟨z, _⟩; omega)] at this
        clear CH
        go_wp2
        go_quiet (first | (go_at_call 66; refine Calls.quiet_of_same (less_any _ _ _)))
        clear q2 q3
        go_wp2
        have hcw2 : ∀ t, t < n → (wq.drewN nq).cell? ⟨blk, off + t, none⟩ = some (.int .u64 (G t)) := hcw
        have hfw2 : ∀ t, t < n → (wq.drewN nq).frozen? ⟨blk, off + t, none⟩ = false := hfw
        have HA2 : Hid (At w blk off x (wq.drewN nq)) := HA.out.drewN nq
        generalize wq.drewN nq = w2 at hcw2 hfw2 HA2 ⊢
        clear hcw hfw HA nq
        cases hl : ltInt (G (first + root)) (G (first + k)) with
        | false =>
          go_quiet (first | (go_at_call 66; refine Calls.quiet_of_same (less_any _ _ _)))
          go_wp2
          ((try simp only [Exit.inBlock, Exit.then]); refine bodyPost_ret (results_none rfl _ _ _) rfl ?_)
          exact ⟨rfl, STOP.out _ HC.out hl ▸ HA2.out.drewN _⟩
        | true =>
          go_quiet (first | (go_at_call 66; refine Calls.quiet_of_same (less_any _ _ _)))
          go_wp2
          have hcw3 : ∀ t, t < n → (w2.drewN nq).cell? ⟨blk, off + t, none⟩ = some (.int .u64 (G t)) := hcw2
          have hfw3 : ∀ t, t < n → (w2.drewN nq).frozen? ⟨blk, off + t, none⟩ = false := hfw2
          have HA3 : Hid (At w blk off x (w2.drewN nq)) := HA2.out.drewN nq
          generalize w2.drewN nq = w3 at hcw3 hfw3 HA3 ⊢
          clear hcw2 hfw2 HA2 nq
          have HL : Hid (ltInt (G (first + root)) (G (first + k)) = true) := hl
          clear hl
          go_region
          all_goals go_wp2
          go_roundw
          case rel =>
            refine ⟨k, rfl, by omega, swp x (first + root) (first + k), by rw [size_swp]; exact HG.out.2, ?_, ?_⟩
            · have e := HA3.out.drew.swap H0.out.1.lt (first + root) (first + k) (by rw [HG.out.2]; omega) (by rw [HG.out.2]; omega)
              rw [← HG.out.1, ← HG.out.1] at e
              exact e
            · exact ON.out _ HC.out HL.out
          case measure => simp [iOf]; omega
    · have q1 : ¬ (k : Int) < (hi : Int) := by omega
      go_wp2
      go_end0
      obtain ⟨x, h1, h2, h3⟩ := HX.out
      rw [sift_out (by rw [← HK.out]; omega)] at h3
      rw [h3] at h2
      exact ⟨rfl, h2⟩
end Us
end Go.Proofs.Ytecgecolghgjoaa
