import Derived.Test.YtaejjpbpnedblaaGreatUs2
import Derived.Deep.Cut
import Derived.Deep.DeepCutAuto
namespace Go.Proofs.YtaejjpbpnedblaaGreat
namespace Us
open Go.RowKit Go.Sort
set_option linter.unusedVariables false
set_option linter.unusedSimpArgs false
set_option maxRecDepth 20000
set_option maxHeartbeats 4000000 in
theorem sift_any (blk off n cap lo hi first : Nat) (d : Array Int) (w : World) (h : Row w blk off d) (hn : d.size = n) (hlo : lo ≤ hi) (hb : first + hi ≤ n) :
    Calls Tryz.prog 149 #[.slice (some ⟨blk, off, none⟩) n cap, .int .i64 lo, .int .i64 hi, .int .i64 first] w fun e w' => e = .returned (.tuple #[]) ∧ At w blk off (siftDown ltInt hi first lo d) w' := by
  have hsm := h.small
  rw [hn] at hsm
  have H0 : Hid (Row w blk off d ∧ d.size = n) := ⟨h, hn⟩
  obtain ⟨Z, hZ⟩ : ∃ Z, siftDown ltInt hi first lo d = Z := ⟨_, rfl⟩
  have HS : Hid (St w blk off n (fun x => siftDown ltInt hi first lo x = Z) w) := ⟨d, hn, At.start h, hZ⟩
  rw [hZ]
  clear h hn hZ
  go_enter Tryz.func149, Tryz.ntmps149
  go_wp2
  go_loopw [8] (fun vi wr => ∃ i : Nat, vi = .int .i64 (i : Int) ∧ i ≤ hi ∧ Hid (St w blk off n (fun x => siftDown ltInt hi first i x = Z) wr)) (fun vi _ => hi - (iOf vi).toNat)
  case atStart => exact ⟨lo, rfl, hlo, HS.out⟩
  case round =>
    clear HS
    obtain ⟨root, rfl, hri, HX⟩ := hrel
    rename World => wq
    obtain ⟨k, hkr⟩ : ∃ k : Nat, k = 2 * root + 1 := ⟨_, rfl⟩
    go_upto_region 2 with (fail)
    rw [show 2 * (root : Int) + 1 = (k : Int) by omega]
    have hrk : root < k := by omega
    have HK : Hid (k = 2 * root + 1) := hkr
    clear hkr
    by_cases hk : k < hi
    · have q1 : (k : Int) < (hi : Int) := by omega
      obtain ⟨x, hx1, hx2, hx3⟩ := HX.out
      obtain ⟨G, hG, hcw, hfw⟩ := hx2.fam (n := n) H0.out.1 (hx1.trans H0.out.2.symm) H0.out.2.symm
      have eG : G = fun t => x[t]! := funext hG
      have hge : ¬ 2 * root + 1 ≥ hi := by rw [← HK.out]; omega
      have HG : Hid ((∀ t, G t = x[t]!) ∧ x.size = n) := ⟨hG, hx1⟩
      have HA : Hid (At w blk off x wq) := hx2
      have ON : Hid (∀ c, chd hi first root G = c → ltInt (G (first + root)) (G (first + c)) = true → siftDown ltInt hi first c (swp x (first + root) (first + c)) = Z) := by
        rintro c rfl hl
        rw [eG] at hl ⊢
        rw [← sift_on hge hl]; exact hx3
      have STOP : Hid (∀ c, chd hi first root G = c → ltInt (G (first + root)) (G (first + c)) = false → x = Z) := by
        rintro c rfl hl
        rw [eG] at hl
        rw [sift_stop hge hl] at hx3
        exact hx3
      have CH : Hid (chd hi first root G = if k + 1 < hi ∧ ltInt (G (first + k)) (G (first + k + 1)) = true then k + 1 else k) := by
        rw [HK.out]; rfl
      clear hx1 hx2 hx3 hG HX eG hge HK
      by_cases h2 : k + 1 < hi
      · have q2 : (k : Int) + 1 < (hi : Int) := by omega
        cases hll : ltInt (G (first + k)) (G (first + k + 1)) with
        | true =>
          have HC : Hid (chd hi first root G = k + 1) := by have := CH.out; rwa [if_pos ⟨h2, hll⟩] at this
          clear CH
          go_wp2
          go_quiet (first | (go_at_call 118; refine Calls.quiet_of_same (less_any _ _ _)))
          go_wp2
          obtain ⟨c, hc⟩ : ∃ c : Nat, c = k + 1 := ⟨_, rfl⟩
          rw [← hc] at HC
          rw [show (k : Int) + 1 = (c : Int) by omega]
          have hch : c < hi := by omega
          have hrc : root < c := by omega
          clear hc hrk hk hll q2
          have hcw2 : ∀ t, t < n → (wq.drewN nq).cell? ⟨blk, off + t, none⟩ = some (.int .u64 (G t)) := hcw
          have hfw2 : ∀ t, t < n → (wq.drewN nq).frozen? ⟨blk, off + t, none⟩ = false := hfw
          have HA2 : Hid (At w blk off x (wq.drewN nq)) := HA.out.drewN nq
          generalize wq.drewN nq = w2 at hcw2 hfw2 HA2 ⊢
          clear hcw hfw HA nq
          cases hl : ltInt (G (first + root)) (G (first + c)) with
          | false =>
            go_quiet (first | (go_at_call 118; refine Calls.quiet_of_same (less_any _ _ _)))
            go_wp2
            ((try simp only [Exit.inBlock, Exit.then]); refine bodyPost_ret (results_none rfl _ _ _) rfl ?_)
            exact ⟨rfl, STOP.out _ HC.out hl ▸ HA2.out.drewN _⟩
          | true =>
            go_quiet (first | (go_at_call 118; refine Calls.quiet_of_same (less_any _ _ _)))
            go_wp2
            have hcw3 : ∀ t, t < n → (w2.drewN nq).cell? ⟨blk, off + t, none⟩ = some (.int .u64 (G t)) := hcw2
            have hfw3 : ∀ t, t < n → (w2.drewN nq).frozen? ⟨blk, off + t, none⟩ = false := hfw2
            have HA3 : Hid (At w blk off x (w2.drewN nq)) := HA2.out.drewN nq
            generalize w2.drewN nq = w3 at hcw3 hfw3 HA3 ⊢
            clear hcw2 hfw2 HA2 nq
            have HL : Hid (ltInt (G (first + root)) (G (first + c)) = true) := hl
            clear hl
            go_region
            all_goals go_wp2
            go_roundw
            case rel =>
              refine ⟨c, rfl, by omega, swp x (first + root) (first + c), by rw [size_swp]; exact HG.out.2, ?_, ?_⟩
              · have e := HA3.out.drew.swap H0.out.1.lt (first + root) (first + c) (by rw [HG.out.2]; omega) (by rw [HG.out.2]; omega)
                rw [← HG.out.1, ← HG.out.1] at e
                exact e
              · exact ON.out _ HC.out HL.out
            case measure => simp [iOf]; omega
        | false =>
          have HC : Hid (chd hi first root G = k) := by have := CH.out; rwa [if_neg (by rintro ⟨_, z⟩; rw [hll] at z; cases z)] at this
          clear CH
          go_wp2
          go_quiet (first | (go_at_call 118; refine Calls.quiet_of_same (less_any _ _ _)))
          go_wp2
          clear hll q2
          have hcw2 : ∀ t, t < n → (wq.drewN nq).cell? ⟨blk, off + t, none⟩ = some (.int .u64 (G t)) := hcw
          have hfw2 : ∀ t, t < n → (wq.drewN nq).frozen? ⟨blk, off + t, none⟩ = false := hfw
          have HA2 : Hid (At w blk off x (wq.drewN nq)) := HA.out.drewN nq
          generalize wq.drewN nq = w2 at hcw2 hfw2 HA2 ⊢
          clear hcw hfw HA nq
          cases hl : ltInt (G (first + root)) (G (first + k)) with
          | false =>
            go_quiet (first | (go_at_call 118; refine Calls.quiet_of_same (less_any _ _ _)))
            go_wp2
            ((try simp only [Exit.inBlock, Exit.then]); refine bodyPost_ret (results_none rfl _ _ _) rfl ?_)
            exact ⟨rfl, STOP.out _ HC.out hl ▸ HA2.out.drewN _⟩
          | true =>
            go_quiet (first | (go_at_call 118; refine Calls.quiet_of_same (less_any _ _ _)))
            go_wp2
            have hcw3 : ∀ t, t < n → (w2.drewN nq).cell? ⟨blk, off + t, none⟩ = some (.int .u64 (G t)) := hcw2
            have hfw3 : ∀ t, t < n → (w2.drewN nq).frozen? ⟨blk, off + t, none⟩ = false := hfw2
            have HA3 : Hid (At w blk off x (w2.drewN nq)) := HA2.out.drewN nq
            generalize w2.drewN nq = w3 at hcw3 hfw3 HA3 ⊢
            clear hcw2 hfw2 HA2 nq
            have HL : Hid (ltInt (G (first + root)) (G (first + k)) = true) := hl
            clear hl
            go_region
            all_goals go_wp2
            go_roundw
            case rel =>
              refine ⟨k, rfl, by omega, swp x (first + root) (first + k), by rw [size_swp]; exact HG.out.2, ?_, ?_⟩
              · have e := HA3.out.drew.swap H0.out.1.lt (first + root) (first + k) (by rw [HG.out.2]; omega) (by rw [HG.out.2]; omega)
                rw [← HG.out.1, ← HG.out.1] at e
                exact e
              · exact ON.out _ HC.out HL.out
            case measure => simp [iOf]; omega
      · have q2 : decide ((k : Int) + 1 < (hi : Int)) = false := by simp; omega
        have q3 : IntKind.i64.wrap ((k : Int) + 1) = (k : Int) + 1 := IntWalk.i64_in _ (by omega)
        have HC : Hid (chd hi first root G = k) := by have := CH.out; rwa [if_neg (by rintro ⟨z, _⟩; omega)] at this
        clear CH
        go_wp2
        go_quiet (first | (go_at_call 118; refine Calls.quiet_of_same (less_any _ _ _)))
        clear q2 q3
        go_wp2
        have hcw2 : ∀ t, t < n → (wq.drewN nq).cell? ⟨blk, off + t, none⟩ = some (.int .u64 (G t)) := hcw
        have hfw2 : ∀ t, t < n → (wq.drewN nq).frozen? ⟨blk, off + t, none⟩ = false := hfw
        have HA2 : Hid (At w blk off x (wq.drewN nq)) := HA.out.drewN nq
        generalize wq.drewN nq = w2 at hcw2 hfw2 HA2 ⊢
        clear hcw hfw HA nq
        cases hl : ltInt (G (first + root)) (G (first + k)) with
        | false =>
          go_quiet (first | (go_at_call 118; refine Calls.quiet_of_same (less_any _ _ _)))
          go_wp2
          ((try simp only [Exit.inBlock, Exit.then]); refine bodyPost_ret (results_none rfl _ _ _) rfl ?_)
          exact ⟨rfl, STOP.out _ HC.out hl ▸ HA2.out.drewN _⟩
        | true =>
          go_quiet (first | (go_at_call 118; refine Calls.quiet_of_same (less_any _ _ _)))
          go_wp2
          have hcw3 : ∀ t, t < n → (w2.drewN nq).cell? ⟨blk, off + t, none⟩ = some (.int .u64 (G t)) := hcw2
          have hfw3 : ∀ t, t < n → (w2.drewN nq).frozen? ⟨blk, off + t, none⟩ = false := hfw2
          have HA3 : Hid (At w blk off x (w2.drewN nq)) := HA2.out.drewN nq
          generalize w2.drewN nq = w3 at hcw3 hfw3 HA3 ⊢
          clear hcw2 hfw2 HA2 nq
          have HL : Hid (ltInt (G (first + root)) (G (first + k)) = true) := hl
          clear hl
          go_region
          all_goals go_wp2
          go_roundw
          case rel =>
            refine ⟨k, rfl, by omega, swp x (first + root) (first + k), by rw [size_swp]; exact HG.out.2, ?_, ?_⟩
            · have e := HA3.out.drew.swap H0.out.1.lt (first + root) (first + k) (by rw [HG.out.2]; omega) (by rw [HG.out.2]; omega)
              rw [← HG.out.1, ← HG.out.1] at e
              exact e
            · exact ON.out _ HC.out HL.out
          case measure => simp [iOf]; omega
    · have q1 : ¬ (k : Int) < (hi : Int) := by omega
      go_wp2
      go_end0
      obtain ⟨x, h1, h2, h3⟩ := HX.out
      rw [sift_out (by rw [← HK.out]; omega)] at h3
      rw [h3] at h2
      exact ⟨rfl, h2⟩
end Us
end Go.Proofs.YtaejjpbpnedblaaGreat
namespace Go.Proofs.YtaejjpbpnedblaaGreat
namespace Us
open Go.RowKit Go.Sort
set_option linter.unusedVariables false
set_option linter.unusedSimpArgs false
set_option maxRecDepth 20000
/-! sizes stay -/
theorem sift_size (hi first : Nat) : ∀ (m root : Nat) (d : Array Int), hi - root ≤ m → (siftDown ltInt hi first root d).size = d.size := by
  intro m
  induction m with
  | zero => intro root d h; rw [sift_out (by omega)]
  | succ m ih =>
    intro root d h
    by_cases h1 : 2 * root + 1 ≥ hi
    · rw [sift_out h1]
    · cases hl : ltInt d[first + root]! d[first + chd hi first root (fun t => d[t]!)]! with
      | false => rw [sift_stop h1 hl]
      | true =>
        rw [sift_on h1 hl, ih _ _ ?_, size_swp]
        have : root < chd hi first root (fun t => d[t]!) := by unfold chd; split <;> omega
        omega
theorem sift_size' (hi first root : Nat) (d : Array Int) : (siftDown ltInt hi first root d).size = d.size := sift_size hi first _ root d (Nat.le_refl _)
set_option maxHeartbeats 2000000 in
theorem heap_any (blk off n cap a b : Nat) (d : Array Int) (w : World) (h : Row w blk off d) (hn : d.size = n) (hab : a < b) (hb : b ≤ n) :
    Calls Tryz.prog 127 #[.slice (some ⟨blk, off, none⟩) n cap, .int .i64 a, .int .i64 b] w fun e w' => e = .returned (.tuple #[]) ∧ At w blk off (heapSort ltInt d a b) w' := by
  have hsm := h.small
  rw [hn] at hsm
  have H0 : Hid (Row w blk off d ∧ d.size = n) := ⟨h, hn⟩
  obtain ⟨m, hm⟩ : ∃ m : Nat, m = b - a := ⟨_, rfl⟩
  have HS : Hid (St w blk off n (fun x => heapPop ltInt a m (heapBuild ltInt m a ((m - 1) / 2 + 1) x) = heapSort ltInt d a b) w) := ⟨d, hn, At.start h, by rw [hm]; rfl⟩
  obtain ⟨Z, hZ⟩ : ∃ Z, heapSort ltInt d a b = Z := ⟨_, rfl⟩
  rw [hZ] at HS ⊢
  have hbm : b = a + m := by omega
  have hm1 : 1 ≤ m := by omega
  subst hbm
  have hq : Int.tdiv ((m : Int) - 1) 2 = (((m - 1) / 2 : Nat) : Int) := by
    rw [show (m : Int) - 1 = ((m - 1 : Nat) : Int) by omega]; rfl
  clear h hn hZ hm hab hq
  obtain ⟨r, hr⟩ : ∃ r : Nat, r = (m - 1) / 2 := ⟨_, rfl⟩
  rw [← hr] at HS
  have q9 : ((m : Int) - 1) / 2 = (r : Int) := by omega
  have hrm : r < m := by omega
  clear hr
  go_enter Tryz.func127, Tryz.ntmps127
  go_wp2
  rw [show (a : Int) + (m : Int) - (a : Int) = (m : Int) by omega, q9]
  clear q9
  obtain ⟨b, hbb⟩ : ∃ b : Int, ((a + m : Nat) : Int) = b := ⟨_, rfl⟩
  rw [hbb]
  clear hbb
  go_loopw [9] (fun vi wr => ∃ (i : Int) (k : Nat), vi = .int .i64 i ∧ i = (k : Int) - 1 ∧ k ≤ r + 1 ∧ Hid (St w blk off n (fun x => heapPop ltInt a m (heapBuild ltInt m a k x) = Z) wr)) (fun vi _ => (iOf vi + 1).toNat)
  case atStart => exact ⟨_, r + 1, rfl, by omega, Nat.le_refl _, HS.out⟩
  case round =>
    clear HS
    obtain ⟨i, k, rfl, hi, hkr, HX⟩ := hrel
    rename World => wq
    cases k with
    | succ j =>
      obtain rfl : i = (j : Int) := by omega
      clear hi
      obtain ⟨x, hx1, hx2, hx3⟩ := HX.out
      have HC : Hid (Calls Tryz.prog 149 #[.slice (some ⟨blk, off, none⟩) n cap, .int .i64 j, .int .i64 m, .int .i64 a] wq fun e w' => e = .returned (.tuple #[]) ∧ St w blk off n (fun x => heapPop ltInt a m (heapBuild ltInt m a j x) = Z) w') :=
        (sift_any blk off n cap j m a x wq (hx2.row H0.out.1 (hx1.trans H0.out.2.symm)) hx1 (by omega) hb).mono fun e w' hp => ⟨hp.1, _, (sift_size' _ _ _ _).trans hx1, At.trans H0.out.1 hx2 hp.2 (sift_size' _ _ _ _), hx3⟩
      clear hx1 hx2 hx3 HX
      go_wp2_with (go_at_call 149; go_loud (refine HC.out.mono ?_; rintro e w1 ⟨rfl, hs1⟩; have HS1 : Hid (St w blk off n (fun x => heapPop ltInt a m (heapBuild ltInt m a j x) = Z) w1) := hs1; clear hs1))
      go_roundw
      case rel => exact ⟨_, j, rfl, by omega, by omega, HS1.out⟩
      case measure => simp [iOf] <;> omega
    | zero =>
      obtain rfl : i = -1 := by omega
      clear hi hkr
      go_wp2
      have HY : Hid (St w blk off n (fun x => heapPop ltInt a m x = Z) wq) := HX.out
      clear HX
      go_loopw [10] (fun vi wr => ∃ (i : Int) (k : Nat), vi = .int .i64 i ∧ i = (k : Int) - 1 ∧ k ≤ m ∧ Hid (St w blk off n (fun x => heapPop ltInt a k x = Z) wr)) (fun vi _ => (iOf vi + 1).toNat)
      case atStart => exact ⟨_, m, rfl, by omega, Nat.le_refl _, HY.out⟩
      case round =>
        clear HY
        obtain ⟨i, k, rfl, hi, hkm, HX⟩ := hrel
        rename World => wp
        cases k with
        | zero =>
          obtain rfl : i = -1 := by omega
          clear hi hkm
          go_wp2
          go_end0
          obtain ⟨x, h1, h2, h3⟩ := HX.out
          exact ⟨rfl, (show x = Z from h3) ▸ h2⟩
        | succ j =>
          have hij : i = (j : Int) := by omega
          clear hi
          obtain ⟨x, hx1, hx2, hx3⟩ := HX.out
          have hx2' := hx2.drew.swap H0.out.1.lt a (a + j) (by omega) (by omega)
          have hsz : (swp x a (a + j)).size = n := (size_swp _ _ _).trans hx1
          have HC : Hid (∀ W, At w blk off (swp x a (a + j)) W → Calls Tryz.prog 149 #[.slice (some ⟨blk, off, none⟩) n cap, .int .i64 0, .int .i64 j, .int .i64 a] W fun e w' => e = .returned (.tuple #[]) ∧ St w blk off n (fun x => heapPop ltInt a j x = Z) w') := fun W hW =>
            (sift_any blk off n cap 0 j a _ W (hW.row H0.out.1 (hsz.trans H0.out.2.symm)) hsz (by omega) (by omega)).mono fun e w' hp => ⟨hp.1, _, (sift_size' _ _ _ _).trans hsz, At.trans H0.out.1 hW hp.2 (sift_size' _ _ _ _), hx3⟩
          obtain ⟨G, hG, hcw, hfw⟩ := hx2.fam (n := n) H0.out.1 (hx1.trans H0.out.2.symm) H0.out.2.symm
          rw [← hG, ← hG] at hx2'
          have HA : Hid (At w blk off (swp x a (a + j)) ((wp.drew.setCell ⟨blk, off + a, none⟩ (.int .u64 (G (a + j)))).setCell ⟨blk, off + (a + j), none⟩ (.int .u64 (G a)))) := hx2'
          clear hx1 hx2 hx3 hG HX hx2' hsz
          by_cases hj : j = 0
          · subst hj
            have hi0 : i = 0 := hij
            clear hij hkm
            subst hi0
            have HC0 : Hid (∀ W, At w blk off (swp x a (a + 0)) W → Calls Tryz.prog 149 #[.slice (some ⟨blk, off, none⟩) n cap, .int .i64 0, .int .i64 0, .int .i64 a] W fun e w' => e = .returned (.tuple #[]) ∧ St w blk off n (fun x => heapPop ltInt a 0 x = Z) w') := HC.out
            have HA0 : Hid (At w blk off (swp x a (a + 0)) ((wp.drew.setCell ⟨blk, off + a, none⟩ (.int .u64 (G a))).setCell ⟨blk, off + a, none⟩ (.int .u64 (G a)))) := HA.out
            clear HC HA
            go_wp2
            go_region
            all_goals go_wp2_with (go_at_call 149; go_loud (refine (HC0.out _ HA0.out).mono ?_; rintro e w1 ⟨rfl, hs1⟩; have HS1 : Hid (St w blk off n (fun x => heapPop ltInt a 0 x = Z) w1) := hs1; clear hs1))
            all_goals
              go_roundw
              case rel => exact ⟨_, 0, rfl, by omega, by omega, HS1.out⟩
              case measure => simp [iOf] <;> omega
          · subst hij
            go_wp2
            go_region
            all_goals go_wp2_with (go_at_call 149; go_loud (refine (HC.out _ HA.out).mono ?_; rintro e w1 ⟨rfl, hs1⟩; have HS1 : Hid (St w blk off n (fun x => heapPop ltInt a j x = Z) w1) := hs1; clear hs1))
            go_roundw
            case rel => exact ⟨_, j, rfl, by omega, by omega, HS1.out⟩
            case measure => simp [iOf] <;> omega
end Us
end Go.Proofs.YtaejjpbpnedblaaGreat
namespace Go.Proofs.YtaejjpbpnedblaaGreat
namespace Us
open Go.RowKit Go.Sort
set_option linter.unusedVariables false
set_option linter.unusedSimpArgs false
set_option maxRecDepth 20000
/-- the count of swaps lies in a block of its own -/
structure Sw (w : World) (blk off : Nat) (d : Array Int) (sb s : Nat) (W : World) : Prop where
  at_ : At w blk off d W
  cell : W.cell? ⟨sb, 0, none⟩ = some (.int .i64 (s : Int))
  froz : W.frozen? ⟨sb, 0, none⟩ = false
  new : w.heap.size ≤ sb
theorem Sw.drewN {w W : World} {blk off sb s : Nat} {d : Array Int} (h : Sw w blk off d sb s W) (q : Nat) : Sw w blk off d sb s (W.drewN q) := ⟨h.at_.drewN q, h.cell, h.froz, h.new⟩
theorem Sw.set {w W : World} {blk off sb s : Nat} {d : Array Int} (h : Sw w blk off d sb s W) (t : Nat) : Sw w blk off d sb t (W.setCell ⟨sb, 0, none⟩ (.int .i64 (t : Int))) := by
  refine ⟨h.at_.new _ _ _ h.new, ?_, ?_, h.new⟩
  · obtain ⟨c, e, fr, hb, hc⟩ := cells_of_cell? h.cell
    rw [setCell_eq, cell?_mapBlock _ _ _ _ hb]
    have : 0 < c.size := (Array.getElem?_eq_some_iff.1 hc).1
    simp [Array.getElem?_setIfInBounds, this]
  · rw [setCell_eq, frozen?_mapBlock]; exact h.froz
set_option maxHeartbeats 1000000 in
theorem order2_any (w : World) (blk off n cap a b sb s : Nat) (d : Array Int) (W : World) (h0 : Row w blk off d) (hn : d.size = n) (h : Sw w blk off d sb s W) (ha : a < n) (hb : b < n) (hs : s ≤ 100) :
    Calls Tryz.prog 158 #[.slice (some ⟨blk, off, none⟩) n cap, .int .i64 a, .int .i64 b, .pointer (some ⟨sb, 0, none⟩)] W fun e w' =>
      e = .returned (.tuple #[.int .i64 ((order2 ltInt d a b s).1 : Nat), .int .i64 ((order2 ltInt d a b s).2.1 : Nat)]) ∧ Sw w blk off d sb (order2 ltInt d a b s).2.2 w' := by
  obtain ⟨G, hG, hcw, hfw⟩ := h.at_.fam (n := n) h0 rfl hn.symm
  have hsm := h0.small
  rw [hn] at hsm
  have HG : Hid (∀ t, G t = d[t]!) := hG
  have c0 := h.cell
  have f0 := h.froz
  have HW : Hid (Sw w blk off d sb s W) := h
  clear h h0 hG hn
  cases hl : ltInt (G b) (G a) with
  | true =>
    have E : order2 ltInt d a b s = (b, a, s + 1) := by unfold order2; rw [← HG.out, ← HG.out, hl]; rfl
    rw [E]
    have q1 : (s : Int) ≤ 100 := by omega
    clear hs E
    go_enter Tryz.func158, Tryz.ntmps158
    go_wp2
    go_quiet (first | (go_at_call 118; refine Calls.quiet_of_same (less_any _ _ _)))
    go_wp2
    all_goals first | (rename_i z; rw [hl] at z; cases z; done) | skip
    go_ret2
    exact ⟨rfl, (HW.out.drewN _).set (s + 1)⟩
  | false =>
    have E : order2 ltInt d a b s = (a, b, s) := by unfold order2; rw [← HG.out, ← HG.out, hl]; rfl
    rw [E]
    clear hs E
    go_enter Tryz.func158, Tryz.ntmps158
    go_wp2
    go_quiet (first | (go_at_call 118; refine Calls.quiet_of_same (less_any _ _ _)))
    go_wp2
    all_goals first | (rename_i z; rw [hl] at z; cases z; done) | skip
    go_ret2
    exact ⟨rfl, HW.out.drewN _⟩
theorem o2_lt {d : Array Int} {a b s n : Nat} (ha : a < n) (hb : b < n) : (order2 ltInt d a b s).1 < n ∧ (order2 ltInt d a b s).2.1 < n := by
  unfold order2; split <;> exact ⟨by assumption, by assumption⟩
theorem o2_le (d : Array Int) (a b s : Nat) : (order2 ltInt d a b s).2.2 ≤ s + 1 := order2_count ltInt d a b s
set_option maxHeartbeats 1000000 in
theorem median_any (w : World) (blk off n cap a b c sb s : Nat) (d : Array Int) (W : World) (h0 : Row w blk off d) (hn : d.size = n) (h : Sw w blk off d sb s W) (ha : a < n) (hb : b < n) (hc : c < n) (hs : s ≤ 90) :
    Calls Tryz.prog 153 #[.slice (some ⟨blk, off, none⟩) n cap, .int .i64 a, .int .i64 b, .int .i64 c, .pointer (some ⟨sb, 0, none⟩)] W fun e w' =>
      e = .returned (.int .i64 ((median ltInt d a b c s).1 : Nat)) ∧ Sw w blk off d sb (median ltInt d a b c s).2 w' := by
  obtain ⟨r1, h1⟩ : ∃ r, order2 ltInt d a b s = r := ⟨_, rfl⟩
  obtain ⟨r2, h2⟩ : ∃ r, order2 ltInt d r1.2.1 c r1.2.2 = r := ⟨_, rfl⟩
  obtain ⟨r3, h3⟩ : ∃ r, order2 ltInt d r1.1 r2.1 r2.2.2 = r := ⟨_, rfl⟩
  have E : median ltInt d a b c s = (r3.2.1, r3.2.2) := by unfold median; simp only [h1, h2, h3]
  have l1 := o2_lt (d := d) (s := s) ha hb
  have k1 := o2_le d a b s
  rw [h1] at l1 k1
  have l2 := o2_lt (d := d) (s := r1.2.2) l1.2 hc
  have k2 := o2_le d r1.2.1 c r1.2.2
  rw [h2] at l2 k2
  have C1 := order2_any w blk off n cap a b sb s d W h0 hn h ha hb (by omega)
  rw [h1] at C1
  have C2 := fun W1 (hw : Sw w blk off d sb r1.2.2 W1) => order2_any w blk off n cap r1.2.1 c sb r1.2.2 d W1 h0 hn hw l1.2 hc (by omega)
  rw [h2] at C2
  have C3 := fun W2 (hw : Sw w blk off d sb r2.2.2 W2) => order2_any w blk off n cap r1.1 r2.1 sb r2.2.2 d W2 h0 hn hw l1.1 l2.1 (by omega)
  rw [h3] at C3
  rw [E]
  obtain ⟨x1, y1, s1⟩ := r1
  obtain ⟨x2, y2, s2⟩ := r2
  obtain ⟨x3, y3, s3⟩ := r3
  simp only at C1 C2 C3 ⊢
  have H1 : Hid (Calls Tryz.prog 158 #[.slice (some ⟨blk, off, none⟩) n cap, .int .i64 a, .int .i64 b, .pointer (some ⟨sb, 0, none⟩)] W fun e w' => e = .returned (.tuple #[.int .i64 (x1 : Nat), .int .i64 (y1 : Nat)]) ∧ Sw w blk off d sb s1 w') := C1
  have H2 : Hid (∀ W1, Sw w blk off d sb s1 W1 → Calls Tryz.prog 158 #[.slice (some ⟨blk, off, none⟩) n cap, .int .i64 y1, .int .i64 c, .pointer (some ⟨sb, 0, none⟩)] W1 fun e w' => e = .returned (.tuple #[.int .i64 (x2 : Nat), .int .i64 (y2 : Nat)]) ∧ Sw w blk off d sb s2 w') := C2
  have H3 : Hid (∀ W2, Sw w blk off d sb s2 W2 → Calls Tryz.prog 158 #[.slice (some ⟨blk, off, none⟩) n cap, .int .i64 x1, .int .i64 x2, .pointer (some ⟨sb, 0, none⟩)] W2 fun e w' => e = .returned (.tuple #[.int .i64 (x3 : Nat), .int .i64 (y3 : Nat)]) ∧ Sw w blk off d sb s3 w') := C3
  clear C1 C2 C3 h1 h2 h3 E l1 l2 k1 k2 h0 hn h ha hb hc hs
  go_enter Tryz.func153, Tryz.ntmps153
  go_upto_region 2 with (go_at_call 158; go_loud (refine H1.out.mono ?_; rintro e W1 ⟨rfl, hs1⟩; have HS1 : Hid (Sw w blk off d sb s1 W1) := hs1; clear hs1))
  go_upto_region 3 with (go_at_call 158; go_loud (refine (H2.out _ HS1.out).mono ?_; rintro e W2 ⟨rfl, hs2⟩; have HS2 : Hid (Sw w blk off d sb s2 W2) := hs2; clear hs2))
  go_wp2_with (go_at_call 158; go_loud (refine (H3.out _ HS2.out).mono ?_; rintro e W3 ⟨rfl, hs3⟩; have HS3 : Hid (Sw w blk off d sb s3 W3) := hs3; clear hs3))
  go_ret
  exact ⟨rfl, HS3.out⟩
set_option maxHeartbeats 1000000 in
theorem medianAdj_any (w : World) (blk off n cap a sb s : Nat) (d : Array Int) (W : World) (h0 : Row w blk off d) (hn : d.size = n) (h : Sw w blk off d sb s W) (h1 : 1 ≤ a) (ha : a + 1 < n) (hs : s ≤ 90) :
    Calls Tryz.prog 152 #[.slice (some ⟨blk, off, none⟩) n cap, .int .i64 a, .pointer (some ⟨sb, 0, none⟩)] W fun e w' =>
      e = .returned (.int .i64 ((medianAdjacent ltInt d a s).1 : Nat)) ∧ Sw w blk off d sb (medianAdjacent ltInt d a s).2 w' := by
  have C := median_any w blk off n cap (a - 1) a (a + 1) sb s d W h0 hn h (by omega) (by omega) ha hs
  have hsm := h0.small
  rw [hn] at hsm
  rw [show ((a - 1 : Nat) : Int) = (a : Int) - 1 by omega, show ((a + 1 : Nat) : Int) = (a : Int) + 1 by omega] at C
  unfold medianAdjacent
  obtain ⟨r, hr⟩ : ∃ r, median ltInt d (a - 1) a (a + 1) s = r := ⟨_, rfl⟩
  rw [hr] at C ⊢
  have H1 : Hid (Calls Tryz.prog 153 #[.slice (some ⟨blk, off, none⟩) n cap, .int .i64 ((a : Int) - 1), .int .i64 a, .int .i64 ((a : Int) + 1), .pointer (some ⟨sb, 0, none⟩)] W fun e w' => e = .returned (.int .i64 (r.1 : Nat)) ∧ Sw w blk off d sb r.2 w') := C
  clear C h0 hn h hs hr
  go_enter Tryz.func152, Tryz.ntmps152
  go_wp2_with (go_at_call 153; go_loud (refine H1.out.mono ?_; rintro e W1 ⟨rfl, hs1⟩; have HS1 : Hid (Sw w blk off d sb r.2 W1) := hs1; clear hs1))
  go_ret
  exact ⟨rfl, HS1.out⟩
end Us
end Go.Proofs.YtaejjpbpnedblaaGreat
