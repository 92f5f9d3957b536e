import Derived.Test.YtecgecolghgjoaaUs8
import Derived.Sort.LotA
namespace Go.Proofs.Ytecgecolghgjoaa
namespace Us
open Go.RowKit Go.Sort
set_option linter.unusedVariables false
set_option linter.unusedSimpArgs false
set_option maxRecDepth 20000
theorem ss_on {d : Array Int} {b i : Nat} (h : i < b) (hl : ltInt d[i]! d[i - 1]! = false) : scanSorted ltInt d b i = scanSorted ltInt d b (i + 1) := by
  conv => lhs; rw [scanSorted]
  rw [if_pos (by simp [h, hl])]
theorem ss_end {d : Array Int} {b i : Nat} (h : ¬ i < b ∨ ltInt d[i]! d[i - 1]! = true) : scanSorted ltInt d b i = i := by
  rw [scanSorted, if_neg]
  rcases h with h | h <;> simp [h]
theorem ss_in {d : Array Int} {b : Nat} : ∀ (m i : Nat), b - i ≤ m → i ≤ b → i ≤ scanSorted ltInt d b i ∧ scanSorted ltInt d b i ≤ b := by
  intro m
  induction m with
  | zero => intro i h1 h2; rw [ss_end (.inl (by omega))]; omega
  | succ m ih =>
    intro i h1 h2
    by_cases h : i < b
    · cases hl : ltInt d[i]! d[i - 1]! with
      | true => rw [ss_end (.inr hl)]; omega
      | false =>
        rw [ss_on h hl]
        have := ih (i + 1) (by omega) (by omega)
        omega
    · rw [ss_end (.inl h)]; omega
theorem sd_on {d : Array Int} {j : Nat} (h : 1 ≤ j) (hl : ltInt d[j]! d[j - 1]! = true) : shiftDown ltInt j d = shiftDown ltInt (j - 1) (swp d j (j - 1)) := by
  cases j with
  | zero => omega
  | succ k =>
    have hl' : ltInt d[k + 1]! d[k]! = true := hl
    conv => lhs; rw [shiftDown]
    rw [if_neg (by simp [hl'])]
    rfl
theorem sd_end {d : Array Int} {j : Nat} (h : j = 0 ∨ ltInt d[j]! d[j - 1]! = false) : shiftDown ltInt j d = d := by
  cases j with
  | zero => rw [shiftDown]
  | succ k =>
    rcases h with h | h
    · omega
    · have hl' : ltInt d[k + 1]! d[k]! = false := h
      rw [shiftDown, if_pos (by simp [hl'])]
theorem su_on {d : Array Int} {b j : Nat} (h : j < b) (hl : ltInt d[j]! d[j - 1]! = true) : shiftUp ltInt b j d = shiftUp ltInt b (j + 1) (swp d j (j - 1)) := by
  conv => lhs; rw [shiftUp]
  rw [if_pos h, if_neg (by simp [hl])]
theorem su_end {d : Array Int} {b j : Nat} (h : ¬ j < b ∨ ltInt d[j]! d[j - 1]! = false) : shiftUp ltInt b j d = d := by
  rw [shiftUp]
  by_cases hj : j < b
  · rcases h with h | h
    · exact absurd hj h
    · rw [if_pos hj, if_pos (by simp [h])]
  · rw [if_neg hj]
theorem pi_step (a b i j k : Nat) (d : Array Int) (hj : j < 5) (hk : scanSorted ltInt d b i = k) :
    partialIns ltInt a b (5 - j) i d = if k = b then (d, true) else if b - a < 50 then (d, false) else partialIns ltInt a b (5 - (j + 1)) k (fixUp ltInt b k (fixDown ltInt a k (swp d k (k - 1)))) := by
  rw [show 5 - j = (4 - j) + 1 by omega, partialIns_succ, hk, show 5 - (j + 1) = 4 - j by omega]
set_option maxHeartbeats 8000000 in
theorem partial_any (blk off n cap a b : Nat) (d : Array Int) (w : World) (h : Row w blk off d) (hn : d.size = n) (hab : a < b) (hb : b ≤ n) :
    Calls Try.prog 65 #[.slice (some ⟨blk, off, none⟩) n cap, .int .i64 a, .int .i64 b] w fun e w' => e = .returned (.bool (partialInsertionSort ltInt d a b).2) ∧ At w blk off (partialInsertionSort ltInt d a b).1 w' := by
  have hsm := h.small
  rw [hn] at hsm
  have H0 : Hid (Row w blk off d ∧ d.size = n) := ⟨h, hn⟩
  obtain ⟨Z, hZ⟩ : ∃ Z, partialInsertionSort ltInt d a b = Z := ⟨_, rfl⟩
  rw [hZ]
  have HS : Hid (St w blk off n (fun x => partialIns ltInt a b 5 (a + 1) x = Z) w) := ⟨d, hn, At.start h, hZ⟩
  clear h hn hZ
  go_enter Try.func65, Try.ntmps65
  go_wp2
  go_loopw [7, 8] (fun vi vj wr => ∃ i j : Nat, vi = .int .i64 (i : Int) ∧ vj = .int .i64 (j : Int) ∧ a < i ∧ i ≤ b ∧ j ≤ 5 ∧ Hid (St w blk off n (fun x => partialIns ltInt a b (5 - j) i x = Z) wr)) (fun _ vj _ => 5 - (iOf vj).toNat)
  case atStart => exact ⟨a + 1, 0, by go_num, rfl, by omega, by omega, by omega, HS.out⟩
  case round =>
    clear HS
    obtain ⟨i, j, rfl, rfl, hai, hib, hj5, HX0⟩ := hrel
    rename World => wq
    obtain ⟨x, hx1, hx2, hx3⟩ := HX0.out
    clear HX0
    have HX : Hid (x.size = n) := hx1
    have HA : Hid (At w blk off x wq) := hx2
    by_cases hj : j < 5
    · have q0 : (j : Int) < 5 := by omega
      obtain ⟨k, hk⟩ : ∃ k, scanSorted ltInt x b i = k := ⟨_, rfl⟩
      have hki : i ≤ k ∧ k ≤ b := by rw [← hk]; exact ss_in _ _ (Nat.le_refl _) hib
      obtain ⟨hki, hkb0⟩ := hki
      have hz := pi_step a b i j k x hj hk
      have HZ : Hid ((if k = b then (x, true) else if b - a < 50 then (x, false) else partialIns ltInt a b (5 - (j + 1)) k (fixUp ltInt b k (fixDown ltInt a k (swp x k (k - 1))))) = Z) := hz.symm.trans hx3
      have HK : Hid (scanSorted ltInt x b i = k) := hk
      clear hx1 hx2 hx3 hk hz
      go_upto_block 2 with fail
      go_cut [7] (fun vi w' => vi = .int .i64 (k : Int) ∧ Hid (At w blk off x w'))
      case first =>
        go_wp2_with fail
        go_loopw [7] (fun vi wr => ∃ c : Nat, vi = .int .i64 (c : Int) ∧ i ≤ c ∧ c ≤ b ∧ Hid (At w blk off x wr ∧ scanSorted ltInt x b c = k)) (fun vi _ => b - (iOf vi).toNat)
        case atStart => exact ⟨i, rfl, Nat.le_refl _, hib, HA.out, HK.out⟩
        case round =>
          obtain ⟨c, rfl, hc1, hc2, HC⟩ := hrel
          rename World => wc
          obtain ⟨G, hG, hcw, hfw⟩ := HC.out.1.fam (n := n) H0.out.1 (HX.out.trans H0.out.2.symm) H0.out.2.symm
          have HG : Hid (∀ t, G t = x[t]!) := hG
          clear hG
          by_cases hle : c < b
          · have q1 : (c : Int) < (b : Int) := by omega
            cases hl : ltInt (G c) (G (c - 1)) with
            | false =>
              have HT : Hid (ltInt x[c]! x[c - 1]! = false) := by
                have z := hl
                rw [HG.out, HG.out] at z
                exact z
              go_wp2
              go_quiet (first | (go_at_call 66; refine Calls.quiet_of_same (less_any _ _ _)))
              go_wp2
              all_goals first | (rename_i z; simp [hl] at z; done) | skip
              go_roundw
              case rel => exact ⟨c + 1, by go_num, by omega, by omega, (HC.out.1.drewN _), by rw [← HC.out.2, ss_on hle HT.out]⟩
              case measure => simp [iOf] <;> omega
            | true =>
              have HT : Hid (ltInt x[c]! x[c - 1]! = true) := by
                have z := hl
                rw [HG.out, HG.out] at z
                exact z
              have HCU : Hid (c = k) := (HC.out.2.symm.trans (ss_end (.inr HT.out))).symm
              go_wp2
              go_quiet (first | (go_at_call 66; refine Calls.quiet_of_same (less_any _ _ _)))
              go_wp2
              all_goals first | (rename_i z; simp [hl] at z; done) | skip
              go_meet
              case rel => exact ⟨by rw [HCU.out], HC.out.1.drewN _⟩
          · have q1 : decide ((c : Int) < (b : Int)) = false := by simp; omega
            have HCU : Hid (c = k) := (HC.out.2.symm.trans (ss_end (.inl hle))).symm
            go_wp2
            go_quiet (first | (go_at_call 66; refine Calls.quiet_of_same (less_any _ _ _)))
            go_wp2
            go_meet
            case rel => exact ⟨by rw [HCU.out], HC.out.1.drewN _⟩
      case rest =>
        clear HA HK
        obtain ⟨rfl, HA⟩ := hcut
        rename World => w4
        by_cases hkb : k = b
        · subst hkb
          have hz := HZ.out
          rw [if_pos rfl] at hz
          have HE : Hid (Z = (x, true)) := hz.symm
          clear hz HZ
          go_wp2
          go_ret
          rw [HE.out]
          exact ⟨rfl, HA.out⟩
        · have q2 : ¬ (k : Int) = (b : Int) := by omega
          by_cases h50 : b - a < 50
          · have q3 : (b : Int) - (a : Int) < 50 := by omega
            have hz := HZ.out
            rw [if_neg hkb, if_pos h50] at hz
            have HE : Hid (Z = (x, false)) := hz.symm
            clear hz HZ
            go_wp2
            go_ret
            rw [HE.out]
            exact ⟨rfl, HA.out⟩
          · have q3 : ¬ (b : Int) - (a : Int) < 50 := by omega
            have hz := HZ.out
            rw [if_neg hkb, if_neg h50] at hz
            clear HZ
            have hkl : k < b := by omega
            obtain ⟨y0, hy0⟩ : ∃ y, swp x k (k - 1) = y := ⟨_, rfl⟩
            rw [hy0] at hz
            obtain ⟨y1, hy1⟩ : ∃ y, fixDown ltInt a k y0 = y := ⟨_, rfl⟩
            rw [hy1] at hz
            obtain ⟨y2, hy2⟩ : ∃ y, fixUp ltInt b k y1 = y := ⟨_, rfl⟩
            rw [hy2] at hz
            have HE : Hid (partialIns ltInt a b (5 - (j + 1)) k y2 = Z) := hz
            have HY1 : Hid (fixDown ltInt a k y0 = y1) := hy1
            have HY2 : Hid (fixUp ltInt b k y1 = y2) := hy2
            obtain ⟨G, hG, hcw, hfw⟩ := HA.out.fam (n := n) H0.out.1 (HX.out.trans H0.out.2.symm) H0.out.2.symm
            have hx := HA.out.drew.swap H0.out.1.lt k (k - 1) (by rw [HX.out]; omega) (by rw [HX.out]; omega)
            rw [← hG, ← hG, hy0] at hx
            have HN : Hid (At w blk off y0 ((w4.drew.setCell ⟨blk, off + k, none⟩ (.int .u64 (G (k - 1)))).setCell ⟨blk, off + (k - 1), none⟩ (.int .u64 (G k)))) := hx
            have HY0 : Hid (y0.size = n) := by
              have := size_swp x k (k - 1)
              rw [hy0] at this
              exact this.trans HX.out
            clear hx hG hz hy0 hy1 hy2 HA HX
            go_upto_region 11 with fail
            go_cut [] (fun w' => Hid (At w blk off y0 w'))
            case first =>
              go_region
              all_goals go_wp2_with fail
              all_goals go_meet
              case rel => exact HN.out
            case rest =>
              clear HN hcw hfw G
              rename World => w5
              have HA : Hid (At w blk off y0 w5) := hcut.out
              clear hcut q2 q3 hkb h50 q0
              go_upto_if 61 with fail
              go_cut [] (fun w' => Hid (St w blk off n (fun y => y = y1) w'))
              case first =>
                by_cases h2 : k - a ≥ 2
                · have q4 : (2 : Int) ≤ (k : Int) - (a : Int) := by omega
                  have HD : Hid (shiftDown ltInt (k - 1) y0 = y1) := by
                    have := HY1.out
                    unfold fixDown at this
                    rw [if_pos h2] at this
                    exact this
                  go_wp2_with fail
                  go_loopw [9] (fun vi wr => ∃ c : Nat, vi = .int .i64 (c : Int) ∧ c < k ∧ Hid (St w blk off n (fun y => shiftDown ltInt c y = y1) wr)) (fun vi _ => (iOf vi).toNat)
                  case atStart => exact ⟨k - 1, by congr 1; omega, by omega, y0, HY0.out, HA.out, HD.out⟩
                  case round =>
                    obtain ⟨c, rfl, hck, HC⟩ := hrel
                    rename World => wc
                    obtain ⟨y, hs1, hs2, hs3⟩ := HC.out
                    clear HC
                    have HC : Hid (y.size = n ∧ At w blk off y wc ∧ shiftDown ltInt c y = y1) := ⟨hs1, hs2, hs3⟩
                    by_cases hc : 1 ≤ c
                    · have q5 : (1 : Int) ≤ (c : Int) := by omega
                      obtain ⟨G, hG, hcw, hfw⟩ := hs2.fam (n := n) H0.out.1 (hs1.trans H0.out.2.symm) H0.out.2.symm
                      have HG : Hid (∀ t, G t = y[t]!) := hG
                      clear hG hs1 hs2 hs3
                      cases hl : ltInt (G c) (G (c - 1)) with
                      | true =>
                        go_wp2
                        go_quiet (first | (go_at_call 66; refine Calls.quiet_of_same (less_any _ _ _)))
                        go_wp2
                        all_goals first | (rename_i z; simp [hl] at z; done) | skip
                        have hcw2 : ∀ t, t < n → (wc.drewN nq).cell? ⟨blk, off + t, none⟩ = some (.int .u64 (G t)) := hcw
                        have hfw2 : ∀ t, t < n → (wc.drewN nq).frozen? ⟨blk, off + t, none⟩ = false := hfw
                        have hx := (HC.out.2.1.drewN nq).drew.swap H0.out.1.lt c (c - 1) (by rw [HC.out.1]; omega) (by rw [HC.out.1]; omega)
                        rw [← HG.out, ← HG.out] at hx
                        have HN : Hid (At w blk off (swp y c (c - 1)) (((wc.drewN nq).drew.setCell ⟨blk, off + c, none⟩ (.int .u64 (G (c - 1)))).setCell ⟨blk, off + (c - 1), none⟩ (.int .u64 (G c)))) := hx
                        have HL : Hid (shiftDown ltInt (c - 1) (swp y c (c - 1)) = y1) := by
                          have z := hl
                          rw [HG.out, HG.out] at z
                          rw [← sd_on hc z]; exact HC.out.2.2
                        clear hx hl hcw hfw
                        generalize wc.drewN nq = w6 at hcw2 hfw2 HN ⊢
                        go_region
                        all_goals go_wp2
                        go_roundw
                        case rel => exact ⟨c - 1, by congr 1; omega, by omega, _, (size_swp _ _ _).trans HC.out.1, HN.out, HL.out⟩
                        case measure => simp [iOf] <;> omega
                      | false =>
                        have HL : Hid (y = y1) := by
                          have z := hl
                          rw [HG.out, HG.out] at z
                          have := HC.out.2.2
                          rw [sd_end (.inr z)] at this
                          exact this
                        go_wp2
                        go_quiet (first | (go_at_call 66; refine Calls.quiet_of_same (less_any _ _ _)))
                        go_wp2
                        all_goals first | (rename_i z; simp [hl] at z; done) | skip
                        go_meet
                        case rel => exact ⟨y, HC.out.1, HC.out.2.1.drewN _, HL.out⟩
                    · obtain rfl : c = 0 := by omega
                      have HL : Hid (y = y1) := by
                        have := HC.out.2.2
                        rw [sd_end (.inl rfl)] at this
                        exact this
                      clear hs1 hs2 hs3
                      go_wp2
                      go_meet
                      case rel => exact ⟨y, HC.out.1, HC.out.2.1, HL.out⟩
                · have q4 : ¬ (2 : Int) ≤ (k : Int) - (a : Int) := by omega
                  have HD : Hid (y0 = y1) := by
                    have := HY1.out
                    unfold fixDown at this
                    rw [if_neg h2] at this
                    exact this
                  go_wp2_with fail
                  go_meet
                  case rel => exact ⟨y0, HY0.out, HA.out, HD.out⟩
              case rest =>
                rename World => w7
                obtain ⟨y, hs1, hs2, hs3⟩ := hcut.out
                clear hcut HA HY1 HY0
                subst hs3
                have HA : Hid (At w blk off y w7) := hs2
                have HY0 : Hid (y.size = n) := hs1
                clear hs1 hs2
                have OUT : Hid (∀ (u : Array Int) (W : World), u.size = n → At w blk off u W → u = y2 → ∃ i' j' : Nat, Value.int .i64 (k : Int) = .int .i64 (i' : Int) ∧ Value.int .i64 ((j : Int) + 1) = .int .i64 (j' : Int) ∧ a < i' ∧ i' ≤ b ∧ j' ≤ 5 ∧ Hid (St w blk off n (fun x => partialIns ltInt a b (5 - j') i' x = Z) W)) := fun u W h1 h2 h3 =>
                  ⟨k, j + 1, rfl, by go_num, by omega, by omega, by omega, u, h1, h2, by rw [h3]; exact HE.out⟩
                by_cases h2 : b - k ≥ 2
                · have q4 : (2 : Int) ≤ (b : Int) - (k : Int) := by omega
                  have HD : Hid (shiftUp ltInt b (k + 1) y = y2) := by
                    have := HY2.out
                    unfold fixUp at this
                    rw [if_pos h2] at this
                    exact this
                  go_wp2
                  go_loopw [10] (fun vi wr => ∃ c : Nat, vi = .int .i64 (c : Int) ∧ k < c ∧ c ≤ b ∧ Hid (St w blk off n (fun z => shiftUp ltInt b c z = y2) wr)) (fun vi _ => b - (iOf vi).toNat)
                  case atStart => exact ⟨k + 1, by go_num, by omega, by omega, y, HY0.out, HA.out, HD.out⟩
                  case round =>
                    obtain ⟨c, rfl, hkc, hcb, HC⟩ := hrel
                    rename World => wc
                    obtain ⟨u, hs1, hs2, hs3⟩ := HC.out
                    clear HC
                    have HC : Hid (u.size = n ∧ At w blk off u wc ∧ shiftUp ltInt b c u = y2) := ⟨hs1, hs2, hs3⟩
                    by_cases hc : c < b
                    · have q5 : (c : Int) < (b : Int) := by omega
                      obtain ⟨G, hG, hcw, hfw⟩ := hs2.fam (n := n) H0.out.1 (hs1.trans H0.out.2.symm) H0.out.2.symm
                      have HG : Hid (∀ t, G t = u[t]!) := hG
                      clear hG hs1 hs2 hs3
                      cases hl : ltInt (G c) (G (c - 1)) with
                      | true =>
                        go_wp2
                        go_quiet (first | (go_at_call 66; refine Calls.quiet_of_same (less_any _ _ _)))
                        go_wp2
                        all_goals first | (rename_i z; simp [hl] at z; done) | skip
                        have hcw2 : ∀ t, t < n → (wc.drewN nq).cell? ⟨blk, off + t, none⟩ = some (.int .u64 (G t)) := hcw
                        have hfw2 : ∀ t, t < n → (wc.drewN nq).frozen? ⟨blk, off + t, none⟩ = false := hfw
                        have hx := (HC.out.2.1.drewN nq).drew.swap H0.out.1.lt c (c - 1) (by rw [HC.out.1]; omega) (by rw [HC.out.1]; omega)
                        rw [← HG.out, ← HG.out] at hx
                        have HN : Hid (At w blk off (swp u c (c - 1)) (((wc.drewN nq).drew.setCell ⟨blk, off + c, none⟩ (.int .u64 (G (c - 1)))).setCell ⟨blk, off + (c - 1), none⟩ (.int .u64 (G c)))) := hx
                        have HL : Hid (shiftUp ltInt b (c + 1) (swp u c (c - 1)) = y2) := by
                          have z := hl
                          rw [HG.out, HG.out] at z
                          rw [← su_on hc z]; exact HC.out.2.2
                        clear hx hl hcw hfw
                        generalize wc.drewN nq = w8 at hcw2 hfw2 HN ⊢
                        go_region
                        all_goals go_wp2
                        go_roundw
                        case rel => exact ⟨c + 1, by go_num, by omega, by omega, _, (size_swp _ _ _).trans HC.out.1, HN.out, HL.out⟩
                        case measure => simp [iOf] <;> omega
                      | false =>
                        have HL : Hid (u = y2) := by
                          have z := hl
                          rw [HG.out, HG.out] at z
                          have := HC.out.2.2
                          rw [su_end (.inr z)] at this
                          exact this
                        go_wp2
                        go_quiet (first | (go_at_call 66; refine Calls.quiet_of_same (less_any _ _ _)))
                        go_wp2
                        all_goals first | (rename_i z; simp [hl] at z; done) | skip
                        go_roundw
                        case rel => exact OUT.out u _ HC.out.1 (HC.out.2.1.drewN _) HL.out
                        case measure => simp [iOf] <;> omega
                    · have q5 : ¬ (c : Int) < (b : Int) := by omega
                      have HL : Hid (u = y2) := by
                        have := HC.out.2.2
                        rw [su_end (.inl hc)] at this
                        exact this
                      clear hs1 hs2 hs3
                      go_wp2
                      go_roundw
                      case rel => exact OUT.out u _ HC.out.1 HC.out.2.1 HL.out
                      case measure => simp [iOf] <;> omega
                · have q4 : ¬ (2 : Int) ≤ (b : Int) - (k : Int) := by omega
                  have HD : Hid (y = y2) := by
                    have := HY2.out
                    unfold fixUp at this
                    rw [if_neg h2] at this
                    exact this
                  go_wp2
                  go_roundw
                  case rel => exact OUT.out y _ HY0.out HA.out HD.out
                  case measure => simp [iOf] <;> omega
    · obtain rfl : j = 5 := by omega
      have HE : Hid (Z = (x, false)) := hx3.symm
      clear hx1 hx2 hx3
      go_wp2
      go_ret
      rw [HE.out]
      exact ⟨rfl, HA.out⟩
end Us
end Go.Proofs.Ytecgecolghgjoaa
