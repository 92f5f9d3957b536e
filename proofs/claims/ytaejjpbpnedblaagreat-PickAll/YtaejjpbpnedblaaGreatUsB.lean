import Derived.Test.YtaejjpbpnedblaaGreatUs8
import Derived.Sort.LotA
import Derived.Sort.LotD1
import Derived.Sort.LotD5
import Derived.Laws.Bits64
import Derived.Laws.Bits64b
import Derived.Shelf.Lay
import Derived.Shelf.Small.Bits
import Derived.Ground.NamesProg
import Derived.Sort.Walk13a
import Derived.Sort.AssemblyPlain
namespace Go.Proofs.YtaejjpbpnedblaaGreat
namespace Us
open Go.RowKit Go.Sort
set_option linter.unusedVariables false
set_option linter.unusedSimpArgs false
set_option maxRecDepth 20000
theorem ss_on {d : Array Int} {b i : Nat} (h : i < b) (hl : ltInt d[i]! d[i - 1]! = false) : scanSorted ltInt d b i = scanSorted ltInt d b (i + 1) := by
  conv => lhs; rw [scanSorted]
  rw [if_pos (by simp [h, hl])]
theorem ss_end {d : Array Int} {b i : Nat} (h : ¬ i < b ∨ ltInt d[i]! d[i - 1]! = true) : scanSorted ltInt d b i = i := by
  rw [scanSorted, if_neg]
  rcases h with h | h <;> simp [h]
theorem ss_in {d : Array Int} {b : Nat} : ∀ (m i : Nat), b - i ≤ m → i ≤ b → i ≤ scanSorted ltInt d b i ∧ scanSorted ltInt d b i ≤ b := by
  intro m
  induction m with
  | zero => intro i h1 h2; rw [ss_end (.inl (by omega))]; omega
  | succ m ih =>
    intro i h1 h2
    by_cases h : i < b
    · cases hl : ltInt d[i]! d[i - 1]! with
      | true => rw [ss_end (.inr hl)]; omega
      | false =>
        rw [ss_on h hl]
        have := ih (i + 1) (by omega) (by omega)
        omega
    · rw [ss_end (.inl h)]; omega
theorem sd_on {d : Array Int} {j : Nat} (h : 1 ≤ j) (hl : ltInt d[j]! d[j - 1]! = true) : shiftDown ltInt j d = shiftDown ltInt (j - 1) (swp d j (j - 1)) := by
  cases j with
  | zero => omega
  | succ k =>
    have hl' : ltInt d[k + 1]! d[k]! = true := hl
    conv => lhs; rw [shiftDown]
    rw [if_neg (by simp [hl'])]
    rfl
theorem sd_end {d : Array Int} {j : Nat} (h : j = 0 ∨ ltInt d[j]! d[j - 1]! = false) : shiftDown ltInt j d = d := by
  cases j with
  | zero => rw [shiftDown]
  | succ k =>
    rcases h with h | h
    · omega
    · have hl' : ltInt d[k + 1]! d[k]! = false := h
      rw [shiftDown, if_pos (by simp [hl'])]
theorem su_on {d : Array Int} {b j : Nat} (h : j < b) (hl : ltInt d[j]! d[j - 1]! = true) : shiftUp ltInt b j d = shiftUp ltInt b (j + 1) (swp d j (j - 1)) := by
  conv => lhs; rw [shiftUp]
  rw [if_pos h, if_neg (by simp [hl])]
theorem su_end {d : Array Int} {b j : Nat} (h : ¬ j < b ∨ ltInt d[j]! d[j - 1]! = false) : shiftUp ltInt b j d = d := by
  rw [shiftUp]
  by_cases hj : j < b
  · rcases h with h | h
    · exact absurd hj h
    · rw [if_pos hj, if_pos (by simp [h])]
  · rw [if_neg hj]
theorem pi_step (a b i j k : Nat) (d : Array Int) (hj : j < 5) (hk : scanSorted ltInt d b i = k) :
    partialIns ltInt a b (5 - j) i d = if k = b then (d, true) else if b - a < 50 then (d, false) else partialIns ltInt a b (5 - (j + 1)) k (fixUp ltInt b k (fixDown ltInt a k (swp d k (k - 1)))) := by
  rw [show 5 - j = (4 - j) + 1 by omega, partialIns_succ, hk, show 5 - (j + 1) = 4 - j by omega]
set_option maxHeartbeats 8000000 in
theorem partial_any (blk off n cap a b : Nat) (d : Array Int) (w : World) (h : Row w blk off d) (hn : d.size = n) (hab : a < b) (hb : b ≤ n) :
    Calls Tryz.prog 131 #[.slice (some ⟨blk, off, none⟩) n cap, .int .i64 a, .int .i64 b] w fun e w' => e = .returned (.bool (partialInsertionSort ltInt d a b).2) ∧ At w blk off (partialInsertionSort ltInt d a b).1 w' := by
  have hsm := h.small
  rw [hn] at hsm
  have H0 : Hid (Row w blk off d ∧ d.size = n) := ⟨h, hn⟩
  obtain ⟨Z, hZ⟩ : ∃ Z, partialInsertionSort ltInt d a b = Z := ⟨_, rfl⟩
  rw [hZ]
  have HS : Hid (St w blk off n (fun x => partialIns ltInt a b 5 (a + 1) x = Z) w) := ⟨d, hn, At.start h, hZ⟩
  clear h hn hZ
  go_enter Tryz.func131, Tryz.ntmps131
  go_wp2
  go_loopw [7, 8] (fun vi vj wr => ∃ i j : Nat, vi = .int .i64 (i : Int) ∧ vj = .int .i64 (j : Int) ∧ a < i ∧ i ≤ b ∧ j ≤ 5 ∧ Hid (St w blk off n (fun x => partialIns ltInt a b (5 - j) i x = Z) wr)) (fun _ vj _ => 5 - (iOf vj).toNat)
  case atStart => exact ⟨a + 1, 0, by go_num, rfl, by omega, by omega, by omega, HS.out⟩
  case round =>
    clear HS
    obtain ⟨i, j, rfl, rfl, hai, hib, hj5, HX0⟩ := hrel
    rename World => wq
    obtain ⟨x, hx1, hx2, hx3⟩ := HX0.out
    clear HX0
    have HX : Hid (x.size = n) := hx1
    have HA : Hid (At w blk off x wq) := hx2
    by_cases hj : j < 5
    · have q0 : (j : Int) < 5 := by omega
      obtain ⟨k, hk⟩ : ∃ k, scanSorted ltInt x b i = k := ⟨_, rfl⟩
      have hki : i ≤ k ∧ k ≤ b := by rw [← hk]; exact ss_in _ _ (Nat.le_refl _) hib
      obtain ⟨hki, hkb0⟩ := hki
      have hz := pi_step a b i j k x hj hk
      have HZ : Hid ((if k = b then (x, true) else if b - a < 50 then (x, false) else partialIns ltInt a b (5 - (j + 1)) k (fixUp ltInt b k (fixDown ltInt a k (swp x k (k - 1))))) = Z) := hz.symm.trans hx3
      have HK : Hid (scanSorted ltInt x b i = k) := hk
      clear hx1 hx2 hx3 hk hz
      go_upto_block 2 with fail
      go_cut [7] (fun vi w' => vi = .int .i64 (k : Int) ∧ Hid (At w blk off x w'))
      case first =>
        go_wp2_with fail
        go_loopw [7] (fun vi wr => ∃ c : Nat, vi = .int .i64 (c : Int) ∧ i ≤ c ∧ c ≤ b ∧ Hid (At w blk off x wr ∧ scanSorted ltInt x b c = k)) (fun vi _ => b - (iOf vi).toNat)
        case atStart => exact ⟨i, rfl, Nat.le_refl _, hib, HA.out, HK.out⟩
        case round =>
          obtain ⟨c, rfl, hc1, hc2, HC⟩ := hrel
          rename World => wc
          obtain ⟨G, hG, hcw, hfw⟩ := HC.out.1.fam (n := n) H0.out.1 (HX.out.trans H0.out.2.symm) H0.out.2.symm
          have HG : Hid (∀ t, G t = x[t]!) := hG
          clear hG
          by_cases hle : c < b
          · have q1 : (c : Int) < (b : Int) := by omega
            cases hl : ltInt (G c) (G (c - 1)) with
            | false =>
              have HT : Hid (ltInt x[c]! x[c - 1]! = false) := by
                have z := hl
                rw [HG.out, HG.out] at z
                exact z
              go_wp2
              go_quiet (first | (go_at_call 118; refine Calls.quiet_of_same (less_any _ _ _)))
              go_wp2
              all_goals first | (rename_i z; simp [hl] at z; done) | skip
              go_roundw
              case rel => exact ⟨c + 1, by go_num, by omega, by omega, (HC.out.1.drewN _), by rw [← HC.out.2, ss_on hle HT.out]⟩
              case measure => simp [iOf] <;> omega
            | true =>
              have HT : Hid (ltInt x[c]! x[c - 1]! = true) := by
                have z := hl
                rw [HG.out, HG.out] at z
                exact z
              have HCU : Hid (c = k) := (HC.out.2.symm.trans (ss_end (.inr HT.out))).symm
              go_wp2
              go_quiet (first | (go_at_call 118; refine Calls.quiet_of_same (less_any _ _ _)))
              go_wp2
              all_goals first | (rename_i z; simp [hl] at z; done) | skip
              go_meet
              case rel => exact ⟨by rw [HCU.out], HC.out.1.drewN _⟩
          · have q1 : decide ((c : Int) < (b : Int)) = false := by simp; omega
            have HCU : Hid (c = k) := (HC.out.2.symm.trans (ss_end (.inl hle))).symm
            go_wp2
            go_quiet (first | (go_at_call 118; refine Calls.quiet_of_same (less_any _ _ _)))
            go_wp2
            go_meet
            case rel => exact ⟨by rw [HCU.out], HC.out.1.drewN _⟩
      case rest =>
        clear HA HK
        obtain ⟨rfl, HA⟩ := hcut
        rename World => w4
        by_cases hkb : k = b
        · subst hkb
          have hz := HZ.out
          rw [if_pos rfl] at hz
          have HE : Hid (Z = (x, true)) := hz.symm
          clear hz HZ
          go_wp2
          go_ret
          rw [HE.out]
          exact ⟨rfl, HA.out⟩
        · have q2 : ¬ (k : Int) = (b : Int) := by omega
          by_cases h50 : b - a < 50
          · have q3 : (b : Int) - (a : Int) < 50 := by omega
            have hz := HZ.out
            rw [if_neg hkb, if_pos h50] at hz
            have HE : Hid (Z = (x, false)) := hz.symm
            clear hz HZ
            go_wp2
            go_ret
            rw [HE.out]
            exact ⟨rfl, HA.out⟩
          · have q3 : ¬ (b : Int) - (a : Int) < 50 := by omega
            have hz := HZ.out
            rw [if_neg hkb, if_neg h50] at hz
            clear HZ
            have hkl : k < b := by omega
            obtain ⟨y0, hy0⟩ : ∃ y, swp x k (k - 1) = y := ⟨_, rfl⟩
            rw [hy0] at hz
            obtain ⟨y1, hy1⟩ : ∃ y, fixDown ltInt a k y0 = y := ⟨_, rfl⟩
            rw [hy1] at hz
            obtain ⟨y2, hy2⟩ : ∃ y, fixUp ltInt b k y1 = y := ⟨_, rfl⟩
            rw [hy2] at hz
            have HE : Hid (partialIns ltInt a b (5 - (j + 1)) k y2 = Z) := hz
            have HY1 : Hid (fixDown ltInt a k y0 = y1) := hy1
            have HY2 : Hid (fixUp ltInt b k y1 = y2) := hy2
            obtain ⟨G, hG, hcw, hfw⟩ := HA.out.fam (n := n) H0.out.1 (HX.out.trans H0.out.2.symm) H0.out.2.symm
            have hx := HA.out.drew.swap H0.out.1.lt k (k - 1) (by rw [HX.out]; omega) (by rw [HX.out]; omega)
            rw [← hG, ← hG, hy0] at hx
            have HN : Hid (At w blk off y0 ((w4.drew.setCell ⟨blk, off + k, none⟩ (.int .u64 (G (k - 1)))).setCell ⟨blk, off + (k - 1), none⟩ (.int .u64 (G k)))) := hx
            have HY0 : Hid (y0.size = n) := by
              have := size_swp x k (k - 1)
              rw [hy0] at this
              exact this.trans HX.out
            clear hx hG hz hy0 hy1 hy2 HA HX
            go_upto_region 11 with fail
            go_cut [] (fun w' => Hid (At w blk off y0 w'))
            case first =>
              go_region
              all_goals go_wp2_with fail
              all_goals go_meet
              case rel => exact HN.out
            case rest =>
              clear HN hcw hfw G
              rename World => w5
              have HA : Hid (At w blk off y0 w5) := hcut.out
              clear hcut q2 q3 hkb h50 q0
              go_upto_if 61 with fail
              go_cut [] (fun w' => Hid (St w blk off n (fun y => y = y1) w'))
              case first =>
                by_cases h2 : k - a ≥ 2
                · have q4 : (2 : Int) ≤ (k : Int) - (a : Int) := by omega
                  have HD : Hid (shiftDown ltInt (k - 1) y0 = y1) := by
                    have := HY1.out
                    unfold fixDown at this
                    rw [if_pos h2] at this
                    exact this
                  go_wp2_with fail
                  go_loopw [9] (fun vi wr => ∃ c : Nat, vi = .int .i64 (c : Int) ∧ c < k ∧ Hid (St w blk off n (fun y => shiftDown ltInt c y = y1) wr)) (fun vi _ => (iOf vi).toNat)
                  case atStart => exact ⟨k - 1, by congr 1; omega, by omega, y0, HY0.out, HA.out, HD.out⟩
                  case round =>
                    obtain ⟨c, rfl, hck, HC⟩ := hrel
                    rename World => wc
                    obtain ⟨y, hs1, hs2, hs3⟩ := HC.out
                    clear HC
                    have HC : Hid (y.size = n ∧ At w blk off y wc ∧ shiftDown ltInt c y = y1) := ⟨hs1, hs2, hs3⟩
                    by_cases hc : 1 ≤ c
                    · have q5 : (1 : Int) ≤ (c : Int) := by omega
                      obtain ⟨G, hG, hcw, hfw⟩ := hs2.fam (n := n) H0.out.1 (hs1.trans H0.out.2.symm) H0.out.2.symm
                      have HG : Hid (∀ t, G t = y[t]!) := hG
                      clear hG hs1 hs2 hs3
                      cases hl : ltInt (G c) (G (c - 1)) with
                      | true =>
                        go_wp2
                        go_quiet (first | (go_at_call 118; refine Calls.quiet_of_same (less_any _ _ _)))
                        go_wp2
                        all_goals first | (rename_i z; simp [hl] at z; done) | skip
                        have hcw2 : ∀ t, t < n → (wc.drewN nq).cell? ⟨blk, off + t, none⟩ = some (.int .u64 (G t)) := hcw
                        have hfw2 : ∀ t, t < n → (wc.drewN nq).frozen? ⟨blk, off + t, none⟩ = false := hfw
                        have hx := (HC.out.2.1.drewN nq).drew.swap H0.out.1.lt c (c - 1) (by rw [HC.out.1]; omega) (by rw [HC.out.1]; omega)
                        rw [← HG.out, ← HG.out] at hx
                        have HN : Hid (At w blk off (swp y c (c - 1)) (((wc.drewN nq).drew.setCell ⟨blk, off + c, none⟩ (.int .u64 (G (c - 1)))).setCell ⟨blk, off + (c - 1), none⟩ (.int .u64 (G c)))) := hx
                        have HL : Hid (shiftDown ltInt (c - 1) (swp y c (c - 1)) = y1) := by
                          have z := hl
                          rw [HG.out, HG.out] at z
                          rw [← sd_on hc z]; exact HC.out.2.2
                        clear hx hl hcw hfw
                        generalize wc.drewN nq = w6 at hcw2 hfw2 HN ⊢
                        go_region
                        all_goals go_wp2
                        go_roundw
                        case rel => exact ⟨c - 1, by congr 1; omega, by omega, _, (size_swp _ _ _).trans HC.out.1, HN.out, HL.out⟩
                        case measure => simp [iOf] <;> omega
                      | false =>
                        have HL : Hid (y = y1) := by
                          have z := hl
                          rw [HG.out, HG.out] at z
                          have := HC.out.2.2
                          rw [sd_end (.inr z)] at this
                          exact this
                        go_wp2
                        go_quiet (first | (go_at_call 118; refine Calls.quiet_of_same (less_any _ _ _)))
                        go_wp2
                        all_goals first | (rename_i z; simp [hl] at z; done) | skip
                        go_meet
                        case rel => exact ⟨y, HC.out.1, HC.out.2.1.drewN _, HL.out⟩
                    · obtain rfl : c = 0 := by omega
                      have HL : Hid (y = y1) := by
                        have := HC.out.2.2
                        rw [sd_end (.inl rfl)] at this
                        exact this
                      clear hs1 hs2 hs3
                      go_wp2
                      go_meet
                      case rel => exact ⟨y, HC.out.1, HC.out.2.1, HL.out⟩
                · have q4 : ¬ (2 : Int) ≤ (k : Int) - (a : Int) := by omega
                  have HD : Hid (y0 = y1) := by
                    have := HY1.out
                    unfold fixDown at this
                    rw [if_neg h2] at this
                    exact this
                  go_wp2_with fail
                  go_meet
                  case rel => exact ⟨y0, HY0.out, HA.out, HD.out⟩
              case rest =>
                rename World => w7
                obtain ⟨y, hs1, hs2, hs3⟩ := hcut.out
                clear hcut HA HY1 HY0
                subst hs3
                have HA : Hid (At w blk off y w7) := hs2
                have HY0 : Hid (y.size = n) := hs1
                clear hs1 hs2
                have OUT : Hid (∀ (u : Array Int) (W : World), u.size = n → At w blk off u W → u = y2 → ∃ i' j' : Nat, Value.int .i64 (k : Int) = .int .i64 (i' : Int) ∧ Value.int .i64 ((j : Int) + 1) = .int .i64 (j' : Int) ∧ a < i' ∧ i' ≤ b ∧ j' ≤ 5 ∧ Hid (St w blk off n (fun x => partialIns ltInt a b (5 - j') i' x = Z) W)) := fun u W h1 h2 h3 =>
                  ⟨k, j + 1, rfl, by go_num, by omega, by omega, by omega, u, h1, h2, by rw [h3]; exact HE.out⟩
                by_cases h2 : b - k ≥ 2
                · have q4 : (2 : Int) ≤ (b : Int) - (k : Int) := by omega
                  have HD : Hid (shiftUp ltInt b (k + 1) y = y2) := by
                    have := HY2.out
                    unfold fixUp at this
                    rw [if_pos h2] at this
                    exact this
                  go_wp2
                  go_loopw [10] (fun vi wr => ∃ c : Nat, vi = .int .i64 (c : Int) ∧ k < c ∧ c ≤ b ∧ Hid (St w blk off n (fun z => shiftUp ltInt b c z = y2) wr)) (fun vi _ => b - (iOf vi).toNat)
                  case atStart => exact ⟨k + 1, by go_num, by omega, by omega, y, HY0.out, HA.out, HD.out⟩
                  case round =>
                    obtain ⟨c, rfl, hkc, hcb, HC⟩ := hrel
                    rename World => wc
                    obtain ⟨u, hs1, hs2, hs3⟩ := HC.out
                    clear HC
                    have HC : Hid (u.size = n ∧ At w blk off u wc ∧ shiftUp ltInt b c u = y2) := ⟨hs1, hs2, hs3⟩
                    by_cases hc : c < b
                    · have q5 : (c : Int) < (b : Int) := by omega
                      obtain ⟨G, hG, hcw, hfw⟩ := hs2.fam (n := n) H0.out.1 (hs1.trans H0.out.2.symm) H0.out.2.symm
                      have HG : Hid (∀ t, G t = u[t]!) := hG
                      clear hG hs1 hs2 hs3
                      cases hl : ltInt (G c) (G (c - 1)) with
                      | true =>
                        go_wp2
                        go_quiet (first | (go_at_call 118; refine Calls.quiet_of_same (less_any _ _ _)))
                        go_wp2
                        all_goals first | (rename_i z; simp [hl] at z; done) | skip
                        have hcw2 : ∀ t, t < n → (wc.drewN nq).cell? ⟨blk, off + t, none⟩ = some (.int .u64 (G t)) := hcw
                        have hfw2 : ∀ t, t < n → (wc.drewN nq).frozen? ⟨blk, off + t, none⟩ = false := hfw
                        have hx := (HC.out.2.1.drewN nq).drew.swap H0.out.1.lt c (c - 1) (by rw [HC.out.1]; omega) (by rw [HC.out.1]; omega)
                        rw [← HG.out, ← HG.out] at hx
                        have HN : Hid (At w blk off (swp u c (c - 1)) (((wc.drewN nq).drew.setCell ⟨blk, off + c, none⟩ (.int .u64 (G (c - 1)))).setCell ⟨blk, off + (c - 1), none⟩ (.int .u64 (G c)))) := hx
                        have HL : Hid (shiftUp ltInt b (c + 1) (swp u c (c - 1)) = y2) := by
                          have z := hl
                          rw [HG.out, HG.out] at z
                          rw [← su_on hc z]; exact HC.out.2.2
                        clear hx hl hcw hfw
                        generalize wc.drewN nq = w8 at hcw2 hfw2 HN ⊢
                        go_region
                        all_goals go_wp2
                        go_roundw
                        case rel => exact ⟨c + 1, by go_num, by omega, by omega, _, (size_swp _ _ _).trans HC.out.1, HN.out, HL.out⟩
                        case measure => simp [iOf] <;> omega
                      | false =>
                        have HL : Hid (u = y2) := by
                          have z := hl
                          rw [HG.out, HG.out] at z
                          have := HC.out.2.2
                          rw [su_end (.inr z)] at this
                          exact this
                        go_wp2
                        go_quiet (first | (go_at_call 118; refine Calls.quiet_of_same (less_any _ _ _)))
                        go_wp2
                        all_goals first | (rename_i z; simp [hl] at z; done) | skip
                        go_roundw
                        case rel => exact OUT.out u _ HC.out.1 (HC.out.2.1.drewN _) HL.out
                        case measure => simp [iOf] <;> omega
                    · have q5 : ¬ (c : Int) < (b : Int) := by omega
                      have HL : Hid (u = y2) := by
                        have := HC.out.2.2
                        rw [su_end (.inl hc)] at this
                        exact this
                      clear hs1 hs2 hs3
                      go_wp2
                      go_roundw
                      case rel => exact OUT.out u _ HC.out.1 HC.out.2.1 HL.out
                      case measure => simp [iOf] <;> omega
                · have q4 : ¬ (2 : Int) ≤ (b : Int) - (k : Int) := by omega
                  have HD : Hid (y = y2) := by
                    have := HY2.out
                    unfold fixUp at this
                    rw [if_neg h2] at this
                    exact this
                  go_wp2
                  go_roundw
                  case rel => exact OUT.out y _ HY0.out HA.out HD.out
                  case measure => simp [iOf] <;> omega
    · obtain rfl : j = 5 := by omega
      have HE : Hid (Z = (x, false)) := hx3.symm
      clear hx1 hx2 hx3
      go_wp2
      go_ret
      rw [HE.out]
      exact ⟨rfl, HA.out⟩
end Us
end Go.Proofs.YtaejjpbpnedblaaGreat
namespace Go.Proofs.YtaejjpbpnedblaaGreat
namespace Us
open Go.Shelf Go.RowKit Go.Sort
set_option linter.unusedVariables false
set_option linter.unusedSimpArgs false
set_option maxRecDepth 100000
shelf_lay Lays.n125 Nm 125 at Tryz as lenU
theorem len_is (x : Nat) (h : x < 2 ^ 64) : Lib.bitLen x = bitsLen x := by
  induction x using Nat.strongRecOn with
  | _ x ih =>
    by_cases h0 : x = 0
    · rw [h0]; rfl
    · have hh := ih (x / 2) (by omega) (by omega)
      rw [Lib.bitLen_half x h0 h, hh]
      unfold bitsLen
      by_cases h2 : 2 ≤ x
      · rw [if_neg h0, if_neg (show ¬ x / 2 = 0 by omega), Nat.log2_def x, if_pos h2]
        omega
      · have e1 : x = 1 := by omega
        rw [e1]; decide
theorem len_any (n : Nat) (hn : n < 4611686018427387904) (w : World) : Calls Tryz.prog 115 #[.int .u64 (n : Int)] w fun e w' => e = .returned (.int .i64 (bitsLen n : Nat)) ∧ w' = w := by
  have h := Any.bits_Len lenU (n : Int) w (by omega) (by omega)
  rw [Int.toNat_natCast, len_is n (by omega)] at h
  exact h
theorem pow_wrap (k : Nat) (hk : k ≤ 62) : IntKind.u64.wrap ((2 : Int) ^ k) = ((1 <<< k : Nat) : Int) := by
  have h : (2 : Nat) ^ k ≤ 2 ^ 62 := Nat.pow_le_pow_right (by decide) hk
  rw [IntKind.wrap_u64, Nat.one_shiftLeft, show ((2 : Int) ^ k) = ((2 ^ k : Nat) : Int) by push_cast; rfl]
  generalize (2 : Nat) ^ k = p at h
  omega
theorem power_any (n : Nat) (hn : n < 4611686018427387904) (w : World) :
    Calls Tryz.prog 150 #[.int .i64 n] w fun e w' => e = .returned (.int .u64 ((1 <<< bitsLen n : Nat) : Int)) ∧ w' = w := by
  have hk : bitsLen n ≤ 62 := (bitsLen_le_iff n 62).2 (by omega)
  have hp := pow_wrap (bitsLen n) hk
  have HL := fun w => len_any n hn w
  go_enter Tryz.func150, Tryz.ntmps150
  go_wp2_with (go_at_call 115; refine (HL _).mono ?_; rintro e w' ⟨rfl, hw⟩; have hw2 := hw.symm; clear hw; subst hw2)
  go_ret
  exact ⟨rfl, rfl⟩
theorem set_set (w : World) (blk off : Nat) (v v' : Value) : (w.setCell ⟨blk, off, none⟩ v).setCell ⟨blk, off, none⟩ v' = w.setCell ⟨blk, off, none⟩ v' := by
  rw [setCell_eq, setCell_eq, mapBlock_mapBlock, setCell_eq]
  congr 1
  funext c
  simp
set_option maxHeartbeats 1000000 in
theorem next_any (rb ro X : Nat) (hX : X < 18446744073709551616) (w : World) (hc : w.cell? ⟨rb, ro, none⟩ = some (.int .u64 X)) (hf : w.frozen? ⟨rb, ro, none⟩ = false) :
    Calls Tryz.prog 151 #[.pointer (some ⟨rb, ro, none⟩)] w fun e w' => e = .returned (.int .u64 (xorNextN X : Nat)) ∧ w' = (w.setCell ⟨rb, ro, none⟩ (.int .u64 (xorNextN X : Nat))).drewN 3 := by
  obtain ⟨A, hA⟩ : ∃ A : Nat, A = X ^^^ (X * 8192 % 18446744073709551616) := ⟨_, rfl⟩
  obtain ⟨B, hB⟩ : ∃ B : Nat, B = A ^^^ (A / 128) := ⟨_, rfl⟩
  obtain ⟨C, hC⟩ : ∃ C : Nat, C = B ^^^ (B * 131072 % 18446744073709551616) := ⟨_, rfl⟩
  have lA : A < 18446744073709551616 := by rw [hA]; exact Nat.xor_lt_two_pow (n := 64) (by omega) (by omega)
  have lB : B < 18446744073709551616 := by rw [hB]; exact Nat.xor_lt_two_pow (n := 64) (by omega) (by omega)
  have e1 : bits .xor .u64 (X : Int) (IntKind.u64.wrap ((X : Int) * 8192)) = (A : Int) := by
    rw [IntKind.wrap_u64, show ((X : Int) * 8192 % 18446744073709551616) = ((X * 8192 % 18446744073709551616 : Nat) : Int) by omega, bits_xor_u64_nat _ _ hX (by omega), hA]
  have e2 : bits .xor .u64 (A : Int) ((A : Int) / 128) = (B : Int) := by
    rw [show ((A : Int) / 128) = ((A / 128 : Nat) : Int) by omega, bits_xor_u64_nat _ _ lA (by omega), hB]
  have e3 : bits .xor .u64 (B : Int) (IntKind.u64.wrap ((B : Int) * 131072)) = (C : Int) := by
    rw [IntKind.wrap_u64, show ((B : Int) * 131072 % 18446744073709551616) = ((B * 131072 % 18446744073709551616 : Nat) : Int) by omega, bits_xor_u64_nat _ _ lB (by omega), hC]
  have hv : xorNextN X = C := by unfold xorNextN; simp only []; rw [← hA, ← hB, ← hC]
  rw [hv]
  clear hA hB hC hv
  have hss : ∀ v v', (w.setCell ⟨rb, ro, none⟩ v).setCell ⟨rb, ro, none⟩ v' = w.setCell ⟨rb, ro, none⟩ v' := set_set w rb ro
  go_enter Tryz.func151, Tryz.ntmps151
  go_wp2
  go_region
  all_goals go_wp2
  all_goals go_region
  all_goals go_wp2
  all_goals go_region
  all_goals go_wp2
  go_ret
  exact ⟨rfl, rfl⟩
/-- so many rounds are left; t have been made -/
def brest (a L M i0 : Nat) : Nat → Nat → UInt64 × Array Int → Array Int
  | 0, _, st => st.2
  | k + 1, t, st => brest a L M i0 k (t + 1) (breakStep a L M st (i0 + t))
theorem break_is (d : Array Int) (a L : Nat) (h8 : 8 ≤ L) : breakPatterns d a (a + L) = brest a L (1 <<< bitsLen L) (a + L / 4 * 2 - 1) 3 0 (UInt64.ofNat L, d) := by
  unfold breakPatterns
  simp only [Nat.add_sub_cancel_left]
  rw [if_pos h8]
  rfl
theorem brest_step (a L M i0 t : Nat) (r : UInt64) (d : Array Int) (o : Nat) (ht : t < 3) (ho : (if (xorNext r).toNat &&& (M - 1) ≥ L then ((xorNext r).toNat &&& (M - 1)) - L else (xorNext r).toNat &&& (M - 1)) = o) :
    brest a L M i0 (3 - t) t (r, d) = brest a L M i0 (3 - (t + 1)) (t + 1) (xorNext r, swp d (i0 + t) (a + o)) := by
  rw [show 3 - t = (3 - (t + 1)) + 1 by omega, brest]
  unfold breakStep
  simp only [ho]
/-- the generator's cell lies in a block of its own -/
structure Rg (w : World) (blk off : Nat) (d : Array Int) (rb : Nat) (r : UInt64) (W : World) : Prop where
  at_ : At w blk off d W
  cell : W.cell? ⟨rb, 0, none⟩ = some (.int .u64 (r.toNat : Int))
  froz : W.frozen? ⟨rb, 0, none⟩ = false
theorem Rg.first {w : World} {blk off : Nat} {d : Array Int} (h : Row w blk off d) (t : TypeId) (L : Nat) (hL : L < 18446744073709551616) : Rg w blk off d w.heap.size (UInt64.ofNat L) (w.alloc (Obj.cells #[.int .u64 (L : Int)] t)) := by
  have e : (w.alloc (Obj.cells #[.int .u64 (L : Int)] t)).heap[w.heap.size]? = some (Obj.cells #[.int .u64 (L : Int)] t) := by
    show (w.heap.push (Obj.cells #[.int .u64 (L : Int)] t))[w.heap.size]? = _
    exact Array.getElem?_push_size
  refine ⟨(At.start h).alloc _, ?_, ?_⟩
  · unfold World.cell?; rw [e, show (UInt64.ofNat L).toNat = L from by simp; omega]; rfl
  · unfold World.frozen?; rw [e]; rfl
theorem Rg.step {w W : World} {blk off : Nat} {d : Array Int} {r r' : UInt64} {rb : Nat} (h : Rg w blk off d rb r W) (h0 : blk < w.heap.size) (hrb : w.heap.size ≤ rb) (q i j : Nat) (hi : i < d.size) (hj : j < d.size) :
    Rg w blk off (swp d i j) rb r' ((((W.setCell ⟨rb, 0, none⟩ (.int .u64 (r'.toNat : Int))).drewN q).setCell ⟨blk, off + i, none⟩ (.int .u64 d[j]!)).setCell ⟨blk, off + j, none⟩ (.int .u64 d[i]!)) := by
  refine ⟨((h.at_.new rb 0 _ hrb).drewN q).swap h0 i j hi hj, ?_, ?_⟩
  · have hne : ∀ k (v : Value) (X : World), (X.setCell ⟨blk, off + k, none⟩ v).cell? ⟨rb, 0, none⟩ = X.cell? ⟨rb, 0, none⟩ := fun k v X =>
      World.cell?_setCell_other _ _ _ _ (fun e => by have := congrArg Addr.block e; simp only at this; omega)
    rw [hne, hne]
    show (W.setCell ⟨rb, 0, none⟩ (.int .u64 (r'.toNat : Int))).cell? ⟨rb, 0, none⟩ = _
    obtain ⟨c, e, fr, hb, hc⟩ := cells_of_cell? h.cell
    rw [setCell_eq, cell?_mapBlock _ _ _ _ hb]
    have : 0 < c.size := (Array.getElem?_eq_some_iff.1 hc).1
    simp [Array.getElem?_setIfInBounds, this]
  · rw [setCell_eq, frozen?_mapBlock, setCell_eq, frozen?_mapBlock]
    show (W.setCell ⟨rb, 0, none⟩ (.int .u64 (r'.toNat : Int))).frozen? ⟨rb, 0, none⟩ = false
    rw [setCell_eq, frozen?_mapBlock]; exact h.froz
set_option maxHeartbeats 4000000 in
theorem break_go (blk off n cap a L : Nat) (d : Array Int) (w : World) (h : Row w blk off d) (hn : d.size = n) (hb : a + L ≤ n) (h8 : 8 ≤ L) :
    Calls Tryz.prog 128 #[.slice (some ⟨blk, off, none⟩) n cap, .int .i64 a, .int .i64 ((a + L : Nat) : Int)] w fun e w' => e = .returned (.tuple #[]) ∧ At w blk off (breakPatterns d a (a + L)) w' := by
  have hsm := h.small
  rw [hn] at hsm
  rw [break_is d a L h8]
  obtain ⟨M, hM⟩ : ∃ M : Nat, M = 1 <<< bitsLen L := ⟨_, rfl⟩
  have hM1 : 1 ≤ M := by rw [hM, Nat.one_shiftLeft]; exact Nat.two_pow_pos _
  have hM2 : M ≤ 2 * L := by rw [hM, Nat.one_shiftLeft]; exact two_pow_bitsLen_le (by omega)
  have hNP : ∀ w, Calls Tryz.prog 150 #[.int .i64 (L : Int)] w fun e w' => e = .returned (.int .u64 (M : Int)) ∧ w' = w := by rw [hM]; exact fun w => power_any L (by omega) w
  rw [← hM]
  clear hM
  obtain ⟨Z, hZ⟩ : ∃ Z, brest a L M (a + L / 4 * 2 - 1) 3 0 (UInt64.ofNat L, d) = Z := ⟨_, rfl⟩
  rw [hZ]
  obtain ⟨i0, hi0⟩ : ∃ i : Nat, i = a + L / 4 * 2 - 1 := ⟨_, rfl⟩
  rw [← hi0] at hZ
  have H0 : Hid (Row w blk off d ∧ d.size = n) := ⟨h, hn⟩
  have HR : Hid (Rg w blk off d w.heap.size (UInt64.ofNat L) (w.alloc (Obj.cells #[.int .u64 (L : Int)] 215))) := Rg.first h _ L (by omega)
  have HZ : Hid (brest a L M i0 3 0 (UInt64.ofNat L, d) = Z) := hZ
  clear h hn hZ
  have hi1 : a + 3 ≤ i0 ∧ i0 + 4 ≤ a + L := by omega
  have hi2 : (a : Int) + (L : Int) / 4 * 2 - 1 = (i0 : Int) := by omega
  have hi3 : (a : Int) + (L : Int) / 4 * 2 + 1 = (i0 : Int) + 2 := by omega
  have HI : Hid ((a : Int) + (L : Int) / 4 * 2 - 1 = (i0 : Int) ∧ (a : Int) + (L : Int) / 4 * 2 + 1 = (i0 : Int) + 2) := ⟨hi2, hi3⟩
  have hL4 : 0 ≤ (L : Int) / 4 ∧ (L : Int) / 4 ≤ (L : Int) := by omega
  obtain ⟨hi1, hi1'⟩ := hi1
  clear hi0 hi2 hi3
  go_enter Tryz.func128, Tryz.ntmps128
  go_upto_region 3 with fail
  rw [show ((a : Int) + (L : Int) - (a : Int)) = (L : Int) by omega]
  generalize hW0 : w.alloc (Obj.cells #[.int .u64 (L : Int)] 215) = W0 at HR ⊢
  generalize hrb : w.heap.size = rb at HR ⊢
  have HRB : Hid (w.heap.size ≤ rb) := Nat.le_of_eq hrb
  clear hW0 hrb
  go_upto_block 0 with (go_at_call 150; go_loud ((try rw [show ((a : Int) + (L : Int) - (a : Int)) = (L : Int) by omega]); refine (hNP _).mono ?_; rintro e w' ⟨rfl, hw⟩; have hw2 := hw.symm; clear hw; subst hw2))
  (try rw [show ((a : Int) + (L : Int) - (a : Int)) = (L : Int) by omega])
  rw [HI.out.1]
  go_wp2_with fail
  go_loopw [9] (fun vi wr => ∃ (t : Nat) (r : UInt64) (x : Array Int), vi = .int .i64 ((i0 + t : Nat) : Int) ∧ t ≤ 3 ∧ Hid (x.size = n ∧ Rg w blk off x rb r wr ∧ brest a L M i0 (3 - t) t (r, x) = Z)) (fun vi _ => i0 + 3 - (iOf vi).toNat)
  case atStart => exact ⟨0, UInt64.ofNat L, d, rfl, by omega, H0.out.2, HR.out, HZ.out⟩
  case round =>
    clear HR HZ
    obtain ⟨t, r, x, rfl, ht, HX⟩ := hrel
    rename World => wq
    have hi3 := HI.out.2
    by_cases ht3 : t < 3
    · have q1 : (((i0 + t : Nat) : Int)) ≤ (i0 : Int) + 2 := by omega
      obtain ⟨R, hR⟩ : ∃ R : Nat, R = r.toNat := ⟨_, rfl⟩
      have lR : R < 18446744073709551616 := by rw [hR]; exact r.toNat_lt
      obtain ⟨R', hR'⟩ : ∃ R' : Nat, R' = xorNextN R := ⟨_, rfl⟩
      have lR' : R' < 18446744073709551616 := by rw [hR']; exact xorNextN_lt R lR
      obtain ⟨O, hO⟩ : ∃ O : Nat, O = R' &&& (M - 1) := ⟨_, rfl⟩
      have lO : O ≤ M - 1 := by rw [hO]; exact Nat.and_le_right
      have eAnd : bits .and .u64 (R' : Int) ((M : Int) - 1) = (O : Int) := by
        rw [show ((M : Int) - 1) = ((M - 1 : Nat) : Int) by omega, bits_and_u64_nat _ _ lR' (by omega), hO]
      have hcB : wq.cell? ⟨rb, 0, none⟩ = some (.int .u64 (R : Int)) := by rw [hR]; exact HX.out.2.1.cell
      have hNext : Calls Tryz.prog 151 #[.pointer (some ⟨rb, 0, none⟩)] wq fun e w' => e = .returned (.int .u64 (R' : Int)) ∧ w' = (wq.setCell ⟨rb, 0, none⟩ (.int .u64 (R' : Int))).drewN 3 := by
        rw [hR']; exact next_any _ _ R lR wq hcB HX.out.2.1.froz
      have eR : R' = (xorNext r).toNat := by rw [hR', hR, xorNext_toNat]
      have HN : Hid (R' = (xorNext r).toNat ∧ O = (xorNext r).toNat &&& (M - 1)) := ⟨eR, by rw [hO, eR]⟩
      have HNX : Hid (Calls Tryz.prog 151 #[.pointer (some ⟨rb, 0, none⟩)] wq fun e w' => e = .returned (.int .u64 (R' : Int)) ∧ w' = (wq.setCell ⟨rb, 0, none⟩ (.int .u64 (R' : Int))).drewN 3) := hNext
      clear hR hR' hO hNext eR hcB
      obtain ⟨m, hm⟩ : ∃ m : Nat, m = i0 + t := ⟨_, rfl⟩
      rw [← hm] at q1 ⊢
      have hmb : a + 3 ≤ m ∧ m + 2 ≤ a + L := by omega
      have HM : Hid (m = i0 + t) := hm
      clear hm
      obtain ⟨G, hG, hcw, hfw⟩ := HX.out.2.1.at_.fam (n := n) H0.out.1 (HX.out.1.trans H0.out.2.symm) H0.out.2.symm
      have HG : Hid (∀ u, G u = x[u]!) := hG
      clear hG
      have hbr : ¬ blk = rb := by have := HRB.out; have := H0.out.1.lt; omega
      have hcw2 : ∀ u, u < n → ((wq.setCell ⟨rb, 0, none⟩ (.int .u64 (R' : Int))).drewN 3).cell? ⟨blk, off + u, none⟩ = some (.int .u64 (G u)) := fun u hu => by
        rw [← hcw u hu]
        exact World.cell?_setCell_other _ _ _ _ (fun e => hbr (by have := congrArg Addr.block e; simpa using this.symm))
      have hfw2 : ∀ u, u < n → ((wq.setCell ⟨rb, 0, none⟩ (.int .u64 (R' : Int))).drewN 3).frozen? ⟨blk, off + u, none⟩ = false := fun u hu => by
        rw [← hfw u hu]
        show (wq.setCell ⟨rb, 0, none⟩ (.int .u64 (R' : Int))).frozen? _ = _
        rw [setCell_eq, frozen?_mapBlock]
      have HCF : Hid ((∀ u, u < n → ((wq.setCell ⟨rb, 0, none⟩ (.int .u64 (R' : Int))).drewN 3).cell? ⟨blk, off + u, none⟩ = some (.int .u64 (G u))) ∧ ∀ u, u < n → ((wq.setCell ⟨rb, 0, none⟩ (.int .u64 (R' : Int))).drewN 3).frozen? ⟨blk, off + u, none⟩ = false) := ⟨hcw2, hfw2⟩
      clear hcw hfw hcw2 hfw2
      have FIN : Hid (∀ (o : Nat) (W : World), (if O ≥ L then O - L else O) = o → a + o < n → ((((wq.setCell ⟨rb, 0, none⟩ (.int .u64 (R' : Int))).drewN 3).drew.setCell ⟨blk, off + m, none⟩ (.int .u64 (G (a + o)))).setCell ⟨blk, off + (a + o), none⟩ (.int .u64 (G m))) = W → ∃ (t' : Nat) (r' : UInt64) (x' : Array Int), Value.int .i64 ((m : Int) + 1) = .int .i64 ((i0 + t' : Nat) : Int) ∧ t' ≤ 3 ∧ Hid (x'.size = n ∧ Rg w blk off x' rb r' W ∧ brest a L M i0 (3 - t') t' (r', x') = Z)) := by
        rintro o W ho hao rfl
        refine ⟨t + 1, xorNext r, swp x m (a + o), by congr 1; have := HM.out; omega, by omega, (size_swp _ _ _).trans HX.out.1, ?_, ?_⟩
        · have e := HX.out.2.1.step (r' := xorNext r) H0.out.1.lt HRB.out 4 m (a + o) (by rw [HX.out.1]; omega) (by rw [HX.out.1]; omega)
          rw [← HG.out, ← HG.out, ← HN.out.1] at e
          exact e
        · rw [← HX.out.2.2, brest_step a L M i0 t r x o ht3 (by rw [← HN.out.2]; exact ho), ← HM.out]
      go_upto_region 8 with (go_at_call 151; go_loud (refine HNX.out.mono ?_; rintro e w' ⟨rfl, hw'⟩; have HW' : Hid (w' = (wq.setCell ⟨rb, 0, none⟩ (.int .u64 (R' : Int))).drewN 3) := hw'; clear hw'))
      have hw' := HW'.out
      have hcw := HCF.out.1
      have hfw := HCF.out.2
      rw [← hw'] at hcw hfw
      have FIN2 : Hid (∀ (o : Nat) (W : World), (if O ≥ L then O - L else O) = o → a + o < n → ((w'.drew.setCell ⟨blk, off + m, none⟩ (.int .u64 (G (a + o)))).setCell ⟨blk, off + (a + o), none⟩ (.int .u64 (G m))) = W → ∃ (t' : Nat) (r' : UInt64) (x' : Array Int), Value.int .i64 ((m : Int) + 1) = .int .i64 ((i0 + t' : Nat) : Int) ∧ t' ≤ 3 ∧ Hid (x'.size = n ∧ Rg w blk off x' rb r' W ∧ brest a L M i0 (3 - t') t' (r', x') = Z)) := by rw [hw']; exact FIN.out
      have MS : Hid (i0 + 3 - (m + 1) < i0 + 3 - m) := by have := HM.out; show _ < _; omega
      clear hw' HW' FIN HCF HNX HX HN HG q1
      by_cases hLO : L ≤ O
      · have q2 : (L : Int) ≤ (O : Int) := by omega
        obtain ⟨o, ho⟩ : ∃ o : Nat, o = O - L := ⟨_, rfl⟩
        have hon : a + o < n := by omega
        have q3 : (O : Int) - (L : Int) = (o : Int) := by omega
        have HO : Hid ((if O ≥ L then O - L else O) = o) := by rw [if_pos hLO]; exact ho.symm
        clear ho
        go_upto_region 10 with fail
        (try rw [q3])
        clear q3 q2 lO hLO eAnd
        by_cases hEq : m = a + o
        · subst hEq
          go_region
          all_goals go_wp2
          go_roundw
          case rel => exact FIN2.out o _ HO.out hon rfl
          case measure => simp [iOf]; first | exact MS.out | (have := MS.out; omega)
        · have hne : ¬ off + (a + o) = off + m := by omega
          go_region
          all_goals go_wp2
          go_roundw
          case rel => exact FIN2.out o _ HO.out hon rfl
          case measure => simp [iOf]; first | exact MS.out | (have := MS.out; omega)
      · have q2 : ¬ (L : Int) ≤ (O : Int) := by omega
        have hon : a + O < n := by omega
        have HO : Hid ((if O ≥ L then O - L else O) = O) := by rw [if_neg hLO]; rfl
        go_upto_region 10 with fail
        clear q2 lO hLO eAnd
        by_cases hEq : m = a + O
        · subst hEq
          go_region
          all_goals go_wp2
          go_roundw
          case rel => exact FIN2.out O _ HO.out hon rfl
          case measure => simp [iOf]; first | exact MS.out | (have := MS.out; omega)
        · have hne : ¬ off + (a + O) = off + m := by omega
          go_region
          all_goals go_wp2
          go_roundw
          case rel => exact FIN2.out O _ HO.out hon rfl
          case measure => simp [iOf]; first | exact MS.out | (have := MS.out; omega)
    · obtain rfl : t = 3 := by omega
      have q1 : ¬ (((i0 + 3 : Nat) : Int)) ≤ (i0 : Int) + 2 := by omega
      go_wp2
      go_end0
      have e := HX.out.2.2
      rw [show 3 - 3 = 0 from rfl] at e
      exact ⟨rfl, (show x = Z from e) ▸ HX.out.2.1.at_⟩
theorem break_any (blk off n cap a b : Nat) (d : Array Int) (w : World) (h : Row w blk off d) (hn : d.size = n) (hab : a + 8 ≤ b) (hb : b ≤ n) :
    Calls Tryz.prog 128 #[.slice (some ⟨blk, off, none⟩) n cap, .int .i64 a, .int .i64 b] w fun e w' => e = .returned (.tuple #[]) ∧ At w blk off (breakPatterns d a b) w' := by
  obtain ⟨L, rfl⟩ : ∃ L, b = a + L := ⟨b - a, by omega⟩
  exact break_go blk off n cap a L d w h hn hb (by omega)
end Us
end Go.Proofs.YtaejjpbpnedblaaGreat
namespace Go.Proofs.YtaejjpbpnedblaaGreat
namespace Us
open Go.RowKit Go.Sort
set_option linter.unusedVariables false
set_option linter.unusedSimpArgs false
set_option maxRecDepth 20000
/-- what a round of pdqsort does to the row x, the values under names of their own; Z is what comes out at last -/
structure Plan (x : Array Int) (a b lim : Nat) (wb wp : Bool) (Z : Array Int) (d1 : Array Int) (lm c : Nat) (h : Hint) (d2 : Array Int) (pv : Nat) (ht : Hint) (p : Array Int) (f : Bool) : Prop where
  no1 : wb = false → breakPatterns x a b = d1 ∧ lm = lim - 1
  yes1 : wb = true → x = d1 ∧ lm = lim
  s1 : d1.size = x.size
  lm_le : lm ≤ lim
  cp : choosePivot ltInt d1 a b = (c, h)
  c1 : a ≤ c
  c2 : c < b
  dec : h = .decreasing → reverseRange d1 a b = d2 ∧ pv = (b - 1) - (c - a) ∧ ht = .increasing
  ndec : h ≠ .decreasing → d1 = d2 ∧ pv = c ∧ ht = h
  s2 : d2.size = x.size
  p1 : a ≤ pv
  p2 : pv < b
  par : (wb && wp && decide (ht = .increasing)) = true → partialInsertionSort ltInt d2 a b = (p, f)
  npar : (wb && wp && decide (ht = .increasing)) = false → d2 = p ∧ f = false
  s3 : p.size = x.size
  done : f = true → p = Z
  eq : f = false → (decide (a > 0) && !ltInt p[a - 1]! p[pv]!) = true → ∃ m d4, partitionEqual ltInt p a b pv = (m, d4) ∧ a < m ∧ m ≤ b ∧ d4.size = x.size ∧ Below ltInt m b d4 ∧ pdq ltInt d4 m b lm wb wp = Z
  part : f = false → (decide (a > 0) && !ltInt p[a - 1]! p[pv]!) = false → ∃ m ap d4, partition ltInt p a b pv = (m, ap, d4) ∧ a ≤ m ∧ m < b ∧ d4.size = x.size ∧ Below ltInt a m d4 ∧ Below ltInt (m + 1) b d4 ∧
    (m - a < b - m → ∃ d5, pdq ltInt d4 a m lm true true = d5 ∧ d5.size = x.size ∧ Below ltInt (m + 1) b d5 ∧ pdq ltInt d5 (m + 1) b lm (decide (m - a ≥ (b - a) / 8)) ap = Z) ∧
    (¬ m - a < b - m → ∃ d5, pdq ltInt d4 (m + 1) b lm true true = d5 ∧ d5.size = x.size ∧ Below ltInt a m d5 ∧ pdq ltInt d5 a m lm (decide (b - m ≥ (b - a) / 8)) ap = Z)
theorem plan (x : Array Int) (a b lim : Nat) (wb wp : Bool) (h12 : ¬ b - a ≤ 12) (hl0 : ¬ lim = 0) (hb : b ≤ x.size) (hB : Below ltInt a b x) :
    ∃ d1 lm c h d2 pv ht p f, Plan x a b lim wb wp (pdq ltInt x a b lim wb wp) d1 lm c h d2 pv ht p f := by
  obtain ⟨s1, B1, hc1, s2, B2, hpv, s3, B3⟩ := rd_facts (limit := lim) (wb := wb) (wp := wp) swo_ltInt partialInsertionSort_holds reverseRange_holds (show a < b by omega) hb hB
  have key1 := pdq_done (lt := ltInt) (d := x) (wb := wb) (wp := wp) h12 hl0
  have key2 := pdq_eq (lt := ltInt) (d := x) (wb := wb) (wp := wp) h12 hl0
  have key3 := pdq_left (lt := ltInt) (d := x) (wb := wb) (wp := wp) h12 hl0
  have key4 := pdq_right (lt := ltInt) (d := x) (wb := wb) (wp := wp) h12 hl0
  have kd := rd_dec (lt := ltInt) (d := x) (a := a) (b := b) (limit := lim) (wb := wb) (wp := wp)
  have kn := rd_not (lt := ltInt) (d := x) (a := a) (b := b) (limit := lim) (wb := wb) (wp := wp)
  have ky := rd_pi_yes (lt := ltInt) (d := x) (a := a) (b := b) (limit := lim) (wb := wb) (wp := wp)
  have kz := rd_pi_no (lt := ltInt) (d := x) (a := a) (b := b) (limit := lim) (wb := wb) (wp := wp)
  have kc := rd_c (lt := ltInt) (d := x) (a := a) (b := b) (limit := lim) (wb := wb) (wp := wp)
  have kl := rd_lim_le (lt := ltInt) (d := x) (a := a) (b := b) (limit := lim) (wb := wb) (wp := wp)
  have k0 : wb = false → breakPatterns x a b = (rd ltInt x a b lim wb wp).d1 ∧ (rd ltInt x a b lim wb wp).lim = lim - 1 := by rintro rfl; exact ⟨rfl, rfl⟩
  have k1 : wb = true → x = (rd ltInt x a b lim wb wp).d1 ∧ (rd ltInt x a b lim wb wp).lim = lim := by rintro rfl; exact ⟨rfl, rfl⟩
  generalize rd ltInt x a b lim wb wp = R at *
  obtain ⟨d1, lm, ⟨c, h⟩, d2, pv, ht, ⟨p, f⟩⟩ := R
  simp only at *
  refine ⟨d1, lm, c, h, d2, pv, ht, p, f, ⟨k0, k1, s1, kl, kc.symm, hc1.1, hc1.2, fun e => ?_, fun e => ?_, s2, hpv.1, hpv.2, fun e => (ky e).symm, fun e => ?_, s3, fun e => (key1 e).symm, fun e1 e2 => ?_, fun e1 e2 => ?_⟩⟩
  · obtain ⟨z1, z2, z3⟩ := kd e; exact ⟨z1.symm, z2, z3⟩
  · obtain ⟨z1, z2, z3⟩ := kn e; exact ⟨z1.symm, z2, z3⟩
  · have := kz e
    injection this with z1 z2
    exact ⟨z1.symm, z2⟩
  · have e3 := e2
    simp only [Bool.and_eq_true, decide_eq_true_eq, Bool.not_eq_true'] at e3
    obtain ⟨m, d4, hx⟩ : ∃ m d4, partitionEqual ltInt p a b pv = (m, d4) := ⟨(partitionEqual ltInt p a b pv).1, (partitionEqual ltInt p a b pv).2, rfl⟩
    obtain ⟨r1, r2, r3, r4, _⟩ := round_eq swo_ltInt (partitionEqual_holds ltInt) e3.1 hpv.1 hpv.2 (by omega) B3 e3.2 hx
    have := key2 e1 e2 (by rw [hx]; exact ⟨r1, r2⟩)
    rw [hx] at this
    exact ⟨m, d4, hx, r1, r2, r3.trans s3, r4, this.symm⟩
  · obtain ⟨m, ap, d4, hx⟩ : ∃ m ap d4, partition ltInt p a b pv = (m, ap, d4) := ⟨(partition ltInt p a b pv).1, (partition ltInt p a b pv).2.1, (partition ltInt p a b pv).2.2, rfl⟩
    obtain ⟨r1, r2, r3, r4, r5, r6, r7⟩ := round_part swo_ltInt (partition_holds ltInt) hpv.1 hpv.2 (by omega) B3 hx
    refine ⟨m, ap, d4, hx, r1, r2, r3.trans s3, r4, r5, fun h4 => ?_, fun h4 => ?_⟩
    · obtain ⟨pL, sL⟩ := pdq_sorts ltInt swo_ltInt d4 a m lm true true (by omega) (by omega) r4
      have := key3 e1 e2 (by rw [hx]; exact ⟨r1, r2⟩) (by rw [hx]; exact h4)
      rw [hx] at this
      exact ⟨_, rfl, pL.1.trans (r3.trans s3), (r6 _ pL sL).1, this.symm⟩
    · obtain ⟨pL, sL⟩ := pdq_sorts ltInt swo_ltInt d4 (m + 1) b lm true true (by omega) (by omega) r5
      have := key4 e1 e2 (by rw [hx]; exact ⟨r1, r2⟩) (by rw [hx]; exact h4)
      rw [hx] at this
      exact ⟨_, rfl, pL.1.trans (r3.trans s3), (r7 _ pL sL).1, this.symm⟩
end Us
end Go.Proofs.YtaejjpbpnedblaaGreat
