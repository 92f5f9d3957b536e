import Derived.Test.YtaejjpbpnedblaaGreatUs6
import Derived.Deep.CutBlock
namespace Go.Proofs.YtaejjpbpnedblaaGreat
namespace Us
open Go.RowKit Go.Sort
set_option linter.unusedVariables false
set_option linter.unusedSimpArgs false
set_option maxRecDepth 20000
theorem up_on {p : Int → Bool} {d : Array Int} {i j : Nat} (h : i ≤ j) (hp : p d[i]! = true) : scanUp p d j i = scanUp p d j (i + 1) := by
  conv => lhs; rw [scanUp]
  rw [if_pos (by simp [h, hp])]
theorem up_end {p : Int → Bool} {d : Array Int} {i j : Nat} (h : ¬ i ≤ j ∨ p d[i]! = false) : scanUp p d j i = i := by
  rw [scanUp, if_neg]
  rcases h with h | h
  · simp [h]
  · simp [h]
theorem down_on {p : Int → Bool} {d : Array Int} {i j : Nat} (h1 : 1 ≤ i) (h : i ≤ j) (hp : p d[j]! = true) : scanDown p d i j = scanDown p d i (j - 1) := by
  cases j with
  | zero => omega
  | succ k =>
    conv => lhs; rw [scanDown]
    rw [if_pos (by simp [h, hp])]
    rfl
theorem down_end {p : Int → Bool} {d : Array Int} {i j : Nat} (h : ¬ i ≤ j ∨ p d[j]! = false) : scanDown p d i j = j := by
  cases j with
  | zero => rw [scanDown]
  | succ k =>
    rw [scanDown, if_neg]
    rcases h with h | h
    · simp [h]
    · simp [h]
theorem down_ge {p : Int → Bool} {d : Array Int} {i : Nat} : ∀ {j : Nat}, i ≤ j + 1 → i ≤ scanDown p d i j + 1
  | 0, h => by rw [scanDown]; exact h
  | j + 1, h => by
    rw [scanDown]
    split
    · rename_i k
      simp at k
      exact down_ge (by omega)
    · exact h
theorem up_le {p : Int → Bool} {d : Array Int} {j : Nat} : ∀ (m : Nat) {i : Nat}, j + 1 - i ≤ m → i ≤ j + 1 → scanUp p d j i ≤ j + 1
  | 0, i, hm, h => by rw [up_end (.inl (by omega))]; exact h
  | m + 1, i, hm, h => by
    by_cases k : i ≤ j ∧ p d[i]! = true
    · rw [up_on k.1 k.2]; exact up_le m (by omega) (by omega)
    · rw [up_end (by rcases Nat.lt_or_ge j i with z | z; exact .inl (by omega); exact .inr (by cases y : p d[i]!; rfl; exact absurd ⟨z, y⟩ k))]; exact h
theorem up_stop {p : Int → Bool} {d : Array Int} {j : Nat} : ∀ (m : Nat) {i : Nat}, j + 1 - i ≤ m → scanUp p d j i ≤ j → p d[scanUp p d j i]! = false
  | 0, i, hm, h => by
    rw [up_end (.inl (by omega))] at h
    omega
  | m + 1, i, hm, h => by
    by_cases k : i ≤ j ∧ p d[i]! = true
    · rw [up_on k.1 k.2] at h ⊢
      exact up_stop m (by omega) h
    · have z : ¬ i ≤ j ∨ p d[i]! = false := by
        rcases Nat.lt_or_ge j i with z | z
        · exact .inl (by omega)
        · refine .inr ?_
          cases y : p d[i]! with
          | false => rfl
          | true => exact absurd ⟨z, y⟩ k
      rw [up_end z] at h ⊢
      rcases z with z | z
      · exact absurd h z
      · exact z
theorem down_stop {p : Int → Bool} {d : Array Int} {i : Nat} (h1 : 1 ≤ i) : ∀ {j : Nat}, i ≤ scanDown p d i j → p d[scanDown p d i j]! = false
  | 0, h => by rw [scanDown] at h; omega
  | j + 1, h => by
    by_cases k : i ≤ j + 1 ∧ p d[j + 1]! = true
    · have e : scanDown p d i (j + 1) = scanDown p d i j := down_on h1 k.1 k.2
      rw [e] at h ⊢
      exact down_stop h1 h
    · have z : ¬ i ≤ j + 1 ∨ p d[j + 1]! = false := by
        rcases Nat.lt_or_ge (j + 1) i with z | z
        · exact .inl (by omega)
        · refine .inr ?_
          cases y : p d[j + 1]! with
          | false => rfl
          | true => exact absurd ⟨z, y⟩ k
      rw [down_end z] at h ⊢
      rcases z with z | z
      · exact absurd h z
      · exact z
set_option maxHeartbeats 2000000 in
theorem partEq_any (blk off n cap a b v : Nat) (d : Array Int) (w : World) (h : Row w blk off d) (hn : d.size = n) (hab : a ≤ v) (hvb : v < b) (hb : b ≤ n) :
    Calls Tryz.prog 132 #[.slice (some ⟨blk, off, none⟩) n cap, .int .i64 a, .int .i64 b, .int .i64 v] w fun e w' => e = .returned (.int .i64 ((partitionEqual ltInt d a b v).1 : Nat)) ∧ At w blk off (partitionEqual ltInt d a b v).2 w' := by
  have hsm := h.small
  rw [hn] at hsm
  have H0 : Hid (Row w blk off d ∧ d.size = n) := ⟨h, hn⟩
  obtain ⟨Z, hZ⟩ : ∃ Z, partitionEqual ltInt d a b v = Z := ⟨_, rfl⟩
  rw [hZ]
  obtain ⟨G, hG, hcw, hfw⟩ := (At.start h).fam (n := n) h rfl hn.symm
  have hx := (At.start h).drew.swap h.lt a v (by omega) (by omega)
  rw [← hG, ← hG] at hx
  have HS : Hid (∀ W, (w.drew.setCell ⟨blk, off + a, none⟩ (.int .u64 (G v))).setCell ⟨blk, off + v, none⟩ (.int .u64 (G a)) = W → St w blk off n (fun x => partEqLoop ltInt a (a + 1) (b - 1) x = Z) W) := by
    rintro W rfl
    exact ⟨_, (size_swp _ _ _).trans hn, hx, hZ⟩
  clear h hn hZ hx hG
  have hu1 : a + 1 ≤ b - 1 + 1 := by omega
  go_enter Tryz.func132, Tryz.ntmps132
  go_upto_region 1 with fail
  go_cut [] (fun w' => Hid (St w blk off n (fun x => partEqLoop ltInt a (a + 1) (b - 1) x = Z) w'))
  case first =>
    by_cases hav : a = v
    · subst hav
      go_region
      all_goals go_wp2_with fail
      all_goals go_meet
      case rel => exact HS.out _ rfl
    · have hne : ¬ off + v = off + a := by omega
      go_region
      all_goals go_wp2_with fail
      all_goals go_meet
      case rel => exact HS.out _ rfl
  case rest =>
    clear HS hcw hfw
    rename World => w1
    have HS1 : Hid (St w blk off n (fun x => partEqLoop ltInt a (a + 1) (b - 1) x = Z) w1) := hcut.out
    clear hcut
    go_wp2
    go_loopw [9, 10] (fun vi vj wr => ∃ i j : Nat, vi = .int .i64 (i : Int) ∧ vj = .int .i64 (j : Int) ∧ a < i ∧ i ≤ j + 1 ∧ j < b ∧ Hid (St w blk off n (fun x => partEqLoop ltInt a i j x = Z) wr)) (fun vi vj _ => (iOf vj + 1 - iOf vi).toNat)
    case atStart => exact ⟨a + 1, b - 1, by go_num, by congr 1; omega, by omega, by omega, by omega, HS1.out⟩
    case round =>
      clear HS1
      obtain ⟨i, j, rfl, rfl, hai, hij, hjb, HX0⟩ := hrel
      rename World => wq
      obtain ⟨x, hx1, hx2, hx3⟩ := HX0.out
      clear HX0
      have HX : Hid (x.size = n) := hx1
      have HA : Hid (At w blk off x wq) := hx2
      obtain ⟨P, hP⟩ : ∃ P : Int → Bool, P = fun y => !ltInt x[a]! y := ⟨_, rfl⟩
      obtain ⟨P2, hP2⟩ : ∃ P : Int → Bool, P = fun y => ltInt x[a]! y := ⟨_, rfl⟩
      obtain ⟨u, hu⟩ : ∃ u, scanUp P x j i = u := ⟨_, rfl⟩
      obtain ⟨y, hy⟩ : ∃ y, scanDown P2 x u j = y := ⟨_, rfl⟩
      have hui : i ≤ u := by rw [← hu]; exact scanUp_ge _ _ _ _
      have huj : u ≤ j + 1 := by rw [← hu]; exact up_le _ (Nat.le_refl _) hij
      have hyj : y ≤ j := by rw [← hy]; exact scanDown_le _ _ _ _
      have huy : u ≤ y + 1 := by rw [← hy]; exact down_ge huj
      have hZ : (if u > y then (u, x) else partEqLoop ltInt a (u + 1) (y - 1) (swp x u y)) = Z := by
        have e := partEqLoop_eq ltInt a i j x
        rw [← hP, ← hP2, hu, hy] at e
        rw [← e]; exact hx3
      have HNE : Hid (¬ u = y) := by
        intro e
        have k1 := up_stop (p := P) (d := x) (j := j) _ (Nat.le_refl (j + 1 - i)) (by rw [hu]; omega)
        have k2 := down_stop (p := P2) (d := x) (i := u) (j := j) (by omega) (by rw [hy]; omega)
        rw [hu, hP] at k1
        rw [hy, hP2, ← e] at k2
        simp only [k2] at k1
        cases k1
      have HU : Hid (scanUp P x j i = u) := hu
      have HY : Hid (scanDown P2 x u j = y) := hy
      have HZ : Hid ((if u > y then (u, x) else partEqLoop ltInt a (u + 1) (y - 1) (swp x u y)) = Z) := hZ
      have HP : Hid ((P = fun y => !ltInt x[a]! y) ∧ P2 = fun y => ltInt x[a]! y) := ⟨hP, hP2⟩
      clear hx1 hx2 hx3 hu hy hZ hP hP2
      go_upto_block 2 with fail
      go_cut [9] (fun vi w' => vi = .int .i64 (u : Int) ∧ Hid (At w blk off x w'))
      case first =>
        go_wp2_with fail
        go_loopw [9] (fun vi wr => ∃ c : Nat, vi = .int .i64 (c : Int) ∧ i ≤ c ∧ c ≤ j + 1 ∧ Hid (At w blk off x wr ∧ scanUp P x j c = u)) (fun vi _ => j + 1 - (iOf vi).toNat)
        case atStart => exact ⟨i, rfl, Nat.le_refl _, by omega, HA.out, HU.out⟩
        case round =>
          obtain ⟨c, rfl, hc1, hc2, HC⟩ := hrel
          rename World => wc
          obtain ⟨G, hG, hcw, hfw⟩ := HC.out.1.fam (n := n) H0.out.1 (HX.out.trans H0.out.2.symm) H0.out.2.symm
          have HG : Hid (∀ t, G t = x[t]!) := hG
          clear hG
          by_cases hle : c ≤ j
          · have q1 : (c : Int) ≤ (j : Int) := by omega
            cases hl : ltInt (G a) (G c) with
            | false =>
              have HT : Hid (P x[c]! = true) := by
                have z := hl
                rw [HG.out, HG.out] at z
                rw [HP.out.1]; show (!ltInt x[a]! x[c]!) = true
                rw [z]; rfl
              go_wp2
              go_quiet (first | (go_at_call 118; refine Calls.quiet_of_same (less_any _ _ _)))
              go_wp2
              all_goals first | (rename_i z; simp [hl] at z; done) | skip
              go_roundw
              case rel => exact ⟨c + 1, by go_num, by omega, by omega, (HC.out.1.drewN _), by rw [← HC.out.2, up_on hle HT.out]⟩
              case measure => simp [iOf] <;> omega
            | true =>
              have HT : Hid (P x[c]! = false) := by
                have z := hl
                rw [HG.out, HG.out] at z
                rw [HP.out.1]; show (!ltInt x[a]! x[c]!) = false
                rw [z]; rfl
              have HCU : Hid (c = u) := (HC.out.2.symm.trans (up_end (.inr HT.out))).symm
              go_wp2
              go_quiet (first | (go_at_call 118; refine Calls.quiet_of_same (less_any _ _ _)))
              go_wp2
              all_goals first | (rename_i z; simp [hl] at z; done) | skip
              go_meet
              case rel => exact ⟨by rw [HCU.out], HC.out.1.drewN _⟩
          · have q1 : decide ((c : Int) ≤ (j : Int)) = false := by simp; omega
            have HCU : Hid (c = u) := (HC.out.2.symm.trans (up_end (.inl hle))).symm
            go_wp2
            go_quiet (first | (go_at_call 118; refine Calls.quiet_of_same (less_any _ _ _)))
            go_wp2
            go_meet
            case rel => exact ⟨by rw [HCU.out], HC.out.1.drewN _⟩
      case rest =>
        clear HA HU
        obtain ⟨rfl, HA⟩ := hcut
        rename World => w4
        go_upto_block 4 with fail
        go_cut [10] (fun vi w' => vi = .int .i64 (y : Int) ∧ Hid (At w blk off x w'))
        case first =>
          go_wp2_with fail
          go_loopw [10] (fun vi wr => ∃ c : Nat, vi = .int .i64 (c : Int) ∧ c ≤ j ∧ u ≤ c + 1 ∧ Hid (At w blk off x wr ∧ scanDown P2 x u c = y)) (fun vi _ => (iOf vi).toNat)
          case atStart => exact ⟨j, rfl, Nat.le_refl _, by omega, HA.out, HY.out⟩
          case round =>
            obtain ⟨c, rfl, hc1, hc2, HC⟩ := hrel
            rename World => wc
            obtain ⟨G, hG, hcw, hfw⟩ := HC.out.1.fam (n := n) H0.out.1 (HX.out.trans H0.out.2.symm) H0.out.2.symm
            have HG : Hid (∀ t, G t = x[t]!) := hG
            clear hG
            by_cases hle : u ≤ c
            · have q1 : (u : Int) ≤ (c : Int) := by omega
              cases hl : ltInt (G a) (G c) with
              | true =>
                have HT : Hid (P2 x[c]! = true) := by
                  have z := hl
                  rw [HG.out, HG.out] at z
                  rw [HP.out.2]; exact z
                go_wp2
                go_quiet (first | (go_at_call 118; refine Calls.quiet_of_same (less_any _ _ _)))
                go_wp2
                all_goals first | (rename_i z; simp [hl] at z; done) | skip
                go_roundw
                case rel => exact ⟨c - 1, by congr 1; omega, by omega, by omega, (HC.out.1.drewN _), by rw [← HC.out.2, down_on (by omega) hle HT.out]⟩
                case measure => simp [iOf] <;> omega
              | false =>
                have HT : Hid (P2 x[c]! = false) := by
                  have z := hl
                  rw [HG.out, HG.out] at z
                  rw [HP.out.2]; exact z
                have HCU : Hid (c = y) := (HC.out.2.symm.trans (down_end (.inr HT.out))).symm
                go_wp2
                go_quiet (first | (go_at_call 118; refine Calls.quiet_of_same (less_any _ _ _)))
                go_wp2
                all_goals first | (rename_i z; simp [hl] at z; done) | skip
                go_meet
                case rel => exact ⟨by rw [HCU.out], HC.out.1.drewN _⟩
            · have q1 : decide ((u : Int) ≤ (c : Int)) = false := by simp; omega
              have HCU : Hid (c = y) := (HC.out.2.symm.trans (down_end (.inl hle))).symm
              go_wp2
              go_quiet (first | (go_at_call 118; refine Calls.quiet_of_same (less_any _ _ _)))
              go_wp2
              go_meet
              case rel => exact ⟨by rw [HCU.out], HC.out.1.drewN _⟩
        case rest =>
          clear HA HY
          obtain ⟨rfl, HA⟩ := hcut
          rename World => w5
          by_cases hgt : u > y
          · have q1 : (y : Int) < (u : Int) := by omega
            have hz := HZ.out
            rw [if_pos hgt] at hz
            have HE : Hid (Z = (u, x)) := hz.symm
            clear hz
            go_wp2
            go_ret
            rw [HE.out]
            exact ⟨rfl, HA.out⟩
          · have q1 : ¬ (y : Int) < (u : Int) := by omega
            have hz := HZ.out
            rw [if_neg hgt] at hz
            have HE : Hid (partEqLoop ltInt a (u + 1) (y - 1) (swp x u y) = Z) := hz
            clear hz
            obtain ⟨G, hG, hcw, hfw⟩ := HA.out.fam (n := n) H0.out.1 (HX.out.trans H0.out.2.symm) H0.out.2.symm
            have hx := HA.out.drew.swap H0.out.1.lt u y (by rw [HX.out]; omega) (by rw [HX.out]; omega)
            rw [← hG, ← hG] at hx
            have HN : Hid (At w blk off (swp x u y) ((w5.drew.setCell ⟨blk, off + u, none⟩ (.int .u64 (G y))).setCell ⟨blk, off + y, none⟩ (.int .u64 (G u)))) := hx
            clear hx hG HZ HP
            have hne : ¬ off + y = off + u := by have := HNE.out; omega
            go_wp2
            go_region
            all_goals go_wp2
            go_roundw
            case rel => exact ⟨u + 1, y - 1, by go_num, by congr 1; omega, by omega, by have := HNE.out; omega, by omega, _, (size_swp _ _ _).trans HX.out, HN.out, HE.out⟩
            case measure => simp [iOf] <;> omega
end Us
end Go.Proofs.YtaejjpbpnedblaaGreat
