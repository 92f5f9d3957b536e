import Derived.Test.YtaejjpbpnedblaaGreatUs7
namespace Go.Proofs.YtaejjpbpnedblaaGreat
namespace Us
open Go.RowKit Go.Sort
set_option linter.unusedVariables false
set_option linter.unusedSimpArgs false
set_option maxRecDepth 20000
/-- partition behind its first swap -/
def partition1 (x : Array Int) (a i j : Nat) : Nat × Bool × Array Int :=
  if scanUp (fun y => ltInt y x[a]!) x j i > scanDown (fun y => !ltInt y x[a]!) x (scanUp (fun y => ltInt y x[a]!) x j i) j then
    (scanDown (fun y => !ltInt y x[a]!) x (scanUp (fun y => ltInt y x[a]!) x j i) j, true, swp x (scanDown (fun y => !ltInt y x[a]!) x (scanUp (fun y => ltInt y x[a]!) x j i) j) a)
  else
    ((partLoop ltInt a (scanUp (fun y => ltInt y x[a]!) x j i + 1) (scanDown (fun y => !ltInt y x[a]!) x (scanUp (fun y => ltInt y x[a]!) x j i) j - 1) (swp x (scanUp (fun y => ltInt y x[a]!) x j i) (scanDown (fun y => !ltInt y x[a]!) x (scanUp (fun y => ltInt y x[a]!) x j i) j))).1, false,
      swp (partLoop ltInt a (scanUp (fun y => ltInt y x[a]!) x j i + 1) (scanDown (fun y => !ltInt y x[a]!) x (scanUp (fun y => ltInt y x[a]!) x j i) j - 1) (swp x (scanUp (fun y => ltInt y x[a]!) x j i) (scanDown (fun y => !ltInt y x[a]!) x (scanUp (fun y => ltInt y x[a]!) x j i) j))).2
        (partLoop ltInt a (scanUp (fun y => ltInt y x[a]!) x j i + 1) (scanDown (fun y => !ltInt y x[a]!) x (scanUp (fun y => ltInt y x[a]!) x j i) j - 1) (swp x (scanUp (fun y => ltInt y x[a]!) x j i) (scanDown (fun y => !ltInt y x[a]!) x (scanUp (fun y => ltInt y x[a]!) x j i) j))).1 a)
theorem partition_1 (d : Array Int) (a b v : Nat) : partition ltInt d a b v = partition1 (swp d a v) a (a + 1) (b - 1) := rfl
/-- what partition answers -/
def PnIs (w : World) (blk off : Nat) (Z : Nat × Bool × Array Int) (e : Ending) (w' : World) : Prop := e = .returned (.tuple #[.int .i64 (Z.1 : Nat), .bool Z.2.1]) ∧ At w blk off Z.2.2 w'
set_option maxHeartbeats 8000000 in
theorem part_any (blk off n cap a b v : Nat) (d : Array Int) (w : World) (h : Row w blk off d) (hn : d.size = n) (hab : a ≤ v) (hvb : v < b) (hb : b ≤ n) :
    Calls Tryz.prog 133 #[.slice (some ⟨blk, off, none⟩) n cap, .int .i64 a, .int .i64 b, .int .i64 v] w fun e w' => PnIs w blk off (partition ltInt d a b v) e w' := by
  have hsm := h.small
  rw [hn] at hsm
  have H0 : Hid (Row w blk off d ∧ d.size = n) := ⟨h, hn⟩
  obtain ⟨Z, hZ⟩ : ∃ Z, partition ltInt d a b v = Z := ⟨_, rfl⟩
  rw [hZ]
  rw [partition_1] at hZ
  obtain ⟨i, hi⟩ : ∃ i : Nat, i = a + 1 := ⟨_, rfl⟩
  obtain ⟨j, hj⟩ : ∃ j : Nat, j = b - 1 := ⟨_, rfl⟩
  rw [← hi, ← hj] at hZ
  obtain ⟨G, hG, hcw, hfw⟩ := (At.start h).fam (n := n) h rfl hn.symm
  have hx := (At.start h).drew.swap h.lt a v (by omega) (by omega)
  rw [← hG, ← hG] at hx
  have HS : Hid (∀ W, (w.drew.setCell ⟨blk, off + a, none⟩ (.int .u64 (G v))).setCell ⟨blk, off + v, none⟩ (.int .u64 (G a)) = W → St w blk off n (fun x => partition1 x a i j = Z) W) := by
    rintro W rfl
    exact ⟨_, (size_swp _ _ _).trans hn, hx, hZ⟩
  have ANS : Hid (∀ {y : Nat} {f : Bool} {x : Array Int} (W : World), Z = (y, f, x) → At w blk off x W → PnIs w blk off Z (.returned (.tuple #[.int .i64 (y : Int), .bool f])) W) := by
    rintro y f x W rfl hw
    exact ⟨rfl, hw⟩
  clear h hn hZ hx hG
  have hai : a < i := by omega
  have hij : i ≤ j + 1 := by omega
  have hjb : j < b := by omega
  have e1 : (a : Int) + 1 = (i : Int) := by omega
  have e2 : (b : Int) - 1 = (j : Int) := by omega
  have HE12 : Hid ((a : Int) + 1 = (i : Int) ∧ (b : Int) - 1 = (j : Int)) := ⟨e1, e2⟩
  clear e1 e2 hi hj
  go_enter Tryz.func133, Tryz.ntmps133
  go_upto_region 1 with fail
  go_cut [] (fun w' => Hid (St w blk off n (fun x => partition1 x a i j = Z) w'))
  case first =>
    by_cases hav : a = v
    · subst hav
      go_region
      all_goals go_wp2_with fail
      all_goals go_meet
      case rel => exact HS.out _ rfl
    · have hne : ¬ off + v = off + a := by omega
      go_region
      all_goals go_wp2_with fail
      all_goals go_meet
      case rel => exact HS.out _ rfl
  case rest =>
    clear HS hcw hfw
    rename World => wq
    obtain ⟨x, hx1, hx2, hx3⟩ := hcut.out
    clear hcut
    go_upto_block 0 with fail
    rw [HE12.out.1, HE12.out.2]
    clear HE12
    have HX : Hid (x.size = n) := hx1
    have HA : Hid (At w blk off x wq) := hx2
    obtain ⟨P, hP⟩ : ∃ P : Int → Bool, P = fun y => ltInt y x[a]! := ⟨_, rfl⟩
    obtain ⟨P2, hP2⟩ : ∃ P : Int → Bool, P = fun y => !ltInt y x[a]! := ⟨_, rfl⟩
    obtain ⟨u, hu⟩ : ∃ u, scanUp P x j i = u := ⟨_, rfl⟩
    obtain ⟨y, hy⟩ : ∃ y, scanDown P2 x u j = y := ⟨_, rfl⟩
    have hui : i ≤ u := by rw [← hu]; exact scanUp_ge _ _ _ _
    have huj : u ≤ j + 1 := by rw [← hu]; exact up_le _ (Nat.le_refl _) hij
    have hyj : y ≤ j := by rw [← hy]; exact scanDown_le _ _ _ _
    have huy : u ≤ y + 1 := by rw [← hy]; exact down_ge huj
    have hZ : (if u > y then (y, true, swp x y a) else ((partLoop ltInt a (u + 1) (y - 1) (swp x u y)).1, false, swp (partLoop ltInt a (u + 1) (y - 1) (swp x u y)).2 (partLoop ltInt a (u + 1) (y - 1) (swp x u y)).1 a)) = Z := by
      rw [← hx3]
      simp only [partition1]
      rw [← hP, ← hP2, hu, hy]
    have HZ : Hid ((if u > y then (y, true, swp x y a) else ((partLoop ltInt a (u + 1) (y - 1) (swp x u y)).1, false, swp (partLoop ltInt a (u + 1) (y - 1) (swp x u y)).2 (partLoop ltInt a (u + 1) (y - 1) (swp x u y)).1 a)) = Z) := hZ
    have HNE : Hid (¬ u = y) := by
      intro e
      have k1 := up_stop (p := P) (d := x) (j := j) _ (Nat.le_refl (j + 1 - i)) (by rw [hu]; omega)
      have k2 := down_stop (p := P2) (d := x) (i := u) (j := j) (by omega) (by rw [hy]; omega)
      rw [hu, hP] at k1
      rw [hy, hP2, ← e] at k2
      simp only [k1] at k2
      cases k2
    have HU : Hid (scanUp P x j i = u) := hu
    have HY : Hid (scanDown P2 x u j = y) := hy
    have HP : Hid ((P = fun y => ltInt y x[a]!) ∧ P2 = fun y => !ltInt y x[a]!) := ⟨hP, hP2⟩
    clear hx1 hx2 hx3 hu hy hZ hP hP2
    go_cut [10] (fun vi w' => vi = .int .i64 (u : Int) ∧ Hid (At w blk off x w'))
    case first =>
      go_wp2_with fail
      go_loopw [10] (fun vi wr => ∃ c : Nat, vi = .int .i64 (c : Int) ∧ i ≤ c ∧ c ≤ j + 1 ∧ Hid (At w blk off x wr ∧ scanUp P x j c = u)) (fun vi _ => j + 1 - (iOf vi).toNat)
      case atStart => exact ⟨i, rfl, Nat.le_refl _, by omega, HA.out, HU.out⟩
      case round =>
        obtain ⟨c, rfl, hc1, hc2, HC⟩ := hrel
        rename World => wc
        obtain ⟨G, hG, hcw, hfw⟩ := HC.out.1.fam (n := n) H0.out.1 (HX.out.trans H0.out.2.symm) H0.out.2.symm
        have HG : Hid (∀ t, G t = x[t]!) := hG
        clear hG
        by_cases hle : c ≤ j
        · have q1 : (c : Int) ≤ (j : Int) := by omega
          cases hl : ltInt (G c) (G a) with
          | true =>
            have HT : Hid (P x[c]! = true) := by
              have z := hl
              rw [HG.out, HG.out] at z
              rw [HP.out.1]; exact z
            go_wp2
            go_quiet (first | (go_at_call 118; refine Calls.quiet_of_same (less_any _ _ _)))
            go_wp2
            all_goals first | (rename_i z; simp [hl] at z; done) | skip
            go_roundw
            case rel => exact ⟨c + 1, by go_num, by omega, by omega, (HC.out.1.drewN _), by rw [← HC.out.2, up_on hle HT.out]⟩
            case measure => simp [iOf] <;> omega
          | false =>
            have HT : Hid (P x[c]! = false) := by
              have z := hl
              rw [HG.out, HG.out] at z
              rw [HP.out.1]; exact z
            have HCU : Hid (c = u) := (HC.out.2.symm.trans (up_end (.inr HT.out))).symm
            go_wp2
            go_quiet (first | (go_at_call 118; refine Calls.quiet_of_same (less_any _ _ _)))
            go_wp2
            all_goals first | (rename_i z; simp [hl] at z; done) | skip
            go_meet
            case rel => exact ⟨by rw [HCU.out], HC.out.1.drewN _⟩
        · have q1 : decide ((c : Int) ≤ (j : Int)) = false := by simp; omega
          have HCU : Hid (c = u) := (HC.out.2.symm.trans (up_end (.inl hle))).symm
          go_wp2
          go_quiet (first | (go_at_call 118; refine Calls.quiet_of_same (less_any _ _ _)))
          go_wp2
          go_meet
          case rel => exact ⟨by rw [HCU.out], HC.out.1.drewN _⟩
    case rest =>
      clear HA HU
      obtain ⟨rfl, HA⟩ := hcut
      rename World => w4
      go_upto_block 2 with fail
      go_cut [11] (fun vi w' => vi = .int .i64 (y : Int) ∧ Hid (At w blk off x w'))
      case first =>
        go_wp2_with fail
        go_loopw [11] (fun vi wr => ∃ c : Nat, vi = .int .i64 (c : Int) ∧ c ≤ j ∧ u ≤ c + 1 ∧ Hid (At w blk off x wr ∧ scanDown P2 x u c = y)) (fun vi _ => (iOf vi).toNat)
        case atStart => exact ⟨j, rfl, Nat.le_refl _, by omega, HA.out, HY.out⟩
        case round =>
          obtain ⟨c, rfl, hc1, hc2, HC⟩ := hrel
          rename World => wc
          obtain ⟨G, hG, hcw, hfw⟩ := HC.out.1.fam (n := n) H0.out.1 (HX.out.trans H0.out.2.symm) H0.out.2.symm
          have HG : Hid (∀ t, G t = x[t]!) := hG
          clear hG
          by_cases hle : u ≤ c
          · have q1 : (u : Int) ≤ (c : Int) := by omega
            cases hl : ltInt (G c) (G a) with
            | false =>
              have HT : Hid (P2 x[c]! = true) := by
                have z := hl
                rw [HG.out, HG.out] at z
                rw [HP.out.2]; show (!ltInt x[c]! x[a]!) = true
                rw [z]; rfl
              go_wp2
              go_quiet (first | (go_at_call 118; refine Calls.quiet_of_same (less_any _ _ _)))
              go_wp2
              all_goals first | (rename_i z; simp [hl] at z; done) | skip
              go_roundw
              case rel => exact ⟨c - 1, by congr 1; omega, by omega, by omega, (HC.out.1.drewN _), by rw [← HC.out.2, down_on (by omega) hle HT.out]⟩
              case measure => simp [iOf] <;> omega
            | true =>
              have HT : Hid (P2 x[c]! = false) := by
                have z := hl
                rw [HG.out, HG.out] at z
                rw [HP.out.2]; show (!ltInt x[c]! x[a]!) = false
                rw [z]; rfl
              have HCU : Hid (c = y) := (HC.out.2.symm.trans (down_end (.inr HT.out))).symm
              go_wp2
              go_quiet (first | (go_at_call 118; refine Calls.quiet_of_same (less_any _ _ _)))
              go_wp2
              all_goals first | (rename_i z; simp [hl] at z; done) | skip
              go_meet
              case rel => exact ⟨by rw [HCU.out], HC.out.1.drewN _⟩
          · have q1 : decide ((u : Int) ≤ (c : Int)) = false := by simp; omega
            have HCU : Hid (c = y) := (HC.out.2.symm.trans (down_end (.inl hle))).symm
            go_wp2
            go_quiet (first | (go_at_call 118; refine Calls.quiet_of_same (less_any _ _ _)))
            go_wp2
            go_meet
            case rel => exact ⟨by rw [HCU.out], HC.out.1.drewN _⟩

      case rest =>
        clear HA HY
        obtain ⟨rfl, HA⟩ := hcut
        rename World => w5
        by_cases hgt : u > y
        · have q1 : (y : Int) < (u : Int) := by omega
          have hz := HZ.out
          rw [if_pos hgt] at hz
          have HE : Hid (Z = (y, true, swp x y a)) := hz.symm
          clear hz HZ
          obtain ⟨G, hG, hcw, hfw⟩ := HA.out.fam (n := n) H0.out.1 (HX.out.trans H0.out.2.symm) H0.out.2.symm
          have hx := HA.out.drew.swap H0.out.1.lt y a (by rw [HX.out]; omega) (by rw [HX.out]; omega)
          rw [← hG, ← hG] at hx
          have HN : Hid (At w blk off (swp x y a) ((w5.drew.setCell ⟨blk, off + y, none⟩ (.int .u64 (G a))).setCell ⟨blk, off + a, none⟩ (.int .u64 (G y)))) := hx
          clear hx hG HP
          by_cases heq : y = a
          · subst heq
            go_wp2
            go_region
            all_goals go_wp2
            go_ret2
            exact ANS.out _ HE.out HN.out
          · have hne : ¬ off + a = off + y := by omega
            go_wp2
            go_region
            all_goals go_wp2
            go_ret2
            exact ANS.out _ HE.out HN.out

        · have hz := HZ.out
          rw [if_neg hgt] at hz
          have HE : Hid (((partLoop ltInt a (u + 1) (y - 1) (swp x u y)).1, false, swp (partLoop ltInt a (u + 1) (y - 1) (swp x u y)).2 (partLoop ltInt a (u + 1) (y - 1) (swp x u y)).1 a) = Z) := hz
          clear hz HZ
          have q1 : ¬ (y : Int) < (u : Int) := by omega
          obtain ⟨G, hG, hcw, hfw⟩ := HA.out.fam (n := n) H0.out.1 (HX.out.trans H0.out.2.symm) H0.out.2.symm
          have hx := HA.out.drew.swap H0.out.1.lt u y (by rw [HX.out]; omega) (by rw [HX.out]; omega)
          rw [← hG, ← hG] at hx
          have HN : Hid (At w blk off (swp x u y) ((w5.drew.setCell ⟨blk, off + u, none⟩ (.int .u64 (G y))).setCell ⟨blk, off + y, none⟩ (.int .u64 (G u)))) := hx
          clear hx hG HP
          have hne : ¬ off + y = off + u := by have := HNE.out; omega
          go_wp2
          go_region
          all_goals go_wp2
          clear hcw hfw
          go_loopw [10, 11] (fun vi vj wr => ∃ i j : Nat, vi = .int .i64 (i : Int) ∧ vj = .int .i64 (j : Int) ∧ a < i ∧ i ≤ j + 1 ∧ j < b ∧ Hid (St w blk off n (fun x => ((partLoop ltInt a i j x).1, false, swp (partLoop ltInt a i j x).2 (partLoop ltInt a i j x).1 a) = Z) wr)) (fun vi vj _ => (iOf vj + 1 - iOf vi).toNat)
          case atStart => exact ⟨u + 1, y - 1, by go_num, by congr 1; omega, by omega, by have := HNE.out; omega, by omega, _, (size_swp _ _ _).trans HX.out, HN.out, HE.out⟩
          case round =>
            clear HE HN HNE HX HA
            clear hij hui huj hyj huy hgt q1 hne hai hjb
            obtain ⟨i, j, rfl, rfl, hai, hij, hjb, HX0⟩ := hrel
            rename World => wq
            obtain ⟨x, hx1, hx2, hx3⟩ := HX0.out
            clear HX0
            have HX : Hid (x.size = n) := hx1
            have HA : Hid (At w blk off x wq) := hx2
            obtain ⟨P, hP⟩ : ∃ P : Int → Bool, P = fun y => ltInt y x[a]! := ⟨_, rfl⟩
            obtain ⟨P2, hP2⟩ : ∃ P : Int → Bool, P = fun y => !ltInt y x[a]! := ⟨_, rfl⟩
            obtain ⟨u, hu⟩ : ∃ u, scanUp P x j i = u := ⟨_, rfl⟩
            obtain ⟨y, hy⟩ : ∃ y, scanDown P2 x u j = y := ⟨_, rfl⟩
            have hui : i ≤ u := by rw [← hu]; exact scanUp_ge _ _ _ _
            have huj : u ≤ j + 1 := by rw [← hu]; exact up_le _ (Nat.le_refl _) hij
            have hyj : y ≤ j := by rw [← hy]; exact scanDown_le _ _ _ _
            have huy : u ≤ y + 1 := by rw [← hy]; exact down_ge huj
            have hZ : (if u > y then (y, false, swp x y a) else ((partLoop ltInt a (u + 1) (y - 1) (swp x u y)).1, false, swp (partLoop ltInt a (u + 1) (y - 1) (swp x u y)).2 (partLoop ltInt a (u + 1) (y - 1) (swp x u y)).1 a)) = Z := by
              rw [← hx3]
              have e := partLoop_eq ltInt a i j x
              rw [← hP, ← hP2, hu, hy] at e
              rw [e]
              split <;> rfl
            have HZ : Hid ((if u > y then (y, false, swp x y a) else ((partLoop ltInt a (u + 1) (y - 1) (swp x u y)).1, false, swp (partLoop ltInt a (u + 1) (y - 1) (swp x u y)).2 (partLoop ltInt a (u + 1) (y - 1) (swp x u y)).1 a)) = Z) := hZ
            have HNE : Hid (¬ u = y) := by
              intro e
              have k1 := up_stop (p := P) (d := x) (j := j) _ (Nat.le_refl (j + 1 - i)) (by rw [hu]; omega)
              have k2 := down_stop (p := P2) (d := x) (i := u) (j := j) (by omega) (by rw [hy]; omega)
              rw [hu, hP] at k1
              rw [hy, hP2, ← e] at k2
              simp only [k1] at k2
              cases k2
            have HU : Hid (scanUp P x j i = u) := hu
            have HY : Hid (scanDown P2 x u j = y) := hy
            have HP : Hid ((P = fun y => ltInt y x[a]!) ∧ P2 = fun y => !ltInt y x[a]!) := ⟨hP, hP2⟩
            clear hx1 hx2 hx3 hu hy hZ hP hP2
            go_upto_block 6 with fail
            go_cut [10] (fun vi w' => vi = .int .i64 (u : Int) ∧ Hid (At w blk off x w'))
            case first =>
              go_wp2_with fail
              go_loopw [10] (fun vi wr => ∃ c : Nat, vi = .int .i64 (c : Int) ∧ i ≤ c ∧ c ≤ j + 1 ∧ Hid (At w blk off x wr ∧ scanUp P x j c = u)) (fun vi _ => j + 1 - (iOf vi).toNat)
              case atStart => exact ⟨i, rfl, Nat.le_refl _, by omega, HA.out, HU.out⟩
              case round =>
                obtain ⟨c, rfl, hc1, hc2, HC⟩ := hrel
                rename World => wc
                obtain ⟨G, hG, hcw, hfw⟩ := HC.out.1.fam (n := n) H0.out.1 (HX.out.trans H0.out.2.symm) H0.out.2.symm
                have HG : Hid (∀ t, G t = x[t]!) := hG
                clear hG
                by_cases hle : c ≤ j
                · have q1 : (c : Int) ≤ (j : Int) := by omega
                  cases hl : ltInt (G c) (G a) with
                  | true =>
                    have HT : Hid (P x[c]! = true) := by
                      have z := hl
                      rw [HG.out, HG.out] at z
                      rw [HP.out.1]; exact z
                    go_wp2
                    go_quiet (first | (go_at_call 118; refine Calls.quiet_of_same (less_any _ _ _)))
                    go_wp2
                    all_goals first | (rename_i z; simp [hl] at z; done) | skip
                    go_roundw
                    case rel => exact ⟨c + 1, by go_num, by omega, by omega, (HC.out.1.drewN _), by rw [← HC.out.2, up_on hle HT.out]⟩
                    case measure => simp [iOf] <;> omega
                  | false =>
                    have HT : Hid (P x[c]! = false) := by
                      have z := hl
                      rw [HG.out, HG.out] at z
                      rw [HP.out.1]; exact z
                    have HCU : Hid (c = u) := (HC.out.2.symm.trans (up_end (.inr HT.out))).symm
                    go_wp2
                    go_quiet (first | (go_at_call 118; refine Calls.quiet_of_same (less_any _ _ _)))
                    go_wp2
                    all_goals first | (rename_i z; simp [hl] at z; done) | skip
                    go_meet
                    case rel => exact ⟨by rw [HCU.out], HC.out.1.drewN _⟩
                · have q1 : decide ((c : Int) ≤ (j : Int)) = false := by simp; omega
                  have HCU : Hid (c = u) := (HC.out.2.symm.trans (up_end (.inl hle))).symm
                  go_wp2
                  go_quiet (first | (go_at_call 118; refine Calls.quiet_of_same (less_any _ _ _)))
                  go_wp2
                  go_meet
                  case rel => exact ⟨by rw [HCU.out], HC.out.1.drewN _⟩
            case rest =>
              clear HA HU
              obtain ⟨rfl, HA⟩ := hcut
              rename World => w4
              go_upto_block 8 with fail
              go_cut [11] (fun vi w' => vi = .int .i64 (y : Int) ∧ Hid (At w blk off x w'))
              case first =>
                go_wp2_with fail
                go_loopw [11] (fun vi wr => ∃ c : Nat, vi = .int .i64 (c : Int) ∧ c ≤ j ∧ u ≤ c + 1 ∧ Hid (At w blk off x wr ∧ scanDown P2 x u c = y)) (fun vi _ => (iOf vi).toNat)
                case atStart => exact ⟨j, rfl, Nat.le_refl _, by omega, HA.out, HY.out⟩
                case round =>
                  obtain ⟨c, rfl, hc1, hc2, HC⟩ := hrel
                  rename World => wc
                  obtain ⟨G, hG, hcw, hfw⟩ := HC.out.1.fam (n := n) H0.out.1 (HX.out.trans H0.out.2.symm) H0.out.2.symm
                  have HG : Hid (∀ t, G t = x[t]!) := hG
                  clear hG
                  by_cases hle : u ≤ c
                  · have q1 : (u : Int) ≤ (c : Int) := by omega
                    cases hl : ltInt (G c) (G a) with
                    | false =>
                      have HT : Hid (P2 x[c]! = true) := by
                        have z := hl
                        rw [HG.out, HG.out] at z
                        rw [HP.out.2]; show (!ltInt x[c]! x[a]!) = true
                        rw [z]; rfl
                      go_wp2
                      go_quiet (first | (go_at_call 118; refine Calls.quiet_of_same (less_any _ _ _)))
                      go_wp2
                      all_goals first | (rename_i z; simp [hl] at z; done) | skip
                      go_roundw
                      case rel => exact ⟨c - 1, by congr 1; omega, by omega, by omega, (HC.out.1.drewN _), by rw [← HC.out.2, down_on (by omega) hle HT.out]⟩
                      case measure => simp [iOf] <;> omega
                    | true =>
                      have HT : Hid (P2 x[c]! = false) := by
                        have z := hl
                        rw [HG.out, HG.out] at z
                        rw [HP.out.2]; show (!ltInt x[c]! x[a]!) = false
                        rw [z]; rfl
                      have HCU : Hid (c = y) := (HC.out.2.symm.trans (down_end (.inr HT.out))).symm
                      go_wp2
                      go_quiet (first | (go_at_call 118; refine Calls.quiet_of_same (less_any _ _ _)))
                      go_wp2
                      all_goals first | (rename_i z; simp [hl] at z; done) | skip
                      go_meet
                      case rel => exact ⟨by rw [HCU.out], HC.out.1.drewN _⟩
                  · have q1 : decide ((u : Int) ≤ (c : Int)) = false := by simp; omega
                    have HCU : Hid (c = y) := (HC.out.2.symm.trans (down_end (.inl hle))).symm
                    go_wp2
                    go_quiet (first | (go_at_call 118; refine Calls.quiet_of_same (less_any _ _ _)))
                    go_wp2
                    go_meet
                    case rel => exact ⟨by rw [HCU.out], HC.out.1.drewN _⟩

              case rest =>
                clear HA HY
                obtain ⟨rfl, HA⟩ := hcut
                rename World => w5
                by_cases hgt : u > y
                · have q1 : (y : Int) < (u : Int) := by omega
                  have hz := HZ.out
                  rw [if_pos hgt] at hz
                  have HE : Hid (Z = (y, false, swp x y a)) := hz.symm
                  clear hz HZ
                  obtain ⟨G, hG, hcw, hfw⟩ := HA.out.fam (n := n) H0.out.1 (HX.out.trans H0.out.2.symm) H0.out.2.symm
                  have hx := HA.out.drew.swap H0.out.1.lt y a (by rw [HX.out]; omega) (by rw [HX.out]; omega)
                  rw [← hG, ← hG] at hx
                  have HN : Hid (At w blk off (swp x y a) ((w5.drew.setCell ⟨blk, off + y, none⟩ (.int .u64 (G a))).setCell ⟨blk, off + a, none⟩ (.int .u64 (G y)))) := hx
                  clear hx hG HP
                  by_cases heq : y = a
                  · subst heq
                    go_wp2
                    go_region
                    all_goals go_wp2
                    go_ret2
                    exact ANS.out _ HE.out HN.out
                  · have hne : ¬ off + a = off + y := by omega
                    go_wp2
                    go_region
                    all_goals go_wp2
                    go_ret2
                    exact ANS.out _ HE.out HN.out

                · have hz := HZ.out
                  rw [if_neg hgt] at hz
                  have HE : Hid (((partLoop ltInt a (u + 1) (y - 1) (swp x u y)).1, false, swp (partLoop ltInt a (u + 1) (y - 1) (swp x u y)).2 (partLoop ltInt a (u + 1) (y - 1) (swp x u y)).1 a) = Z) := hz
                  clear hz HZ
                  have q1 : ¬ (y : Int) < (u : Int) := by omega
                  obtain ⟨G, hG, hcw, hfw⟩ := HA.out.fam (n := n) H0.out.1 (HX.out.trans H0.out.2.symm) H0.out.2.symm
                  have hx := HA.out.drew.swap H0.out.1.lt u y (by rw [HX.out]; omega) (by rw [HX.out]; omega)
                  rw [← hG, ← hG] at hx
                  have HN : Hid (At w blk off (swp x u y) ((w5.drew.setCell ⟨blk, off + u, none⟩ (.int .u64 (G y))).setCell ⟨blk, off + y, none⟩ (.int .u64 (G u)))) := hx
                  clear hx hG HP
                  have hne : ¬ off + y = off + u := by have := HNE.out; omega
                  go_wp2
                  go_region
                  all_goals go_wp2
                  go_roundw
                  case rel => exact ⟨u + 1, y - 1, by go_num, by congr 1; omega, by omega, by have := HNE.out; omega, by omega, _, (size_swp _ _ _).trans HX.out, HN.out, HE.out⟩
                  case measure => simp [iOf] <;> omega

end Us
end Go.Proofs.YtaejjpbpnedblaaGreat
