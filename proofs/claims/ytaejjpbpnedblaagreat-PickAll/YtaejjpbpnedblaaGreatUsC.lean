import Derived.Test.YtaejjpbpnedblaaGreatUsB
namespace Go.Proofs.YtaejjpbpnedblaaGreat
namespace Us
open Go.RowKit Go.Sort
set_option linter.unusedVariables false
set_option linter.unusedSimpArgs false
set_option maxRecDepth 100000
theorem eighth_is {x y p q : Nat} (h1 : q ≤ p) (h2 : y ≤ x) : decide (((x : Int) - (y : Int)) / 8 ≤ (p : Int) - (q : Int)) = decide (p - q ≥ (x - y) / 8) :=
  decide_eq_decide.2 ⟨fun h => by omega, fun h => by omega⟩
set_option maxHeartbeats 16000000 in
theorem pdq_any : ∀ (N blk off n cap a b limit : Nat) (d : Array Int) (w : World), b - a < N → Row w blk off d → d.size = n → a ≤ b → b ≤ n → limit < 4611686018427387904 → Below ltInt a b d →
    Calls Tryz.prog 114 #[.slice (some ⟨blk, off, none⟩) n cap, .int .i64 a, .int .i64 b, .int .i64 limit] w fun e w' => e = .returned (.tuple #[]) ∧ At w blk off (pdq ltInt d a b limit true true) w' := by
  intro N
  induction N with
  | zero => intro _ _ _ _ _ _ _ _ _ h; exact absurd h (Nat.not_lt_zero _)
  | succ N ih0 =>
    intro blk off n cap a b limit d w hN h hn hab hb hlimit hB
    have IH : Hid (∀ (blk off n cap a b limit : Nat) (d : Array Int) (w : World), b - a < N → Row w blk off d → d.size = n → a ≤ b → b ≤ n → limit < 4611686018427387904 → Below ltInt a b d →
      Calls Tryz.prog 114 #[.slice (some ⟨blk, off, none⟩) n cap, .int .i64 a, .int .i64 b, .int .i64 limit] w fun e w' => e = .returned (.tuple #[]) ∧ At w blk off (pdq ltInt d a b limit true true) w') := ih0
    clear ih0
    have hsm := h.small
    rw [hn] at hsm
    have H0 : Hid (Row w blk off d ∧ d.size = n) := ⟨h, hn⟩
    obtain ⟨Z, hZ⟩ : ∃ Z, pdq ltInt d a b limit true true = Z := ⟨_, rfl⟩
    rw [hZ]
    have HS : Hid (St w blk off n (fun x => Below ltInt a b x ∧ pdq ltInt x a b limit true true = Z) w) := ⟨d, hn, At.start h, hB, hZ⟩
    clear h hn hB hZ
    go_enter Tryz.func114, Tryz.ntmps114
    go_wp2
    go_loopw [1, 2, 3, 8, 9] (fun v1 v2 v3 v8 v9 wr => ∃ (a' b' lim : Nat) (wb wp : Bool), v1 = .int .i64 (a' : Int) ∧ v2 = .int .i64 (b' : Int) ∧ v3 = .int .i64 (lim : Int) ∧ v8 = .bool wb ∧ v9 = .bool wp ∧ a' ≤ b' ∧ b' ≤ n ∧ b' - a' ≤ N ∧ lim < 4611686018427387904 ∧ Hid (St w blk off n (fun x => Below ltInt a' b' x ∧ pdq ltInt x a' b' lim wb wp = Z) wr)) (fun v1 v2 _ _ _ _ => (iOf v2 - iOf v1).toNat)
    case atStart => exact ⟨a, b, limit, true, true, rfl, rfl, rfl, rfl, rfl, hab, hb, by omega, hlimit, HS.out⟩
    case round =>
      clear HS hab hb hN hlimit
      obtain ⟨a', b', lim, wb, wp, rfl, rfl, rfl, rfl, rfl, hab, hb, hN, hlim, HX0⟩ := hrel
      rename World => wq
      obtain ⟨x, hx1, hx2, hx3, hx4⟩ := HX0.out
      clear HX0
      have HX : Hid (x.size = n ∧ At w blk off x wq ∧ Below ltInt a' b' x) := ⟨hx1, hx2, hx3⟩
      by_cases h12 : b' - a' ≤ 12
      · have q1 : (b' : Int) - (a' : Int) ≤ 12 := by omega
        have hr := hx2.row H0.out.1 (hx1.trans H0.out.2.symm)
        have C1 : Hid (Calls Tryz.prog 126 #[.slice (some ⟨blk, off, none⟩) n cap, .int .i64 a', .int .i64 b'] wq fun e w' => e = .returned (.tuple #[]) ∧ At w blk off Z w') :=
          (insertion_any blk off n cap a' b' x wq hr hx1 hab hb).mono fun e w' hp => ⟨hp.1, by
            rw [← hx4, pdq_small h12]
            exact At.trans H0.out.1 hx2 hp.2 (insertionSort_holds swo_ltInt x a' b' hab (by omega)).1.1⟩
        clear hr hx1 hx2 hx3 hx4
        go_wp2_with (go_at_call 126; go_loud (refine C1.out.mono ?_; rintro e w1 ⟨rfl, hs1⟩; have HS1 : Hid (At w blk off Z w1) := hs1; clear hs1))
        ((try simp only [Exit.inBlock, Exit.then]); refine bodyPost_ret (results_none rfl _ _ _) rfl ?_)
        exact ⟨rfl, HS1.out⟩
      · have q1 : ¬ (b' : Int) - (a' : Int) ≤ 12 := by omega
        by_cases hl0 : lim = 0
        · subst hl0
          have hr := hx2.row H0.out.1 (hx1.trans H0.out.2.symm)
          have C1 : Hid (Calls Tryz.prog 127 #[.slice (some ⟨blk, off, none⟩) n cap, .int .i64 a', .int .i64 b'] wq fun e w' => e = .returned (.tuple #[]) ∧ At w blk off Z w') :=
            (heap_any blk off n cap a' b' x wq hr hx1 (by omega) hb).mono fun e w' hp => ⟨hp.1, by
              rw [← hx4, pdq_heap h12 rfl]
              exact At.trans H0.out.1 hx2 hp.2 (heapSort_holds swo_ltInt x a' b' hab (by omega)).1.1⟩
          clear hr hx1 hx2 hx3 hx4
          go_wp2_with (go_at_call 127; go_loud (refine C1.out.mono ?_; rintro e w1 ⟨rfl, hs1⟩; have HS1 : Hid (At w blk off Z w1) := hs1; clear hs1))
          ((try simp only [Exit.inBlock, Exit.then]); refine bodyPost_ret (results_none rfl _ _ _) rfl ?_)
          exact ⟨rfl, HS1.out⟩
        · have q2 : ¬ (lim : Int) = 0 := by omega
          obtain ⟨d1, lm, c, h, d2, pv, ht, p, f, PL⟩ := plan x a' b' lim wb wp h12 hl0 (by omega) hx3
          rw [hx4] at PL
          have HP : Hid (Plan x a' b' lim wb wp Z d1 lm c h d2 pv ht p f) := PL
          have hlm : lm < 4611686018427387904 := Nat.lt_of_le_of_lt PL.lm_le hlim
          have hc1 := PL.c1
          have hc2 := PL.c2
          have hp1 := PL.p1
          have hp2 := PL.p2
          have hl1 : 1 ≤ lim := by omega
          clear PL hx1 hx2 hx3 hx4 hl0
          have z1 : Hid (d1.size = n) := HP.out.s1.trans HX.out.1
          have z2 : Hid (d2.size = n) := HP.out.s2.trans HX.out.1
          have z3 : Hid (p.size = n) := HP.out.s3.trans HX.out.1
          go_upto_if 35 with fail
          go_cut [3] (fun s3 wc => s3 = .int .i64 (lm : Int) ∧ Hid (At w blk off d1 wc))
          case first =>
            cases wb with
            | false =>
              have e1 := (HP.out.no1 rfl)
              have C1 : Hid (Calls Tryz.prog 128 #[.slice (some ⟨blk, off, none⟩) n cap, .int .i64 a', .int .i64 b'] wq fun e w' => e = .returned (.tuple #[]) ∧ At w blk off d1 w') :=
                (break_any blk off n cap a' b' x wq (HX.out.2.1.row H0.out.1 (HX.out.1.trans H0.out.2.symm)) HX.out.1 (by omega) hb).mono fun e w' hp => ⟨hp.1, by
                  rw [e1.1] at hp
                  exact At.trans H0.out.1 HX.out.2.1 hp.2 HP.out.s1⟩
              have E2 : Hid (lm = lim - 1) := e1.2
              clear e1
              go_wp2_with (go_at_call 128; go_loud (refine C1.out.mono ?_; rintro e w1 ⟨rfl, hs1⟩; have HS1 : Hid (At w blk off d1 w1) := hs1; clear hs1))
              go_meet
              case rel => exact ⟨by congr 1; have := E2.out; omega, HS1.out⟩
            | true =>
              have E1 : Hid (x = d1 ∧ lm = lim) := HP.out.yes1 rfl
              go_wp2_with fail
              go_meet
              case rel => exact ⟨by rw [E1.out.2], E1.out.1 ▸ HX.out.2.1⟩
          case rest =>
            obtain ⟨rfl, HA1⟩ := hcut
            rename World => w1
            clear q2 hl1
            have C2 : Hid (Calls Tryz.prog 129 #[.slice (some ⟨blk, off, none⟩) n cap, .int .i64 a', .int .i64 b'] w1 fun e w' => e = .returned (.tuple #[.int .i64 (c : Int), .int .i64 (hV h)]) ∧ At w blk off d1 w') :=
              (choose_any blk off n cap a' b' d1 w1 (HA1.out.row H0.out.1 (z1.out.trans H0.out.2.symm)) z1.out (by omega) hb).mono fun e w' hp => by
                unfold CpIs at hp
                rw [HP.out.cp] at hp
                exact ⟨hp.1, At.trans H0.out.1 HA1.out hp.2 rfl⟩
            go_upto_if 50 with (go_at_call 129; go_loud (refine C2.out.mono ?_; rintro e w2 ⟨rfl, hs1⟩; have HA2 : Hid (At w blk off d1 w2) := hs1; clear hs1))
            clear C2 HA1
            go_cut [11, 12] (fun s11 s12 wc => s11 = .int .i64 (pv : Int) ∧ s12 = .int .i64 (hV ht) ∧ Hid (At w blk off d2 wc))
            case first =>
              cases h with
              | decreasing =>
                have hv : hV .decreasing = 2 := rfl
                obtain ⟨e1, e2, e3⟩ := HP.out.dec rfl
                have C1 : Hid (Calls Tryz.prog 130 #[.slice (some ⟨blk, off, none⟩) n cap, .int .i64 a', .int .i64 b'] w2 fun e w' => e = .returned (.tuple #[]) ∧ At w blk off d2 w') :=
                  (reverse_any blk off n cap a' b' d1 w2 (HA2.out.row H0.out.1 (z1.out.trans H0.out.2.symm)) z1.out (by omega) hb).mono fun e w' hp => ⟨hp.1, by
                    rw [e1] at hp
                    exact At.trans H0.out.1 HA2.out hp.2 (z2.out.trans z1.out.symm)⟩
                have E2 : Hid (pv = b' - 1 - (c - a') ∧ ht = .increasing) := ⟨e2, e3⟩
                clear e1 e2 e3
                go_wp2_with (go_at_call 130; go_loud (refine C1.out.mono ?_; rintro e w9 ⟨rfl, hs1⟩; have HS1 : Hid (At w blk off d2 w9) := hs1; clear hs1))
                go_meet
                case rel => exact ⟨by congr 1; have := E2.out.1; omega, by rw [E2.out.2]; rfl, HS1.out⟩
              | increasing =>
                have hv : hV .increasing = 1 := rfl
                have E2 : Hid (d1 = d2 ∧ pv = c ∧ ht = .increasing) := HP.out.ndec (by intro e; cases e)
                go_wp2_with fail
                go_meet
                case rel => exact ⟨by rw [E2.out.2.1], by rw [E2.out.2.2], E2.out.1 ▸ HA2.out⟩
              | unknown =>
                have hv : hV .unknown = 0 := rfl
                have E2 : Hid (d1 = d2 ∧ pv = c ∧ ht = .unknown) := HP.out.ndec (by intro e; cases e)
                go_wp2_with fail
                go_meet
                case rel => exact ⟨by rw [E2.out.2.1], by rw [E2.out.2.2], E2.out.1 ▸ HA2.out⟩
            case rest =>
              obtain ⟨rfl, rfl, HA3⟩ := hcut
              rename World => w3
              clear HA2
              go_upto_region 15 with fail
              go_cut [12, 68] (fun s12 s68 wx => s12 = .int .i64 (hV ht) ∧ s68 = .bool (wb && wp && decide (ht = .increasing)) ∧ Hid (At w blk off d2 wx))
              case first =>
                cases wb <;> cases wp <;> cases ht <;>
                  (have v1 : hV .decreasing = 2 := rfl
                   have v2 : hV .increasing = 1 := rfl
                   have v3 : hV .unknown = 0 := rfl
                   go_wp2_with fail
                   go_meet
                   exact ⟨rfl, rfl, HA3.out⟩)
              case rest =>
                clear HA3
                obtain ⟨rfl, rfl, HA3⟩ := hcut
                rename World => w4
                obtain ⟨t, ht68⟩ : ∃ t, (wb && wp && decide (ht = .increasing)) = t := ⟨_, rfl⟩
                rw [ht68]
                have HT : Hid ((wb && wp && decide (ht = .increasing)) = t) := ht68
                clear ht68
                go_upto_if 68 with fail
                go_cut [] (fun wx => f = false ∧ Hid (At w blk off p wx))
                case first =>
                  cases t with
                  | false =>
                    have E2 : Hid (d2 = p ∧ f = false) := HP.out.npar HT.out
                    go_wp2_with fail
                    go_meet
                    case rel => exact ⟨E2.out.2, E2.out.1 ▸ HA3.out⟩
                  | true =>
                    have e1 := HP.out.par HT.out
                    have C1 : Hid (Calls Tryz.prog 131 #[.slice (some ⟨blk, off, none⟩) n cap, .int .i64 a', .int .i64 b'] w4 fun e w' => e = .returned (.bool f) ∧ At w blk off p w') :=
                      (partial_any blk off n cap a' b' d2 w4 (HA3.out.row H0.out.1 (z2.out.trans H0.out.2.symm)) z2.out (by omega) hb).mono fun e w' hp => by
                        rw [e1] at hp
                        exact ⟨hp.1, At.trans H0.out.1 HA3.out hp.2 (z3.out.trans z2.out.symm)⟩
                    clear e1
                    cases f with
                    | false =>
                      go_wp2_with (go_at_call 131; go_loud (refine C1.out.mono ?_; rintro e w9 ⟨rfl, hs1⟩; have HS1 : Hid (At w blk off p w9) := hs1; clear hs1))
                      go_meet
                      case rel => exact ⟨by trivial, HS1.out⟩
                    | true =>
                      have E3 : Hid (p = Z) := HP.out.done rfl
                      go_wp2_with (go_at_call 131; go_loud (refine C1.out.mono ?_; rintro e w9 ⟨rfl, hs1⟩; have HS1 : Hid (At w blk off p w9) := hs1; clear hs1))
                      ((try simp only [Exit.inBlock, Exit.then]); refine bodyPost_ret (results_none rfl _ _ _) rfl ?_)
                      exact ⟨rfl, E3.out ▸ HS1.out⟩
                case rest =>
                  obtain ⟨hf, HA5⟩ := hcut
                  subst hf
                  rename World => w5
                  clear HA3 HT
                  obtain ⟨G, hG, hcw, hfw⟩ := HA5.out.fam (n := n) H0.out.1 (z3.out.trans H0.out.2.symm) H0.out.2.symm
                  have HG : Hid (∀ t, G t = p[t]!) := hG
                  clear hG
                  obtain ⟨u, hu⟩ : ∃ u, (decide (a' > 0) && !ltInt p[a' - 1]! p[pv]!) = u := ⟨_, rfl⟩
                  have HU : Hid ((decide (a' > 0) && !ltInt p[a' - 1]! p[pv]!) = u) := hu
                  have HUG : Hid ((decide (a' > 0) && !ltInt (G (a' - 1)) (G pv)) = u) := by show _ = _; rw [HG.out, HG.out]; exact hu
                  clear hu
                  go_upto_region 17 with fail
                  go_cut [87] (fun s87 wx => s87 = .bool u ∧ Hid (At w blk off p wx))
                  case first =>
                    rcases Nat.eq_zero_or_pos a' with ha0 | ha0
                    · subst ha0
                      have HUF : Hid (u = false) := by have := HUG.out; show u = false; simpa using this.symm
                      clear HUG
                      go_quiet (first | (go_at_call 118; refine Calls.quiet_of_same (less_any _ _ _)))
                      go_wp2_with fail
                      go_meet
                      case rel => exact ⟨by rw [HUF.out], HA5.out.drewN _⟩
                    · have ha0z : (0 : Int) < (a' : Int) := by omega
                      cases hl : ltInt (G (a' - 1)) (G pv) with
                      | true =>
                        have HUF : Hid (u = false) := by have := HUG.out; rw [hl] at this; show u = false; simpa using this.symm
                        clear HUG
                        go_quiet (first | (go_at_call 118; refine Calls.quiet_of_same (less_any _ _ _)))
                        go_wp2_with fail
                        go_meet
                        case rel => exact ⟨by rw [HUF.out]; (try simp [hl]), HA5.out.drewN _⟩
                      | false =>
                        have HUF : Hid (u = true) := by have := HUG.out; rw [hl] at this; show u = true; simpa [ha0] using this.symm
                        clear HUG
                        go_quiet (first | (go_at_call 118; refine Calls.quiet_of_same (less_any _ _ _)))
                        go_wp2_with fail
                        go_meet
                        case rel => exact ⟨by rw [HUF.out]; (try simp [hl]), HA5.out.drewN _⟩
                  case rest =>
                    obtain ⟨rfl, HA6⟩ := hcut
                    rename World => w6
                    clear hcw hfw HA5 HUG HG
                    cases u with
                    | false =>
                      obtain ⟨m, ap, d4, e1, r1, r2, s4, B4, B5, lft, rgt⟩ := HP.out.part rfl HU.out
                      have s4' : d4.size = n := s4.trans HX.out.1
                      have C1 : Hid (Calls Tryz.prog 133 #[.slice (some ⟨blk, off, none⟩) n cap, .int .i64 a', .int .i64 b', .int .i64 pv] w6 fun e w' => e = .returned (.tuple #[.int .i64 (m : Int), .bool ap]) ∧ At w blk off d4 w') :=
                        (part_any blk off n cap a' b' pv p w6 (HA6.out.row H0.out.1 (z3.out.trans H0.out.2.symm)) z3.out hp1 hp2 hb).mono fun e w' hp => by
                          unfold PnIs at hp
                          rw [e1] at hp
                          exact ⟨hp.1, At.trans H0.out.1 HA6.out hp.2 (s4'.trans z3.out.symm)⟩
                      have HQ : Hid (d4.size = n ∧ Below ltInt a' m d4 ∧ Below ltInt (m + 1) b' d4) := ⟨s4', B4, B5⟩
                      have HLF : Hid (m - a' < b' - m → ∃ d5, pdq ltInt d4 a' m lm true true = d5 ∧ d5.size = x.size ∧ Below ltInt (m + 1) b' d5 ∧ pdq ltInt d5 (m + 1) b' lm (decide (m - a' ≥ (b' - a') / 8)) ap = Z) := lft
                      have HRG : Hid (¬ m - a' < b' - m → ∃ d5, pdq ltInt d4 (m + 1) b' lm true true = d5 ∧ d5.size = x.size ∧ Below ltInt a' m d5 ∧ pdq ltInt d5 a' m lm (decide (b' - m ≥ (b' - a') / 8)) ap = Z) := rgt
                      clear e1 s4 s4' B4 B5 lft rgt
                      go_upto_if 113 with (go_at_call 133; go_loud (refine C1.out.mono ?_; rintro e w7 ⟨rfl, hs1⟩; have HA7 : Hid (At w blk off d4 w7) := hs1; clear hs1))
                      clear C1 HA6
                      by_cases h4 : m - a' < b' - m
                      · have q4 : (m : Int) - (a' : Int) < (b' : Int) - (m : Int) := by omega
                        obtain ⟨d5, f1, f2, f3, f4⟩ := HLF.out h4
                        have C1 : Hid (Calls Tryz.prog 114 #[.slice (some ⟨blk, off, none⟩) n cap, .int .i64 a', .int .i64 m, .int .i64 lm] w7 fun e w' => e = .returned (.tuple #[]) ∧ At w blk off d5 w') :=
                          (IH.out blk off n cap a' m lm d4 w7 (by omega) (HA7.out.row H0.out.1 (HQ.out.1.trans H0.out.2.symm)) HQ.out.1 (by omega) (by omega) hlm HQ.out.2.1).mono fun e w' hp => by
                            rw [f1] at hp
                            exact ⟨hp.1, At.trans H0.out.1 HA7.out hp.2 (by rw [f2, HX.out.1, HQ.out.1])⟩
                        have HF : Hid (d5.size = n ∧ Below ltInt (m + 1) b' d5 ∧ pdq ltInt d5 (m + 1) b' lm (decide (m - a' ≥ (b' - a') / 8)) ap = Z) := ⟨f2.trans HX.out.1, f3, f4⟩
                        clear f1 f2 f3 f4
                        go_wp2_with (go_at_call 114; go_loud (refine C1.out.mono ?_; rintro e w8 ⟨rfl, hs1⟩; have HS1 : Hid (At w blk off d5 w8) := hs1; clear hs1))
                        go_roundw
                        case rel => exact ⟨m + 1, b', lm, decide (m - a' ≥ (b' - a') / 8), ap, by go_num, rfl, rfl, congrArg Value.bool (eighth_is (by omega) (by omega)), rfl, by omega, hb, by omega, hlm, d5, HF.out.1, HS1.out, HF.out.2.1, HF.out.2.2⟩
                        case measure => simp [iOf] <;> omega
                      · have q4 : ¬ (m : Int) - (a' : Int) < (b' : Int) - (m : Int) := by omega
                        obtain ⟨d5, f1, f2, f3, f4⟩ := HRG.out h4
                        have C1 : Hid (Calls Tryz.prog 114 #[.slice (some ⟨blk, off, none⟩) n cap, .int .i64 ((m : Int) + 1), .int .i64 b', .int .i64 lm] w7 fun e w' => e = .returned (.tuple #[]) ∧ At w blk off d5 w') := by
                          have := (IH.out blk off n cap (m + 1) b' lm d4 w7 (by omega) (HA7.out.row H0.out.1 (HQ.out.1.trans H0.out.2.symm)) HQ.out.1 (by omega) (by omega) hlm HQ.out.2.2)
                          rw [f1, show ((m + 1 : Nat) : Int) = (m : Int) + 1 by omega] at this
                          exact this.mono fun e w' hp => ⟨hp.1, At.trans H0.out.1 HA7.out hp.2 (by rw [f2, HX.out.1, HQ.out.1])⟩
                        have HF : Hid (d5.size = n ∧ Below ltInt a' m d5 ∧ pdq ltInt d5 a' m lm (decide (b' - m ≥ (b' - a') / 8)) ap = Z) := ⟨f2.trans HX.out.1, f3, f4⟩
                        clear f1 f2 f3 f4
                        go_wp2_with (go_at_call 114; go_loud (refine C1.out.mono ?_; rintro e w8 ⟨rfl, hs1⟩; have HS1 : Hid (At w blk off d5 w8) := hs1; clear hs1))
                        go_roundw
                        case rel => exact ⟨a', m, lm, decide (b' - m ≥ (b' - a') / 8), ap, rfl, rfl, rfl, congrArg Value.bool (eighth_is (by omega) (by omega)), rfl, by omega, by omega, by omega, hlm, d5, HF.out.1, HS1.out, HF.out.2.1, HF.out.2.2⟩
                        case measure => simp [iOf] <;> omega
                    | true =>
                      obtain ⟨m, d4, e1, r1, r2, s4, B4, f4⟩ := HP.out.eq rfl HU.out
                      have s4' : d4.size = n := s4.trans HX.out.1
                      have C1 : Hid (Calls Tryz.prog 132 #[.slice (some ⟨blk, off, none⟩) n cap, .int .i64 a', .int .i64 b', .int .i64 pv] w6 fun e w' => e = .returned (.int .i64 (m : Int)) ∧ At w blk off d4 w') :=
                        (partEq_any blk off n cap a' b' pv p w6 (HA6.out.row H0.out.1 (z3.out.trans H0.out.2.symm)) z3.out hp1 hp2 hb).mono fun e w' hp => by
                          rw [e1] at hp
                          exact ⟨hp.1, At.trans H0.out.1 HA6.out hp.2 (s4'.trans z3.out.symm)⟩
                      have HF : Hid (d4.size = n ∧ Below ltInt m b' d4 ∧ pdq ltInt d4 m b' lm wb wp = Z) := ⟨s4', B4, f4⟩
                      clear e1 s4 s4' B4 f4
                      go_wp2_with (go_at_call 132; go_loud (refine C1.out.mono ?_; rintro e w8 ⟨rfl, hs1⟩; have HS1 : Hid (At w blk off d4 w8) := hs1; clear hs1))
                      go_roundw
                      case rel => exact ⟨m, b', lm, wb, wp, rfl, rfl, rfl, rfl, rfl, by omega, hb, by omega, hlm, d4, HF.out.1, HS1.out, HF.out.2.1, HF.out.2.2⟩
                      case measure => simp [iOf] <;> omega
/-- slices.Sort of a row that isn't empty -/
theorem sort_any (blk off n cap : Nat) (d : Array Int) (w : World) (h : Row w blk off d) (hn : d.size = n) :
    Calls Tryz.prog 95 #[.slice (some ⟨blk, off, none⟩) n cap] w fun e w' => e = .returned (.tuple #[]) ∧ At w blk off (Sort.sort ltInt d) w' := by
  have hsm := h.small
  rw [hn] at hsm
  have hk : bitsLen n ≤ 62 := (bitsLen_le_iff n 62).2 (by omega)
  have HL := fun w => len_any n hsm w
  have C1 : Hid (Calls Tryz.prog 114 #[.slice (some ⟨blk, off, none⟩) n cap, .int .i64 0, .int .i64 n, .int .i64 (bitsLen n : Nat)] w fun e w' => e = .returned (.tuple #[]) ∧ At w blk off (Sort.sort ltInt d) w') := by
    have := pdq_any (n + 1) blk off n cap 0 n (bitsLen n) d w (by omega) h hn (by omega) (Nat.le_refl _) (by omega) (.inl rfl)
    unfold Sort.sort
    rw [hn]
    exact this
  clear h hn
  go_enter Tryz.func95, Tryz.ntmps95
  go_wp2_with (first
    | (go_at_call 115; refine (HL _).mono ?_; rintro e w' ⟨rfl, hw⟩; have hw2 := hw.symm; clear hw; subst hw2)
    | (go_at_call 114; go_loud (refine C1.out.mono ?_; rintro e w1 ⟨rfl, hs1⟩; have HS1 : Hid (At w blk off (Sort.sort ltInt d) w1) := hs1; clear hs1)))
  go_end0
  exact ⟨rfl, HS1.out⟩
theorem sort_list (zs : List Int) : (Sort.sort ltInt zs.toArray).toList = zs.mergeSort (fun x y => decide (x ≤ y)) := sortInt zs
end Us
end Go.Proofs.YtaejjpbpnedblaaGreat
