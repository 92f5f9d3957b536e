import Derived.Test.YtodgomgacgoliaaLi8
namespace Go.Proofs.Ytodgomgacgoliaa
namespace Lin
open Go.RowKit Go.Shelf Laws Irw
set_option linter.unusedVariables false
set_option maxRecDepth 1000000

theorem own_off {w : World} {base n c g o : Nat} {xs : List Value} {e : TypeId} {s : Nat} (h : w.ownsRow base e s (.slice (some ⟨g, o, none⟩) n c) n xs) : o = 0 := by
  rcases h.2 with ⟨h1, h2⟩ | ⟨g', cap, cur, hv, _, _, hc, _⟩
  · cases h1
  · simp only [Value.slice.injEq, Option.some.injEq, Addr.mk.injEq] at hv
    exact hv.1.2.1
theorem isI_drop {t : Nat} {T : Nat → Nat} {w : World} {g n c : Nat} {l : List Int} {k : Nat} (h : OwnL t T w (.slice (some ⟨g, 0, none⟩) n c) l) : IsI w (if c = k + 1 then some ⟨g, 0, none⟩ else some ⟨g, k + 1, none⟩) (l.drop (k + 1)) := by
  obtain ⟨h1, h2, _, h4⟩ := h.isI
  split
  · rename_i e
    rw [List.drop_eq_nil_of_le (by omega)]
    exact IsI.nil _ _
  · intro hne
    obtain ⟨b, off, e, hr⟩ := h1 (by rintro rfl; simp at hne)
    simp only [Option.some.injEq, Addr.mk.injEq] at e
    obtain ⟨rfl, rfl, _⟩ := e
    exact ⟨g, k + 1, rfl, by have := hr.drop (k + 1); simpa using this⟩

set_option maxHeartbeats 0 in
theorem fair_walk (a : Option Addr) (c : Nat) (sc : List OpD) (w : World) (ha : IsOps w a sc) :
    Calls Try.prog 7 #[.slice a sc.length c] w fun e w' => e = .returned (.bool true) ∧ Below w.heap.size w w' := by
  obtain ⟨i0, hi0, hz0, hz1, hz2⟩ := info_parts infoI
  have HA : Hid (IsOps w a sc) := ha
  clear ha
  by_cases hs : sc.length ≤ 600
  case neg =>
    have hs' : (600 : Int) < (sc.length : Int) := by omega
    go_enter Try.func7, Try.ntmps7
    go_wp2
    go_ret
    exact ⟨rfl, Below.refl _ _⟩
  have hs' : ¬ (600 : Int) < (sc.length : Int) := by omega
  go_enter Try.func7, Try.ntmps7
  go_wp2_with fail
  refine (new_any w (fun _ => 0) 1).mono ?_
  rintro e w1 ⟨rfl, hl1, hb1⟩
  have HL0 : Hid (LF w (upd (fun _ => 0) w.heap.size 1) w1 w.heap.size none 0 none 0 [] [] 0) := ⟨hl1, OwnL.nil _ _ _, OwnL.nil _ _ _, ⟨hb1, fun b hb => upd_other _ _ (by have := hl1.lt; omega)⟩, by simp, Since.nil _, by simp⟩
  generalize upd (fun _ => 0) w.heap.size 1 = T0 at *
  clear hl1 hb1
  generalize w.heap.size = p at *
  go_wp2
  go_loopw [4, 5, 6] (fun vw vs i wr => ∃ (k : Nat) (T : Nat → Nat) (aw : Option Addr) (cw : Nat) (az : Option Addr) (cs : Nat) (ls ss : List Int), vw = .slice aw ls.length cw ∧ vs = .slice az ss.length cs ∧ i = .int .i64 k ∧ k ≤ sc.length ∧ Hid (LF w T wr p aw cw az cs ls ss k)) (fun _ _ i _ => sc.length - (intOf i).toNat)
  case atStart => exact ⟨0, T0, none, 0, none, 0, [], [], rfl, rfl, rfl, Nat.zero_le _, HL0⟩
  case round =>
    obtain ⟨k, T, aw, cw, az, cs, ls, ss, rfl, rfl, rfl, hk, HL⟩ := hrel
    clear HL0
    by_cases hlt : k < sc.length
    case neg =>
      have hge : ¬ (k : Int) < (sc.length : Int) := by omega
      go_wp2
      go_ret
      exact ⟨rfl, HL.out.old.below⟩
    have hq : (k : Int) < (sc.length : Int) := by omega
    have hne : sc ≠ [] := by rintro rfl; simp at hlt
    obtain ⟨b, o, rfl, hb, hr⟩ := HA.out hne
    obtain ⟨⟨kd, n, sd⟩, hx⟩ : ∃ x, sc[k]? = some x := ⟨_, List.getElem?_eq_getElem hlt⟩
    have HBL : Hid (Below w.heap.size w wr) := HL.out.old.below
    obtain ⟨c0, c1, c2⟩ := hr k _ hx
    have e0 : wr.cell? ⟨b, o + k * 3, none⟩ = some (.int .i64 kd) := (HBL.out.cell (p := ⟨b, o + k * 3, none⟩) hb).trans c0
    have e1 : wr.cell? ⟨b, o + k * 3 + 1, none⟩ = some (.int .i64 n) := (HBL.out.cell (p := ⟨b, o + k * 3 + 1, none⟩) hb).trans c1
    have e2 : wr.cell? ⟨b, o + k * 3 + 2, none⟩ = some (.bool sd) := (HBL.out.cell (p := ⟨b, o + k * 3 + 2, none⟩) hb).trans c2
    clear c0 c1 c2 hx hne HBL
    have hlen : ls.length ≤ 600 := by have := HL.out.len; omega
    go_wp2_with fail
    refine (place_any aw cw _ ls n _ (HL.out.who.isI.1.below ((Below.refl _ _).alloc (Nat.le_refl _) _)) (by omega) rfl).mono ?_
    rintro e w2 ⟨rfl, hw2⟩
    have hb2 : Below wr.heap.size wr w2 := by rw [hw2]; exact (Below.refl _ _).alloc (Nat.le_refl _) _
    have HL2 : Hid (LF w T w2 p aw cw az cs ls ss k) := HL.out.below hb2
    have hH : wr.heap.size < w2.heap.size := by rw [hw2]; simp
    have HT : Hid (T wr.heap.size = 0) := HL.out.old.zero _ (.inr (Nat.le_refl _))
    have f0 : w2.cell? ⟨wr.heap.size, 0, none⟩ = some (.int .i64 kd) := by rw [hw2]; simp
    have f1 : w2.cell? ⟨wr.heap.size, 1, none⟩ = some (.int .i64 n) := by rw [hw2]; simp
    clear hw2 hb2 e0 e1 e2 HL
    generalize wr.heap.size = H at *
    by_cases hk1 : kd = 1
    · subst hk1
      by_cases hx : n ∈ ls
      · as_aux_lemma =>
          have HX : Hid (n ∈ ls) := hx
          obtain ⟨k0, hk0, hp0, _, _⟩ := plc_some hx
          rw [hp0]
          have hk00 : ¬ (k0 : Int) < 0 := by omega
          clear hp0 hx
          go_wp2_with fail
          refine (join_any 1 T w2 p ls n HL2.out.line (by omega)).mono ?_
          rintro e w3 ⟨rfl, T3, hl3, hg3⟩
          rw [show decide (n ∉ ls) = false by simp [HX.out]]
          have HL : Hid (LF w T3 w3 p aw cw az cs ls ss (k + 1)) := LF.next ⟨by unfold joinL at hl3; rw [if_pos HX.out] at hl3; exact hl3, HL2.out.who.goes hg3 (by omega), HL2.out.since.goes hg3 (by omega), HL2.out.old.goes hg3 (by omega), HL2.out.nd, HL2.out.si, HL2.out.len⟩
          have g0 : w3.cell? ⟨H, 0, none⟩ = some (.int .i64 1) := (hg3.cell hH (by rw [HT.out]; omega)).trans f0
          clear hl3 hg3 f0 f1 HL2 HT
          go_wp2_with fail
          refine (all_any 1 T3 w3 p ls HL.out.line (by have := HL.out.len; omega)).mono ?_
          rintro e w5 ⟨a9, c9, rfl, ho9, hb9⟩
          have HF : Hid (LF w T3 w5 p aw cw az cs ls ss (k + 1)) := HL.out.below hb9
          have HI9 : Hid (IsI w5 a9 ls) := isI_of_owns ho9 rfl
          have HSL : Hid (ss.length = ls.length) := HF.out.si.len
          have hle : ls.length ≤ k + 1 := HF.out.len
          have HC9 : Hid (ls.length ≤ c9) := own_le ho9
          clear ho9 hb9 HL
          go_wp2_with fail
          refine (first_any 1 T3 w5 p ls HF.out.line (by omega)).mono ?_
          rintro e w6 ⟨rfl, hw6⟩
          have hw7 := hw6.symm
          clear hw6
          subst hw7
          by_cases h0 : ls.length = 0
          · first
            | (exfalso; omega)
            | (
                obtain rfl : ls = [] := List.eq_nil_of_length_eq_zero h0
                obtain rfl : ss = [] := List.eq_nil_of_length_eq_zero (by rw [HSL.out]; rfl)
                clear h0 HSL
                go_wp2
                refine inner_loop w w5 T3 p aw cw az cs [] [] (k + 1) a9 c9 _ _ _ _ _ _ _ _ _ _ _ _ _ _ _ _ _ _ _ _ _ _ _ _ _ _ _ _ _ _ _ _ _ _ _ _ _ _ _ _ _ _ _ _ _ _ _ _ _ _ _ _ _ _ _ _ _ _ _ _ _ _ _ _ _ _ _ _ _ _ _ _ _ _ _ _ _ _ _ _ _ _ _ _ _ _ _ _ _ _ _ _ _ _ _ _ _ _ _ _ _ _ _ _ _ _ _ _ _ _ _ _ _ _ _ _ _ _ _ _ _ _ _ _ _ _ _ _ _ _ _ _ _ _ _ _ _ _ _ _ _ _ _ _ _ _ _ _ _ _ _ _ _ _ _ _ _ _ _ _ _ _ _ _ _ _ _ _ _ _ _ _ _ _ HF HI9 HC9 (by simp) ?_
                intro v2 v12 v127 v128 v129 v130 v131 v132 v133 v134 v135 v136 v137 v138 v139 v140 v141 v142 v143 v144 v145 v146 v147 v148 v149 v150 v151 v152 v153 v154 v155 v156 v157 v158 v159 v160 v161 v162 v163 v164 v165 v166 v167 v168 v169 v170 v171 v172 v173 v174 v175 v176 wq HF2
                clear HF HI9 HC9
                try simp only [Exit.inBlock, Exit.then]
                go_wp2
                go_roundw
                case rel => exact ⟨k + 1, T3, aw, cw, az, cs, [], [], rfl, rfl, by go_num, by omega, HF2⟩
                case measure => simp [intOf]; omega)
          · obtain ⟨b9, o9, rfl, hr9⟩ := HI9.out.at_ (by omega)
            have c90 : w5.cell? ⟨b9, o9, none⟩ = some (.int .i64 (ls.getD 0 0)) := by have := hr9.cell (i := 0) (by omega); simpa using this
            have d0 : decide (0 < ls.length) = true := by simp; omega
            have d1 : (0 : Int) < (ls.length : Int) := by omega
            have d2 : ¬ (ls.length : Int) = 0 := by omega
            rw [d0]
            clear d0 hr9
            generalize ls.getD 0 0 = y0 at c90
            go_wp2
            clear c90
            refine inner_loop w w5 T3 p aw cw az cs ls ss (k + 1) (some ⟨b9, o9, none⟩) c9 _ _ _ _ _ _ _ _ _ _ _ _ _ _ _ _ _ _ _ _ _ _ _ _ _ _ _ _ _ _ _ _ _ _ _ _ _ _ _ _ _ _ _ _ _ _ _ _ _ _ _ _ _ _ _ _ _ _ _ _ _ _ _ _ _ _ _ _ _ _ _ _ _ _ _ _ _ _ _ _ _ _ _ _ _ _ _ _ _ _ _ _ _ _ _ _ _ _ _ _ _ _ _ _ _ _ _ _ _ _ _ _ _ _ _ _ _ _ _ _ _ _ _ _ _ _ _ _ _ _ _ _ _ _ _ _ _ _ _ _ _ _ _ _ _ _ _ _ _ _ _ _ _ _ _ _ _ _ _ _ _ _ _ _ _ _ _ _ _ _ _ _ _ _ HF HI9 HC9 (by omega) ?_
            intro v2 v12 v127 v128 v129 v130 v131 v132 v133 v134 v135 v136 v137 v138 v139 v140 v141 v142 v143 v144 v145 v146 v147 v148 v149 v150 v151 v152 v153 v154 v155 v156 v157 v158 v159 v160 v161 v162 v163 v164 v165 v166 v167 v168 v169 v170 v171 v172 v173 v174 v175 v176 wq HF2
            clear HF HI9 HC9
            try simp only [Exit.inBlock, Exit.then]
            go_wp2
            go_roundw
            case rel => exact ⟨k + 1, T3, aw, cw, az, cs, ls, ss, rfl, rfl, by go_num, by omega, HF2⟩
            case measure => simp [intOf]; omega
      · as_aux_lemma =>
          have HX : Hid (n ∉ ls) := hx
          rw [plc_neg hx]
          clear hx
          go_wp2_with fail
          refine (join_any 1 T w2 p ls n HL2.out.line (by omega)).mono ?_
          rintro e w3 ⟨rfl, T3, hl3, hg3⟩
          rw [show decide (n ∉ ls) = true by simp [HX.out]]
          have HL3 : Hid (LineAt 1 T3 w3 p (ls ++ [n]) ∧ OwnL 3 T3 w3 (.slice aw ls.length cw) ls ∧ OwnL 4 T3 w3 (.slice az ss.length cs) ss ∧ Old w T3 w3) := ⟨by unfold joinL at hl3; rw [if_neg HX.out] at hl3; exact hl3, HL2.out.who.goes hg3 (by omega), HL2.out.since.goes hg3 (by omega), HL2.out.old.goes hg3 (by omega)⟩
          have g0 : w3.cell? ⟨H, 0, none⟩ = some (.int .i64 1) := (hg3.cell hH (by rw [HT.out]; omega)).trans f0
          have g1 : w3.cell? ⟨H, 1, none⟩ = some (.int .i64 n) := (hg3.cell hH (by rw [HT.out]; omega)).trans f1
          have hH3 : H < w3.heap.size := Nat.lt_of_lt_of_le hH hg3.size
          have HT3 : Hid (T3 H = 0) := (hg3.tag H hH (by rw [HT.out]; omega)).trans HT.out
          have HSI : Hid (Since (ls ++ [n]) (ss ++ [(k : Int)]) ((k + 1 : Nat) : Int) ∧ (ls ++ [n]).Nodup ∧ ss.length = ls.length) := ⟨by have := HL2.out.si.join n; simpa using this, nodup_join HL2.out.nd HX.out, HL2.out.si.len⟩
          have hsl0 : ss.length ≤ 600 := by have := HSI.out.2.2; omega
          have hll0 : ls.length ≤ k := HL2.out.len
          clear hl3 hg3 f0 f1 HL2 HT
          go_wp2_with (first
            | (at_builtin; refine wpList_appL _ (by rfl) (.tmp 66) (.tmp 69) 27 (by rfl) i0 Try.underlying27 hi0 hz0 hz1 hz2 3 T3 (.slice aw ls.length cw) ls (by rfl) (HL3.out.2.1.below ((Below.refl _ _).alloc (Nat.le_refl _) _)) (some ⟨w3.heap.size, 0, none⟩) 1 1 [n] (by rfl) (by rfl) (by simp) isI_new (by simp; omega) ?_; intro a4 c4 T4 w4 ho4 hg4 hat4; have hg4' : Goes (· = 3) T3 w3 T4 w4 := (Goes.below ((Below.refl _ _).alloc (Nat.le_refl _) _)).trans hg4; have HL4 : Hid (LineAt 1 T4 w4 p (ls ++ [n]) ∧ OwnL 3 T4 w4 (.slice a4 (ls.length + 1) c4) (ls ++ [n]) ∧ OwnL 4 T4 w4 (.slice az ss.length cs) ss ∧ Old w T4 w4) := ⟨HL3.out.1.goes hg4' (by omega) (by omega), ho4, HL3.out.2.2.1.goes hg4' (by omega), HL3.out.2.2.2.goes hg4' (by omega)⟩; have g40 : w4.cell? ⟨H, 0, none⟩ = some (.int .i64 1) := (hg4'.cell hH3 (by rw [HT3.out]; omega)).trans g0; have hH4 : H < w4.heap.size := Nat.lt_of_lt_of_le hH3 hg4'.size; have HT4 : Hid (T4 H = 0) := (hg4'.tag H hH3 (by rw [HT3.out]; omega)).trans HT3.out; clear ho4 hg4 hat4 hg4' HL3 g0 g1 hH3 HT3)
            | (at_builtin; refine wpList_appL _ (by rfl) (.tmp 71) (.tmp 73) 27 (by rfl) i0 Try.underlying27 hi0 hz0 hz1 hz2 4 T4 (.slice az ss.length cs) ss (by rfl) (HL4.out.2.2.1.below ((Below.refl _ _).alloc (Nat.le_refl _) _)) (some ⟨w4.heap.size, 0, none⟩) 1 1 [(k : Int)] (by rfl) (by rfl) (by simp) isI_new (by simp; omega) ?_; intro a6 c6 T6 w6 ho6 hg6 hat6; have hg6' : Goes (· = 4) T4 w4 T6 w6 := (Goes.below ((Below.refl _ _).alloc (Nat.le_refl _) _)).trans hg6; have HL6 : Hid (LineAt 1 T6 w6 p (ls ++ [n]) ∧ OwnL 3 T6 w6 (.slice a4 (ls.length + 1) c4) (ls ++ [n]) ∧ OwnL 4 T6 w6 (.slice a6 (ss.length + 1) c6) (ss ++ [(k : Int)]) ∧ Old w T6 w6) := ⟨HL4.out.1.goes hg6' (by omega) (by omega), HL4.out.2.1.goes hg6' (by omega), ho6, HL4.out.2.2.2.goes hg6' (by omega)⟩; have g60 : w6.cell? ⟨H, 0, none⟩ = some (.int .i64 1) := (hg6'.cell hH4 (by rw [HT4.out]; omega)).trans g40; clear ho6 hg6 hat6 hg6' HL4 g40 hH4 HT4))
          have HLn : Hid ((ls ++ [n]).length = ls.length + 1 ∧ (ss ++ [(k : Int)]).length = ss.length + 1) := ⟨by simp, by simp⟩
          generalize ls ++ [n] = LS at *
          generalize ss ++ [(k : Int)] = SS at *
          generalize hnw : ls.length + 1 = nw at *
          generalize ss.length + 1 = ns at *
          obtain ⟨hn1, hn2⟩ := HLn.out
          have HL : Hid (LF w T6 w6 p a4 c4 a6 c6 LS SS (k + 1)) := ⟨HL6.out.1, by rw [hn1]; exact HL6.out.2.1, by rw [hn2]; exact HL6.out.2.2.1, HL6.out.2.2.2, HSI.out.2.1, HSI.out.1, by omega⟩
          subst hn1
          subst hn2
          clear HL6 HSI HLn g60
          refine (all_any 1 T6 w6 p LS HL.out.line (by have := HL.out.len; omega)).mono ?_
          rintro e w5 ⟨a9, c9, rfl, ho9, hb9⟩
          have HF : Hid (LF w T6 w5 p a4 c4 a6 c6 LS SS (k + 1)) := HL.out.below hb9
          have HI9 : Hid (IsI w5 a9 LS) := isI_of_owns ho9 rfl
          have HSL : Hid (SS.length = LS.length) := HF.out.si.len
          have hle : LS.length ≤ k + 1 := HF.out.len
          have HC9 : Hid (LS.length ≤ c9) := own_le ho9
          clear ho9 hb9 HL
          go_wp2_with fail
          refine (first_any 1 T6 w5 p LS HF.out.line (by omega)).mono ?_
          rintro e w6 ⟨rfl, hw6⟩
          have hw7 := hw6.symm
          clear hw6
          subst hw7
          by_cases h0 : LS.length = 0
          · first
            | (exfalso; omega)
            | (
                obtain rfl : LS = [] := List.eq_nil_of_length_eq_zero h0
                obtain rfl : SS = [] := List.eq_nil_of_length_eq_zero (by rw [HSL.out]; rfl)
                clear h0 HSL
                go_wp2
                refine inner_loop w w5 T6 p a4 c4 a6 c6 [] [] (k + 1) a9 c9 _ _ _ _ _ _ _ _ _ _ _ _ _ _ _ _ _ _ _ _ _ _ _ _ _ _ _ _ _ _ _ _ _ _ _ _ _ _ _ _ _ _ _ _ _ _ _ _ _ _ _ _ _ _ _ _ _ _ _ _ _ _ _ _ _ _ _ _ _ _ _ _ _ _ _ _ _ _ _ _ _ _ _ _ _ _ _ _ _ _ _ _ _ _ _ _ _ _ _ _ _ _ _ _ _ _ _ _ _ _ _ _ _ _ _ _ _ _ _ _ _ _ _ _ _ _ _ _ _ _ _ _ _ _ _ _ _ _ _ _ _ _ _ _ _ _ _ _ _ _ _ _ _ _ _ _ _ _ _ _ _ _ _ _ _ _ _ _ _ _ _ _ _ _ HF HI9 HC9 (by simp) ?_
                intro v2 v12 v127 v128 v129 v130 v131 v132 v133 v134 v135 v136 v137 v138 v139 v140 v141 v142 v143 v144 v145 v146 v147 v148 v149 v150 v151 v152 v153 v154 v155 v156 v157 v158 v159 v160 v161 v162 v163 v164 v165 v166 v167 v168 v169 v170 v171 v172 v173 v174 v175 v176 wq HF2
                clear HF HI9 HC9
                try simp only [Exit.inBlock, Exit.then]
                go_wp2
                go_roundw
                case rel => exact ⟨k + 1, T6, a4, c4, a6, c6, [], [], rfl, rfl, by go_num, by omega, HF2⟩
                case measure => simp [intOf]; omega)
          · obtain ⟨b9, o9, rfl, hr9⟩ := HI9.out.at_ (by omega)
            have c90 : w5.cell? ⟨b9, o9, none⟩ = some (.int .i64 (LS.getD 0 0)) := by have := hr9.cell (i := 0) (by omega); simpa using this
            have d0 : decide (0 < LS.length) = true := by simp; omega
            have d1 : (0 : Int) < (LS.length : Int) := by omega
            have d2 : ¬ (LS.length : Int) = 0 := by omega
            rw [d0]
            clear d0 hr9
            generalize LS.getD 0 0 = y0 at c90
            go_wp2
            clear c90
            refine inner_loop w w5 T6 p a4 c4 a6 c6 LS SS (k + 1) (some ⟨b9, o9, none⟩) c9 _ _ _ _ _ _ _ _ _ _ _ _ _ _ _ _ _ _ _ _ _ _ _ _ _ _ _ _ _ _ _ _ _ _ _ _ _ _ _ _ _ _ _ _ _ _ _ _ _ _ _ _ _ _ _ _ _ _ _ _ _ _ _ _ _ _ _ _ _ _ _ _ _ _ _ _ _ _ _ _ _ _ _ _ _ _ _ _ _ _ _ _ _ _ _ _ _ _ _ _ _ _ _ _ _ _ _ _ _ _ _ _ _ _ _ _ _ _ _ _ _ _ _ _ _ _ _ _ _ _ _ _ _ _ _ _ _ _ _ _ _ _ _ _ _ _ _ _ _ _ _ _ _ _ _ _ _ _ _ _ _ _ _ _ _ _ _ _ _ _ _ _ _ _ HF HI9 HC9 (by omega) ?_
            intro v2 v12 v127 v128 v129 v130 v131 v132 v133 v134 v135 v136 v137 v138 v139 v140 v141 v142 v143 v144 v145 v146 v147 v148 v149 v150 v151 v152 v153 v154 v155 v156 v157 v158 v159 v160 v161 v162 v163 v164 v165 v166 v167 v168 v169 v170 v171 v172 v173 v174 v175 v176 wq HF2
            clear HF HI9 HC9
            try simp only [Exit.inBlock, Exit.then]
            go_wp2
            go_roundw
            case rel => exact ⟨k + 1, T6, a4, c4, a6, c6, LS, SS, rfl, rfl, by go_num, by omega, HF2⟩
            case measure => simp [intOf]; omega
    · by_cases hk3 : kd = 3
      · subst hk3
        by_cases hx : n ∈ ls
        · have HX : Hid (n ∈ ls) := hx
          obtain ⟨k0, hk0, hp0, _, _⟩ := plc_some hx
          have HP0 : Hid (plc ls n = k0) := hp0
          rw [hp0]
          have hk00 : ¬ (k0 : Int) < 0 := by omega
          clear hp0 hx
          go_wp2_with fail
          refine (leave_any 1 T w2 p ls n HL2.out.line (by omega)).mono ?_
          rintro e w3 ⟨rfl, T3, hl3, hg3⟩
          rw [show decide (n ∈ ls) = true by simp [HX.out]]
          have HSE : Hid (ss.length = ls.length) := HL2.out.si.len
          obtain ⟨gw, ow, haw, hrw0⟩ := HL2.out.who.isI.1.at_ (by omega)
          obtain ⟨gz, oz, haz, hrz0⟩ := HL2.out.since.isI.1.at_ (by rw [HSE.out]; omega)
          subst haw
          subst haz
          obtain rfl := own_off HL2.out.who.1
          obtain rfl := own_off HL2.out.since.1
          clear hrw0 hrz0
          obtain ⟨LS, HLS⟩ : ∃ LS, Hid (LS = ls.eraseIdx k0) := ⟨_, rfl⟩
          obtain ⟨SS, HSS⟩ : ∃ SS, Hid (SS = ss.eraseIdx k0) := ⟨_, rfl⟩
          have HL3 : Hid (LineAt 1 T3 w3 p LS ∧ OwnL 3 T3 w3 (.slice (some ⟨gw, 0, none⟩) ls.length cw) ls ∧ OwnL 4 T3 w3 (.slice (some ⟨gz, 0, none⟩) ss.length cs) ss ∧ Old w T3 w3) := ⟨by unfold leaveL at hl3; rw [if_pos HX.out, HP0.out, Int.toNat_natCast, ← HLS.out] at hl3; exact hl3, HL2.out.who.goes hg3 (by omega), HL2.out.since.goes hg3 (by omega), HL2.out.old.goes hg3 (by omega)⟩
          have g0 : w3.cell? ⟨H, 0, none⟩ = some (.int .i64 3) := (hg3.cell hH (by rw [HT.out]; omega)).trans f0
          have HSI : Hid (Since LS SS ((k + 1 : Nat) : Int) ∧ LS.Nodup ∧ LS.length ≤ k + 1) := ⟨by rw [HLS.out, HSS.out]; have := HL2.out.si.leave k0; simpa using this, by rw [HLS.out]; exact HL2.out.nd.sublist (List.eraseIdx_sublist _ _), by rw [HLS.out]; have := HL2.out.len; have := List.length_eraseIdx_le (l := ls) (i := k0); omega⟩
          have hlw : (ls.take k0).length + (ls.drop (k0 + 1)).length = LS.length := by rw [HLS.out, erase_eq]; simp
          have hlz : (ss.take k0).length + (ss.drop (k0 + 1)).length = SS.length := by rw [HSS.out, erase_eq]; simp
          have HLW : Hid (_ ∧ _) := ⟨hlw, hlz⟩
          have HSE6 : Hid (ss.length ≤ 600 ∧ k0 + 1 ≤ ss.length) := by have := HSE.out; exact ⟨by omega, by omega⟩
          clear hlw hlz
          have hcw : ls.length ≤ cw := HL2.out.who.isI.2.2.2
          have hcs : ss.length ≤ cs := HL2.out.since.isI.2.2.2
          have q1 : (k0 : Int) ≤ (cw : Int) := by omega
          have q2 : (k0 : Int) ≤ (cs : Int) := by have := HSE.out; omega
          have q3 : (k0 : Int) + 1 ≤ (ls.length : Int) := by omega
          have q4 : (k0 : Int) + 1 ≤ (ss.length : Int) := by rw [HSE.out]; omega
          have q5 : IntKind.i64.wrap ((k0 : Int) + 1) = (k0 : Int) + 1 := IntWalk.i64_in _ (by omega)
          have q6 : (0 : Int) ≤ (k0 : Int) := by omega
          have q7 : (0 : Int) ≤ (k0 : Int) + 1 := by omega
          clear hl3 hg3 f0 f1 HL2 HT hH
          go_wp2
          go_region_law (first
            | (refine step_appL _ (by rfl) (.tmp 84) (.tmp 88) 27 (by rfl) i0 Try.underlying27 hi0 hz0 hz1 hz2 3 T3 (.slice (some ⟨gw, 0, none⟩) k0 cw) (ls.take k0) (by simp [Act.eval, Act.put]) (HL3.out.2.1.cut (by have := HSE6.out; omega)) (if cw = k0 + 1 then some ⟨gw, 0, none⟩ else some ⟨gw, k0 + 1, none⟩) (ls.length - (k0 + 1)) (cw - (k0 + 1)) (ls.drop (k0 + 1)) (by simp [Act.eval, Act.put]; try (split <;> simp_all)) (by simp) (by split <;> simp) (isI_drop HL3.out.2.1) (by have := HSE6.out; simp; omega) ?_; intro a4 c4 T4 w4 ho hg hat; rw [HLW.out.1] at ho ⊢; rw [← erase_eq, ← HLS.out] at ho; have hg' : Goes (· = 3) T3 w3 T4 w4 := ⟨hg.os, hg.tape, hg.output, hg.size, hg.block, hg.tag, hg.high⟩; have HL4 : Hid (LineAt 1 T4 w4 p LS ∧ OwnL 3 T4 w4 (.slice a4 LS.length c4) LS ∧ OwnL 4 T4 w4 (.slice (some ⟨gz, 0, none⟩) ss.length cs) ss ∧ Old w T4 w4) := ⟨HL3.out.1.goes hg' (by omega) (by omega), ho, HL3.out.2.2.1.goes hg' (by omega), HL3.out.2.2.2.goes hg' (by omega)⟩; clear ho hg hat hg'))
          clear HL3 g0
          generalize (if cw = k0 + 1 then some (⟨gw, 0, none⟩ : Addr) else some ⟨gw, k0 + 1, none⟩) = zz1
          go_wp2
          go_region_law (first
            | (refine step_appL _ (by rfl) (.tmp 92) (.tmp 96) 27 (by rfl) i0 Try.underlying27 hi0 hz0 hz1 hz2 4 T4 (.slice (some ⟨gz, 0, none⟩) k0 cs) (ss.take k0) (by simp [Act.eval, Act.put]) (HL4.out.2.2.1.cut (by have := HSE6.out; omega)) (if cs = k0 + 1 then some ⟨gz, 0, none⟩ else some ⟨gz, k0 + 1, none⟩) (ss.length - (k0 + 1)) (cs - (k0 + 1)) (ss.drop (k0 + 1)) (by simp [Act.eval, Act.put]; try (split <;> simp_all)) (by simp) (by split <;> simp) (isI_drop HL4.out.2.2.1) (by have := HSE6.out; simp; omega) ?_; intro a6 c6 T6 w6 ho hg hat; rw [HLW.out.2] at ho ⊢; rw [← erase_eq, ← HSS.out] at ho; have hg' : Goes (· = 4) T4 w4 T6 w6 := ⟨hg.os, hg.tape, hg.output, hg.size, hg.block, hg.tag, hg.high⟩; have HL : Hid (LF w T6 w6 p a4 c4 a6 c6 LS SS (k + 1)) := ⟨HL4.out.1.goes hg' (by omega) (by omega), HL4.out.2.1.goes hg' (by omega), ho, HL4.out.2.2.2.goes hg' (by omega), HSI.out.2.1, HSI.out.1, HSI.out.2.2⟩; clear ho hg hat hg'))
          clear HL4 HSI HLW HLS HSS HSE HSE6
          generalize (if cs = k0 + 1 then some (⟨gz, 0, none⟩ : Addr) else some ⟨gz, k0 + 1, none⟩) = zz2
          go_wp2_with fail
          refine (all_any 1 T6 w6 p LS HL.out.line (by have := HL.out.len; omega)).mono ?_
          rintro e w5 ⟨a9, c9, rfl, ho9, hb9⟩
          have HF : Hid (LF w T6 w5 p a4 c4 a6 c6 LS SS (k + 1)) := HL.out.below hb9
          have HI9 : Hid (IsI w5 a9 LS) := isI_of_owns ho9 rfl
          have HSL : Hid (SS.length = LS.length) := HF.out.si.len
          have hle : LS.length ≤ k + 1 := HF.out.len
          have HC9 : Hid (LS.length ≤ c9) := own_le ho9
          clear ho9 hb9 HL
          go_wp2_with fail
          refine (first_any 1 T6 w5 p LS HF.out.line (by omega)).mono ?_
          rintro e w6 ⟨rfl, hw6⟩
          have hw7 := hw6.symm
          clear hw6
          subst hw7
          by_cases h0 : LS.length = 0
          · obtain rfl : LS = [] := List.eq_nil_of_length_eq_zero h0
            obtain rfl : SS = [] := List.eq_nil_of_length_eq_zero (by rw [HSL.out]; rfl)
            clear h0 HSL
            go_wp2
            go_loopw [12] (fun j wr => ∃ q : Nat, wr = w5.drewN q ∧ j = .int .i64 0) (fun _ _ => 0)
            case atStart => exact ⟨0, rfl, rfl⟩
            case round =>
              obtain ⟨q, rfl, rfl⟩ := hrel
              go_wp2
              go_roundw
              case rel => exact ⟨k + 1, T6, a4, c4, a6, c6, [], [], rfl, rfl, by go_num, by omega, HF.out.below (below_drewN (Below.refl _ _) _)⟩
              case measure => simp [intOf]; omega
          · obtain ⟨b9, o9, rfl, hr9⟩ := HI9.out.at_ (by omega)
            have c90 : w5.cell? ⟨b9, o9, none⟩ = some (.int .i64 (LS.getD 0 0)) := by have := hr9.cell (i := 0) (by omega); simpa using this
            have d0 : decide (0 < LS.length) = true := by simp; omega
            have d1 : (0 : Int) < (LS.length : Int) := by omega
            have d2 : ¬ (LS.length : Int) = 0 := by omega
            rw [d0]
            clear d0
            have HR9 : Hid (IRow w5 b9 o9 LS) := hr9
            clear hr9
            generalize LS.getD 0 0 = y0 at c90
            go_wp2
            clear c90
            clear HI9
            go_loopw [12] (fun j wr => ∃ j' : Nat, j = .int .i64 j' ∧ j' ≤ LS.length ∧ Hid (LF w T6 wr p a4 c4 a6 c6 LS SS (k + 1)) ∧ Hid (IRow wr b9 o9 LS)) (fun j _ => LS.length - (intOf j).toNat)
            case atStart => exact ⟨0, rfl, Nat.zero_le _, HF, HR9⟩
            case round =>
              clear HF HR9
              obtain ⟨j, rfl, hj, HF, HR9⟩ := hrel
              by_cases hlt : j < LS.length
              · have hq : (j : Int) < (LS.length : Int) := by omega
                have hqs : (j : Int) < (SS.length : Int) := by rw [HSL.out]; exact hq
                have hqc : (j : Int) ≤ (c9 : Int) := by have := HC9.out; omega
                have HP1 : Hid (∀ m, Calls Try.prog 27 #[.slice (some ⟨b9, o9, none⟩) j c9, .int .i64 (LS.getD j 0)] (wr.drewN m) fun e w' => e = .returned (.int .i64 (-1)) ∧ w' = wr.drewN m) := fun m => place_eq _ _ _ (LS.take j) _ _ _ ((IsI.of HR9.out).take j) (by simp; omega) (by simp; omega) (plc_ahead HF.out.nd hlt)
                have HP2 : Hid (∀ m, Calls Try.prog 27 #[.slice a4 LS.length c4, .int .i64 (LS.getD j 0)] (wr.drewN m) fun e w' => e = .returned (.int .i64 j) ∧ w' = wr.drewN m) := fun m => place_eq _ _ _ LS _ _ _ HF.out.who.isI.1 (by omega) rfl (plc_at HF.out.nd hlt)
                have cx : wr.cell? ⟨b9, o9 + j, none⟩ = some (.int .i64 (LS.getD j 0)) := HR9.out.cell hlt
                obtain ⟨bz, oz, hz, hrz⟩ := HF.out.since.isI.1.at_ (by rw [HSL.out]; omega)
                have cz : wr.cell? ⟨bz, oz + j, none⟩ = some (.int .i64 (SS.getD j 0)) := hrz.cell (by rw [HSL.out]; omega)
                subst hz
                by_cases hj0 : j = 0
                · subst hj0
                  rw [Nat.add_zero] at cx cz
                  generalize LS.getD 0 0 = x at HP1 HP2 cx
                  generalize SS.getD 0 0 = z at cz
                  go_wp2
                  go_quiet (first | (go_at_call_of 27 c9; exact Calls.quiet_of_same (HP1.out _)) | (go_at_call_of 27 x; exact Calls.quiet_of_same (HP2.out _)))
                  go_wp2
                  go_roundw
                  case rel => exact ⟨1, by go_num, by omega, HF.out.below (below_drewN (Below.refl _ _) _), HR9.out.below (below_drewN (Below.refl _ _) _) HR9.out.1⟩
                  case measure => simp [intOf]; omega
                · have hj1 : 0 < (j : Int) := by omega
                  have hjn : 0 < j := by omega
                  have hd1 : decide ((0 : Int) < (j : Int)) = true := decide_eq_true hj1
                  have hd2 : decide (0 < j) = true := decide_eq_true hjn
                  have hw1 : IntKind.i64.wrap ((j : Int) - 1) = ((j - 1 : Nat) : Int) := by rw [IntWalk.i64_in _ (by omega)]; omega
                  have hq1 : ((j - 1 : Nat) : Int) < (LS.length : Int) := by omega
                  have hqs1 : ((j - 1 : Nat) : Int) < (SS.length : Int) := by rw [HSL.out]; exact hq1
                  have HP3 : Hid (∀ m, Calls Try.prog 27 #[.slice a4 LS.length c4, .int .i64 (LS.getD (j - 1) 0)] (wr.drewN m) fun e w' => e = .returned (.int .i64 ((j - 1 : Nat) : Int)) ∧ w' = wr.drewN m) := fun m => place_eq _ _ _ LS _ _ _ HF.out.who.isI.1 (by omega) rfl (plc_at HF.out.nd (by omega))
                  have cy : wr.cell? ⟨b9, o9 + (j - 1), none⟩ = some (.int .i64 (LS.getD (j - 1) 0)) := HR9.out.cell (by omega)
                  have cz1 : wr.cell? ⟨bz, oz + (j - 1), none⟩ = some (.int .i64 (SS.getD (j - 1) 0)) := hrz.cell (by rw [HSL.out]; omega)
                  have hss : ¬ SS.getD j 0 < SS.getD (j - 1) 0 := HF.out.si.rise (by omega) hlt
                  have HNE : Hid (LS.getD j 0 ≠ LS.getD (j - 1) 0) := fun e => by
                    have h1 := plc_at HF.out.nd hlt
                    have h2 := plc_at HF.out.nd (show j - 1 < LS.length by omega)
                    rw [e, h2] at h1
                    omega
                  generalize LS.getD j 0 = x at *
                  generalize LS.getD (j - 1) 0 = y at *
                  generalize SS.getD j 0 = z at *
                  generalize SS.getD (j - 1) 0 = z1 at *
                  generalize j - 1 = j1 at *
                  go_wp2
                  go_quiet (first | (go_at_call_of 27 c9; exact Calls.quiet_of_same (HP1.out _)) | (go_at_call_of 27 y; exact Calls.quiet_of_same (HP3.out _)) | (go_at_call_of 27 x; exact Calls.quiet_of_same (HP2.out _)))
                  go_wp2
                  go_roundw
                  case rel => exact ⟨j + 1, by go_num, by omega, HF.out.below (below_drewN (Below.refl _ _) _), HR9.out.below (below_drewN (Below.refl _ _) _) HR9.out.1⟩
                  case measure => simp [intOf]; omega
              · go_wp2
                go_roundw
                case rel => exact ⟨k + 1, T6, a4, c4, a6, c6, LS, SS, rfl, rfl, by go_num, by omega, HF⟩
                case measure => simp [intOf]; omega
        · as_aux_lemma =>
            have HX : Hid (n ∉ ls) := hx
            rw [plc_neg hx]
            clear hx
            go_wp2_with fail
            refine (leave_any 1 T w2 p ls n HL2.out.line (by omega)).mono ?_
            rintro e w3 ⟨rfl, T3, hl3, hg3⟩
            rw [show decide (n ∈ ls) = false by simp [HX.out]]
            have HL : Hid (LF w T3 w3 p aw cw az cs ls ss (k + 1)) := LF.next ⟨by unfold leaveL at hl3; rw [if_neg HX.out] at hl3; exact hl3, HL2.out.who.goes hg3 (by omega), HL2.out.since.goes hg3 (by omega), HL2.out.old.goes hg3 (by omega), HL2.out.nd, HL2.out.si, HL2.out.len⟩
            have g0 : w3.cell? ⟨H, 0, none⟩ = some (.int .i64 3) := (hg3.cell hH (by rw [HT.out]; omega)).trans f0
            clear hl3 hg3 f0 f1 HL2 HT
            go_wp2_with fail
            refine (all_any 1 T3 w3 p ls HL.out.line (by have := HL.out.len; omega)).mono ?_
            rintro e w5 ⟨a9, c9, rfl, ho9, hb9⟩
            have HF : Hid (LF w T3 w5 p aw cw az cs ls ss (k + 1)) := HL.out.below hb9
            have HI9 : Hid (IsI w5 a9 ls) := isI_of_owns ho9 rfl
            have HSL : Hid (ss.length = ls.length) := HF.out.si.len
            have hle : ls.length ≤ k + 1 := HF.out.len
            have HC9 : Hid (ls.length ≤ c9) := own_le ho9
            clear ho9 hb9 HL
            go_wp2_with fail
            refine (first_any 1 T3 w5 p ls HF.out.line (by omega)).mono ?_
            rintro e w6 ⟨rfl, hw6⟩
            have hw7 := hw6.symm
            clear hw6
            subst hw7
            by_cases h0 : ls.length = 0
            · first
              | (exfalso; omega)
              | (
                  obtain rfl : ls = [] := List.eq_nil_of_length_eq_zero h0
                  obtain rfl : ss = [] := List.eq_nil_of_length_eq_zero (by rw [HSL.out]; rfl)
                  clear h0 HSL
                  go_wp2
                  refine inner_loop w w5 T3 p aw cw az cs [] [] (k + 1) a9 c9 _ _ _ _ _ _ _ _ _ _ _ _ _ _ _ _ _ _ _ _ _ _ _ _ _ _ _ _ _ _ _ _ _ _ _ _ _ _ _ _ _ _ _ _ _ _ _ _ _ _ _ _ _ _ _ _ _ _ _ _ _ _ _ _ _ _ _ _ _ _ _ _ _ _ _ _ _ _ _ _ _ _ _ _ _ _ _ _ _ _ _ _ _ _ _ _ _ _ _ _ _ _ _ _ _ _ _ _ _ _ _ _ _ _ _ _ _ _ _ _ _ _ _ _ _ _ _ _ _ _ _ _ _ _ _ _ _ _ _ _ _ _ _ _ _ _ _ _ _ _ _ _ _ _ _ _ _ _ _ _ _ _ _ _ _ _ _ _ _ _ _ _ _ _ HF HI9 HC9 (by simp) ?_
                  intro v2 v12 v127 v128 v129 v130 v131 v132 v133 v134 v135 v136 v137 v138 v139 v140 v141 v142 v143 v144 v145 v146 v147 v148 v149 v150 v151 v152 v153 v154 v155 v156 v157 v158 v159 v160 v161 v162 v163 v164 v165 v166 v167 v168 v169 v170 v171 v172 v173 v174 v175 v176 wq HF2
                  clear HF HI9 HC9
                  try simp only [Exit.inBlock, Exit.then]
                  go_wp2
                  go_roundw
                  case rel => exact ⟨k + 1, T3, aw, cw, az, cs, [], [], rfl, rfl, by go_num, by omega, HF2⟩
                  case measure => simp [intOf]; omega)
            · obtain ⟨b9, o9, rfl, hr9⟩ := HI9.out.at_ (by omega)
              have c90 : w5.cell? ⟨b9, o9, none⟩ = some (.int .i64 (ls.getD 0 0)) := by have := hr9.cell (i := 0) (by omega); simpa using this
              have d0 : decide (0 < ls.length) = true := by simp; omega
              have d1 : (0 : Int) < (ls.length : Int) := by omega
              have d2 : ¬ (ls.length : Int) = 0 := by omega
              rw [d0]
              clear d0 hr9
              generalize ls.getD 0 0 = y0 at c90
              go_wp2
              clear c90
              refine inner_loop w w5 T3 p aw cw az cs ls ss (k + 1) (some ⟨b9, o9, none⟩) c9 _ _ _ _ _ _ _ _ _ _ _ _ _ _ _ _ _ _ _ _ _ _ _ _ _ _ _ _ _ _ _ _ _ _ _ _ _ _ _ _ _ _ _ _ _ _ _ _ _ _ _ _ _ _ _ _ _ _ _ _ _ _ _ _ _ _ _ _ _ _ _ _ _ _ _ _ _ _ _ _ _ _ _ _ _ _ _ _ _ _ _ _ _ _ _ _ _ _ _ _ _ _ _ _ _ _ _ _ _ _ _ _ _ _ _ _ _ _ _ _ _ _ _ _ _ _ _ _ _ _ _ _ _ _ _ _ _ _ _ _ _ _ _ _ _ _ _ _ _ _ _ _ _ _ _ _ _ _ _ _ _ _ _ _ _ _ _ _ _ _ _ _ _ _ HF HI9 HC9 (by omega) ?_
              intro v2 v12 v127 v128 v129 v130 v131 v132 v133 v134 v135 v136 v137 v138 v139 v140 v141 v142 v143 v144 v145 v146 v147 v148 v149 v150 v151 v152 v153 v154 v155 v156 v157 v158 v159 v160 v161 v162 v163 v164 v165 v166 v167 v168 v169 v170 v171 v172 v173 v174 v175 v176 wq HF2
              clear HF HI9 HC9
              try simp only [Exit.inBlock, Exit.then]
              go_wp2
              go_roundw
              case rel => exact ⟨k + 1, T3, aw, cw, az, cs, ls, ss, rfl, rfl, by go_num, by omega, HF2⟩
              case measure => simp [intOf]; omega
      · as_aux_lemma =>
          have HL : Hid (LF w T w2 p aw cw az cs ls ss (k + 1)) := HL2.out.next
          clear HL2
          go_wp2_with fail
          refine (all_any 1 T w2 p ls HL.out.line (by have := HL.out.len; omega)).mono ?_
          rintro e w5 ⟨a9, c9, rfl, ho9, hb9⟩
          have HF : Hid (LF w T w5 p aw cw az cs ls ss (k + 1)) := HL.out.below hb9
          have HI9 : Hid (IsI w5 a9 ls) := isI_of_owns ho9 rfl
          have HSL : Hid (ss.length = ls.length) := HF.out.si.len
          have hle : ls.length ≤ k + 1 := HF.out.len
          have HC9 : Hid (ls.length ≤ c9) := own_le ho9
          clear ho9 hb9 HL
          go_wp2_with fail
          refine (first_any 1 T w5 p ls HF.out.line (by omega)).mono ?_
          rintro e w6 ⟨rfl, hw6⟩
          have hw7 := hw6.symm
          clear hw6
          subst hw7
          by_cases h0 : ls.length = 0
          · first
            | (exfalso; omega)
            | (
                obtain rfl : ls = [] := List.eq_nil_of_length_eq_zero h0
                obtain rfl : ss = [] := List.eq_nil_of_length_eq_zero (by rw [HSL.out]; rfl)
                clear h0 HSL
                go_wp2
                refine inner_loop w w5 T p aw cw az cs [] [] (k + 1) a9 c9 _ _ _ _ _ _ _ _ _ _ _ _ _ _ _ _ _ _ _ _ _ _ _ _ _ _ _ _ _ _ _ _ _ _ _ _ _ _ _ _ _ _ _ _ _ _ _ _ _ _ _ _ _ _ _ _ _ _ _ _ _ _ _ _ _ _ _ _ _ _ _ _ _ _ _ _ _ _ _ _ _ _ _ _ _ _ _ _ _ _ _ _ _ _ _ _ _ _ _ _ _ _ _ _ _ _ _ _ _ _ _ _ _ _ _ _ _ _ _ _ _ _ _ _ _ _ _ _ _ _ _ _ _ _ _ _ _ _ _ _ _ _ _ _ _ _ _ _ _ _ _ _ _ _ _ _ _ _ _ _ _ _ _ _ _ _ _ _ _ _ _ _ _ _ HF HI9 HC9 (by simp) ?_
                intro v2 v12 v127 v128 v129 v130 v131 v132 v133 v134 v135 v136 v137 v138 v139 v140 v141 v142 v143 v144 v145 v146 v147 v148 v149 v150 v151 v152 v153 v154 v155 v156 v157 v158 v159 v160 v161 v162 v163 v164 v165 v166 v167 v168 v169 v170 v171 v172 v173 v174 v175 v176 wq HF2
                clear HF HI9 HC9
                try simp only [Exit.inBlock, Exit.then]
                go_wp2
                go_roundw
                case rel => exact ⟨k + 1, T, aw, cw, az, cs, [], [], rfl, rfl, by go_num, by omega, HF2⟩
                case measure => simp [intOf]; omega)
          · obtain ⟨b9, o9, rfl, hr9⟩ := HI9.out.at_ (by omega)
            have c90 : w5.cell? ⟨b9, o9, none⟩ = some (.int .i64 (ls.getD 0 0)) := by have := hr9.cell (i := 0) (by omega); simpa using this
            have d0 : decide (0 < ls.length) = true := by simp; omega
            have d1 : (0 : Int) < (ls.length : Int) := by omega
            have d2 : ¬ (ls.length : Int) = 0 := by omega
            rw [d0]
            clear d0 hr9
            generalize ls.getD 0 0 = y0 at c90
            go_wp2
            clear c90
            refine inner_loop w w5 T p aw cw az cs ls ss (k + 1) (some ⟨b9, o9, none⟩) c9 _ _ _ _ _ _ _ _ _ _ _ _ _ _ _ _ _ _ _ _ _ _ _ _ _ _ _ _ _ _ _ _ _ _ _ _ _ _ _ _ _ _ _ _ _ _ _ _ _ _ _ _ _ _ _ _ _ _ _ _ _ _ _ _ _ _ _ _ _ _ _ _ _ _ _ _ _ _ _ _ _ _ _ _ _ _ _ _ _ _ _ _ _ _ _ _ _ _ _ _ _ _ _ _ _ _ _ _ _ _ _ _ _ _ _ _ _ _ _ _ _ _ _ _ _ _ _ _ _ _ _ _ _ _ _ _ _ _ _ _ _ _ _ _ _ _ _ _ _ _ _ _ _ _ _ _ _ _ _ _ _ _ _ _ _ _ _ _ _ _ _ _ _ _ HF HI9 HC9 (by omega) ?_
            intro v2 v12 v127 v128 v129 v130 v131 v132 v133 v134 v135 v136 v137 v138 v139 v140 v141 v142 v143 v144 v145 v146 v147 v148 v149 v150 v151 v152 v153 v154 v155 v156 v157 v158 v159 v160 v161 v162 v163 v164 v165 v166 v167 v168 v169 v170 v171 v172 v173 v174 v175 v176 wq HF2
            clear HF HI9 HC9
            try simp only [Exit.inBlock, Exit.then]
            go_wp2
            go_roundw
            case rel => exact ⟨k + 1, T, aw, cw, az, cs, ls, ss, rfl, rfl, by go_num, by omega, HF2⟩
            case measure => simp [intOf]; omega

end Lin
end Go.Proofs.Ytodgomgacgoliaa
