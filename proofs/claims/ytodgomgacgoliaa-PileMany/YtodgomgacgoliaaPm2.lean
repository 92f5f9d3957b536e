import Derived.Test.YtodgomgacgoliaaPm1
namespace Go.Proofs.Ytodgomgacgoliaa
namespace Hp
open Go.RowKit Laws Irw
set_option linter.unusedVariables false
set_option maxRecDepth 100000
set_option linter.unusedSimpArgs false

theorem undP : Try.prog.underlying 59 = some (.slice 23) := by kernel_rfl
theorem infoP : (Try.prog.info? 23).map (fun i => (i.zero, i.size, i.bytes)) = some (some (.pointer none), 1, 8) := by kernel_rfl
theorem tmod_nat (j nn : Nat) : (7 * (j : Int)).tmod ((nn : Int) + 2) = ((7 * j % (nn + 2) : Nat) : Int) := by
  have e1 : 7 * (j : Int) = ((7 * j : Nat) : Int) := by omega
  have e2 : (nn : Int) + 2 = ((nn + 2 : Nat) : Int) := by omega
  rw [e1, e2]
  rfl
theorem news_one (w : World) (u : TypeId) (x : Value) : ∀ (j : Nat) (v : Value), [x][j]? = some v → (w.alloc (.cells #[x] u)).cell? ((⟨w.heap.size, 0, none⟩ : Addr).add j) = some v := by
  intro j v hv
  cases j with
  | zero => simp at hv; subst hv; simp [Addr.add]
  | succ j => simp at hv
/-- a side more is laid into the list -/
theorem Many.push {w0 : World} {T : Nat → Nat} {w w1 w' : World} {v : Value} {ds : List SD} {N : Nat} (p : Many w0 T w v ds N) {d : SD} (hd : d.is ds.length T w) (hn : d.n ≤ N) {o : Obj} (hw : w1 = w.alloc o) {g c : Nat} (hgr : w1.grownBy w' v.ownBlock) (hown : w'.ownsRow 0 23 1 (.slice (some ⟨g, 0, none⟩) (ds.length + 1) c) (ds.length + 1) (ptrs ds ++ [.pointer (some ⟨d.s, 0, none⟩)]))
    (hat : v.ownBlock = some g ∨ g = w1.heap.size) : Many w0 (upd T g 5) w' (.slice (some ⟨g, 0, none⟩) (ds.length + 1) c) (ds ++ [d]) N := by
  subst hw
  have hlt := (hown.lt g rfl).2
  have hg : Goes (· = 5) T w (upd T g 5) w' := by
    have hb : Below w.heap.size w (w.alloc o) := (Below.refl _ _).alloc (Nat.le_refl _) _
    refine ⟨hgr.os.trans hb.os, hgr.tape.trans hb.tape, hgr.output.trans hb.output, Nat.le_trans hb.size hgr.size, fun b hl ht => ?_, fun b hl _ => ?_, fun b hl h0 => ?_⟩
    · refine (hgr.block b (Nat.lt_of_lt_of_le hl hb.size) (fun e => ht (p.tag b e.symm))).trans (hb.block b hl)
    · by_cases e : b = g
      · subst e
        rcases hat with e | e
        · rw [upd_same, p.tag _ e]
        · simp at e; omega
      · exact upd_other _ _ e
    · rw [upd_other _ _ (by omega)]; exact h0
  have e1 : ptrs (ds ++ [d]) = ptrs ds ++ [.pointer (some ⟨d.s, 0, none⟩)] := by simp [ptrs]
  refine ⟨fun k d' hd' => ?_, by rw [e1, List.length_append]; exact hown, fun g' e => ?_, p.old.goes hg (by omega)⟩
  · by_cases e : k < ds.length
    · rw [List.getElem?_append_left e] at hd'
      have := p.sides k d' hd'
      exact ⟨this.1.goes hg (fun x a b z => by omega), this.2⟩
    · have hk : k = ds.length := by
        have := (List.getElem?_eq_some_iff.1 hd').1
        simp at this; omega
      subst hk
      simp at hd'
      subst hd'
      exact ⟨hd.goes hg (fun x a b z => by omega), hn⟩
  · simp only [Value.ownBlock, Option.some.injEq] at e
    subst e
    exact upd_same _ _ _

set_option maxHeartbeats 8000000 in
theorem many_walk (n : Int) (a : Option Addr) (c : Nat) (l : List Int) (w : World) (ha : IsI w a l) :
    Calls Try.prog 6 #[.int .i64 n, .slice a l.length c] w fun e w' => e = .returned (.bool true) ∧ Below w.heap.size w w' := by
  obtain ⟨i0, hi0, hz0, hz1, hz2⟩ := info_parts infoP
  have HA : Hid (IsI w a l) := ha
  clear ha
  by_cases hn0 : n < 0
  case pos =>
    have d0 : decide (n < 0) = true := decide_eq_true hn0
    go_enter Try.func6, Try.ntmps6
    go_wp2
    go_ret
    exact ⟨rfl, Below.refl _ _⟩
  by_cases hn38 : 38 < n
  case pos =>
    have d0 : decide (n < 0) = false := decide_eq_false hn0
    have d1 : decide (38 < n) = true := decide_eq_true hn38
    go_enter Try.func6, Try.ntmps6
    go_wp2
    go_ret
    exact ⟨rfl, Below.refl _ _⟩
  obtain ⟨nn, rfl⟩ : ∃ nn : Nat, n = (nn : Int) := ⟨n.toNat, by omega⟩
  have d0 : decide ((nn : Int) < 0) = false := decide_eq_false hn0
  have d1 : decide ((38 : Int) < (nn : Int)) = false := decide_eq_false hn38
  have hnn : nn ≤ 38 := by omega
  have q2 : IntKind.i64.wrap ((nn : Int) + 2) = (nn : Int) + 2 := IntWalk.i64_in _ (by omega)
  by_cases hs : l.length ≤ 600
  case neg =>
    have hs' : (600 : Int) < (l.length : Int) := by omega
    have d2 : decide ((600 : Int) < (l.length : Int)) = true := decide_eq_true hs'
    go_enter Try.func6, Try.ntmps6
    go_wp2
    go_ret
    exact ⟨rfl, Below.refl _ _⟩
  have hs' : ¬ (600 : Int) < (l.length : Int) := by omega
  have d2 : decide ((600 : Int) < (l.length : Int)) = false := decide_eq_false hs'
  go_enter Try.func6, Try.ntmps6
  go_wp2
  go_loopw [5, 6] (fun v i wr => ∃ (k : Nat) (T : Nat → Nat) (aa : Option Addr) (cc : Nat) (ds : List SD), k ≤ nn + 2 ∧ v = .slice aa k cc ∧ i = .int .i64 (k : Int) ∧ Hid (ds.length = k) ∧ Hid (Many w T wr (.slice aa k cc) ds 1)) (fun _ i _ => nn + 2 - (intOf i).toNat)
  case atStart => exact ⟨0, fun _ => 0, none, 0, [], by omega, rfl, rfl, rfl, ⟨fun k d hd => by simp at hd, World.ownsRow_nil _ _ _ _, by simp [Value.ownBlock], Old.first w⟩⟩
  case round =>
    obtain ⟨k, T, aa, cc, ds, hk, rfl, rfl, HLn, HP⟩ := hrel
    by_cases hlt : k < nn + 2
    · as_aux_lemma =>
        have hkl := HLn.out
        subst hkl
        have dk : (ds.length : Int) < (nn : Int) + 2 := by omega
        have w4 : IntKind.i64.wrap ((ds.length : Int) + 1) = (ds.length : Int) + 1 := IntWalk.i64_in _ (by omega)
        have w5 : IntKind.i64.wrap (100 * (ds.length : Int)) = 100 * (ds.length : Int) := IntWalk.i64_in _ (by omega)
        have w6 : IntKind.i64.wrap (100 * (ds.length : Int) + 7) = 100 * (ds.length : Int) + 7 := IntWalk.i64_in _ (by omega)
        obtain ⟨o, ho⟩ : ∃ o : Int, (ds.length : Int).tmod 4 = o := ⟨_, rfl⟩
        go_wp2_with fail
        refine (heap_any T wr o (100 + 10 * ds.length + 1)).mono ?_
        rintro e w1 ⟨rfl, hh1, hb1⟩
        have HM1 := side_made w T wr w1 (100 + 10 * ds.length) o HP.out.old hh1 hb1
        have HP1 : Hid (Many w (sideT T wr w1 (100 + 10 * ds.length)) (sideW wr w1 o) (.slice aa ds.length cc) ds 1 ∧ SideIs (100 + 10 * ds.length) (sideT T wr w1 (100 + 10 * ds.length)) (sideW wr w1 o) (w1.heap.size + 1) (wr.heap.size + 1) wr.heap.size w1.heap.size o 0) := ⟨HP.out.goes HM1.2.2 (fun _ z => z.elim), HM1.1⟩
        clear hh1 hb1 HM1 HP
        generalize sideT T wr w1 (100 + 10 * ds.length) = T1 at *
        have hWs : (w1.alloc (.cells #[.int .i64 o, .slice none 0 0] 29)).alloc (.cells #[.pointer (some ⟨wr.heap.size + 1, 0, none⟩), .pointer (some ⟨w1.heap.size, 0, none⟩), .int .i64 0, .bool false] 31) = sideW wr w1 o := rfl
        generalize sideW wr w1 o = v1 at *
        have c10 := HP1.out.2.reads.2.1
        have HB : ∃ s1 h1 B1 b1, s1 = w1.heap.size + 1 ∧ Hid (SideIs (100 + 10 * ds.length) T1 v1 s1 h1 B1 b1 o 0) := ⟨_, _, _, _, rfl, HP1.out.2⟩
        obtain ⟨s1, h1, B1, b1, hs1, HS1⟩ := HB
        have HCP : Hid (∀ x, Calls Try.prog 9 #[.pointer (some ⟨s1, 0, none⟩), .agg #[.int .i64 1, .int .i64 x, .bool false]] v1 fun e w' => e = .returned (.bool true) ∧ PlayOut (100 + 10 * ds.length) T1 v1 s1 h1 B1 b1 o 1 w') := fun x => plays_is (100 + 10 * ds.length) T1 v1 s1 h1 B1 b1 o 0 1 x false HS1.out (by omega) (fun g hg => HP1.out.1.old.zero g (.inr hg))
        rw [hs1] at HCP
        go_wp2_with fail
        refine (HCP.out _).mono ?_
        rintro e w3 ⟨rfl, T3, k1, k2, k3⟩
        have HP3 : Hid (Many w T3 w3 (.slice aa ds.length cc) ds 1 ∧ (SD.mk s1 h1 B1 b1 o 1).is ds.length T3 w3) := ⟨HP1.out.1.goes k2 (fun x z => by have := z.1; omega), by unfold SD.is; rw [hs1]; exact k1⟩
        clear k1 k2 k3 HCP HS1 HP1 hWs c10
        rw [← hs1]
        clear hs1
        generalize w1.heap.size = x1 at *
        have X1 : Hid ((w3.alloc (.cells #[.pointer (some ⟨s1, 0, none⟩)] 23)).ownsRow 0 23 1 (.slice aa ds.length cc) ds.length (ptrs ds)) := HP3.out.1.list.alloc _
        have X2 : Hid _ := news_one w3 23 (.pointer (some ⟨s1, 0, none⟩))
        have X3 : Hid (∀ u ∈ [Value.pointer (some ⟨s1, 0, none⟩)], u.oneCell' = true) := by intro u hu; simp at hu; subst hu; rfl
        have X4 : Hid (ds.length + 1 ≤ maxLen) := by show _ ≤ _; unfold maxLen; omega
        have X5 : Hid ((ds.length + 1) * 8 ≤ 140737488355328) := by show _ ≤ _; omega
        have X6 : Hid (∀ {g7 : Nat}, g7 = w3.heap.size + 1 → g7 = (w3.alloc (.cells #[.pointer (some ⟨s1, 0, none⟩)] 23)).heap.size) := by intro g7 e; rw [e]; simp
        have X7 : Hid (∀ (g7 c7 : Nat) (w7 : World), w7.ownsRow 0 23 1 (.slice (some ⟨g7, 0, none⟩) (ds.length + 1) c7) (ds.length + 1) (ptrs ds ++ [.pointer (some ⟨s1, 0, none⟩)]) → (w3.alloc (.cells #[.pointer (some ⟨s1, 0, none⟩)] 23)).grownBy w7 (Value.slice aa ds.length cc).ownBlock → ((Value.slice aa ds.length cc).ownBlock = some g7 ∨ g7 = w3.heap.size + 1) → Many w (upd T3 g7 5) w7 (.slice (some ⟨g7, 0, none⟩) (ds.length + 1) c7) (ds ++ [SD.mk s1 h1 B1 b1 o 1]) 1) := fun g7 c7 w7 q1 q2 q3 => HP3.out.1.push HP3.out.2 (Nat.le_refl _) rfl q2 q1 (q3.imp id X6.out)
        go_wp2_with (at_builtin; go_loud (refine wpList_app _ (by rfl) (.tmp 51) (.tmp 53) 59 (by rfl) 0 23 i0 (.pointer none) 1 8 undP hi0 hz0 hz1 hz2 rfl (by omega) (.slice aa ds.length cc) ds.length (ptrs ds) (by rfl) X1.out ⟨w3.heap.size, 0, none⟩ 1 1 [.pointer (some ⟨s1, 0, none⟩)] (by rfl) (by rfl) X2.out X3.out (fun _ => Nat.one_pos) X4.out X5.out (Nat.zero_le _) (w3.heap.size + 1) (by simp) ?_; intro g7 c7 w7 hown7 hgr7 hat7 hlt7; have HP7 : Hid (Many w (upd T3 g7 5) w7 (.slice (some ⟨g7, 0, none⟩) (ds.length + 1) c7) (ds ++ [SD.mk s1 h1 B1 b1 o 1]) 1) := X7.out g7 c7 w7 hown7 hgr7 hat7; clear hown7 hgr7 hat7 hlt7))
        go_roundw
        case rel => exact ⟨ds.length + 1, upd T3 g7 5, some ⟨g7, 0, none⟩, c7, ds ++ [SD.mk s1 h1 B1 b1 o 1], by omega, rfl, by go_num, by show _ = _; simp, HP7⟩
        case measure => simp [intOf]; omega
    · as_aux_lemma =>
        have hkn : k = nn + 2 := by omega
        subst hkn
        have dk : ¬ ((nn : Int) + 2) < (nn : Int) + 2 := by omega
        have hgg : ∃ g, aa = some ⟨g, 0, none⟩ := by
          rcases HP.out.list.2 with ⟨q1, q2⟩ | ⟨g, cap, cur, hv, _⟩
          · have := HLn.out; omega
          · simp only [Value.slice.injEq] at hv
            exact ⟨g, hv.1⟩
        obtain ⟨g, rfl⟩ := hgg
        go_wp2
        go_loopw [8] (fun i wr => ∃ (j : Nat) (T : Nat → Nat) (ds : List SD), j ≤ l.length ∧ i = .int .i64 (j : Int) ∧ Hid (ds.length = nn + 2) ∧ Hid (Many w T wr (.slice (some ⟨g, 0, none⟩) (nn + 2) cc) ds (1 + 2 * j))) (fun i _ => l.length - (intOf i).toNat)
        case atStart => exact ⟨0, T, ds, Nat.zero_le _, rfl, HLn, HP⟩
        case round =>
          clear HLn HP
          obtain ⟨j, T, ds, hj, rfl, HLn, HP⟩ := hrel
          rename World => wq
          by_cases hlj : j < l.length
          · have dj : (j : Int) < (l.length : Int) := by omega
            have w4 : IntKind.i64.wrap ((j : Int) + 1) = (j : Int) + 1 := IntWalk.i64_in _ (by omega)
            have w5 : IntKind.i64.wrap (7 * (j : Int)) = 7 * (j : Int) := IntWalk.i64_in _ (by omega)
            obtain ⟨m, hm, hml⟩ : ∃ m : Nat, (7 * (j : Int)).tmod ((nn : Int) + 2) = (m : Int) ∧ m < nn + 2 := ⟨7 * j % (nn + 2), tmod_nat j nn, Nat.mod_lt _ (by omega)⟩
            obtain ⟨r, hr, hr4⟩ : ∃ r : Nat, (j : Int).tmod 4 = (r : Int) ∧ r < 4 := ⟨j % 4, rfl, Nat.mod_lt _ (by omega)⟩
            have w6 : IntKind.i64.wrap (1 + (r : Int)) = 1 + (r : Int) := IntWalk.i64_in _ (by omega)
            have dm : (m : Int) < (nn : Int) + 2 := by omega
            have hne2 : ¬ ((nn : Int) + 2) = 0 := by omega
            obtain ⟨d, hd⟩ : ∃ d, ds[m]? = some d := ⟨_, List.getElem?_eq_getElem (by rw [HLn.out]; exact hml)⟩
            have cm : wq.cell? ⟨g, m, none⟩ = some (.pointer (some ⟨d.s, 0, none⟩)) := HP.out.at_ HLn.out.symm m d hd
            obtain ⟨bl, ol, haa, hrl⟩ := HA.out.at_ (by omega)
            subst haa
            obtain ⟨x, hx⟩ : ∃ x, l.getD j 0 = x := ⟨_, rfl⟩
            have HX : Hid (∀ W : World, Below w.heap.size w W → W.cell? ⟨bl, ol + j, none⟩ = some (.int .i64 x)) := fun W hW => by rw [← hx]; exact (hW.cell (p := ⟨bl, ol + j, none⟩) hrl.1).trans (hrl.cell hlj)
            have cx := HX.out wq HP.out.old.below
            have HC1 : Hid (Calls Try.prog 9 #[.pointer (some ⟨d.s, 0, none⟩), .agg #[.int .i64 (1 + (r : Int)), .int .i64 x, .bool false]] wq fun e w' => e = .returned (.bool true) ∧ Hid (∃ T' ds', Many w T' w' (.slice (some ⟨g, 0, none⟩) (nn + 2) cc) ds' (1 + 2 * j + 1) ∧ ds'.length = ds.length ∧ ptrs ds' = ptrs ds ∧ ∃ d', ds'[m]? = some d' ∧ d'.s = d.s)) := HP.out.play (by omega) m d hd (1 + (r : Int)) x false
            clear hx hrl
            have HLd : Hid (ds.length = nn + 2) := HLn
            clear HP hd
            obtain ⟨s1, hs1⟩ : ∃ s1, d.s = s1 := ⟨_, rfl⟩
            rw [hs1] at HC1 cm
            have HS1 : Hid (d.s = s1) := hs1
            clear hs1
            go_wp2_with fail
            refine HC1.out.mono ?_
            rintro e w3 ⟨rfl, HX3⟩
            obtain ⟨T3, ds3, q1, q2, q3, d3, q4, q5⟩ := HX3.out
            have cx3 := HX.out w3 q1.old.below
            have HC2 : Hid (Calls Try.prog 9 #[.pointer (some ⟨s1, 0, none⟩), .agg #[.int .i64 1, .int .i64 x, .bool false]] w3 fun e w' => e = .returned (.bool true) ∧ Hid (∃ T' ds', Many w T' w' (.slice (some ⟨g, 0, none⟩) (nn + 2) cc) ds' (1 + 2 * (j + 1)) ∧ ds'.length = nn + 2)) := by
              have z := q1.play (by omega) m d3 q4 1 x false
              rw [q5] at z
              refine z.mono ?_
              rintro e w' ⟨rfl, HY⟩
              obtain ⟨T', ds', y1, y2, _⟩ := HY.out
              exact ⟨rfl, T', ds', y1, by rw [y2, q2]; exact HLd.out⟩
            clear HX3 HC1 q1 q2 q3 q4 q5 cx cm
            go_wp2_with fail
            refine HC2.out.mono ?_
            rintro e w5 ⟨rfl, HX5⟩
            obtain ⟨T5, ds5, y1, y2⟩ := HX5.out
            have HM5 : Hid (Many w T5 w5 (.slice (some ⟨g, 0, none⟩) (nn + 2) cc) ds5 (1 + 2 * (j + 1))) := y1
            have HL5 : Hid (ds5.length = nn + 2) := y2
            clear HX5 y1 y2 HC2
            go_wp2
            go_roundw
            case rel => exact ⟨j + 1, T5, ds5, by omega, by go_num, HL5, HM5⟩
            case measure => simp [intOf]; omega
          · have dj : ¬ (j : Int) < (l.length : Int) := by omega
            have HPm : Hid (Many w T wq (.slice (some ⟨g, 0, none⟩) (nn + 2) cc) ds 2000) := HP.out.mono (by omega)
            clear HP
            go_wp2
            go_loopw [10] (fun i wr => ∃ (j : Nat) (T : Nat → Nat) (ds : List SD), j ≤ nn + 2 ∧ i = .int .i64 (j : Int) ∧ Hid (ds.length = nn + 2) ∧ Hid (Many w T wr (.slice (some ⟨g, 0, none⟩) (nn + 2) cc) ds 2000)) (fun i _ => nn + 2 - (intOf i).toNat)
            case atStart => exact ⟨0, T, ds, Nat.zero_le _, rfl, HLn, HPm⟩
            case round =>
              clear HLn HPm
              obtain ⟨i, T, ds, hi, rfl, HLn, HP⟩ := hrel
              rename World => wz
              by_cases hin : i < nn + 2
              · have di : (i : Int) < (nn : Int) + 2 := by omega
                have w4 : IntKind.i64.wrap ((i : Int) + 1) = (i : Int) + 1 := IntWalk.i64_in _ (by omega)
                obtain ⟨d, hd⟩ : ∃ d, ds[i]? = some d := ⟨_, List.getElem?_eq_getElem (by rw [HLn.out]; exact hin)⟩
                have cm : wz.cell? ⟨g, i, none⟩ = some (.pointer (some ⟨d.s, 0, none⟩)) := HP.out.at_ HLn.out.symm i d hd
                have HC1 : Hid (Calls Try.prog 10 #[.pointer (some ⟨d.s, 0, none⟩)] wz fun e w' => e = .returned (.bool true) ∧ Hid (∃ T' ds', Many w T' w' (.slice (some ⟨g, 0, none⟩) (nn + 2) cc) ds' 2000 ∧ ds'.length = ds.length ∧ ptrs ds' = ptrs ds)) := HP.out.drain (by omega) i d hd
                clear HP hd
                generalize d.s = s1 at *
                go_wp2_with fail
                refine HC1.out.mono ?_
                rintro e w3 ⟨rfl, HX3⟩
                obtain ⟨T3, ds3, q1, q2, q3⟩ := HX3.out
                have HM3 : Hid (Many w T3 w3 (.slice (some ⟨g, 0, none⟩) (nn + 2) cc) ds3 2000) := q1
                have HL3 : Hid (ds3.length = nn + 2) := q2.trans HLn.out
                clear HX3 q1 q2 q3 HC1 cm
                go_wp2
                go_roundw
                case rel => exact ⟨i + 1, T3, ds3, by omega, by go_num, HL3, HM3⟩
                case measure => simp [intOf]; omega
              · have di : ¬ (i : Int) < (nn : Int) + 2 := by omega
                go_wp2
                go_ret
                exact ⟨rfl, HP.out.old.below⟩

end Hp
end Go.Proofs.Ytodgomgacgoliaa
