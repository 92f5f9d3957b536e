import Derived.Test.YtnhhalabmmcemaaDoorTcE
import Derived.Deep.DeepCutAuto
import Derived.Deep.RegionHeld3
namespace Go.Proofs.YtnhhalabmmcemaaDoor
namespace TableBack
open Go.RowKit CMath Byt Laws Irw Crw Cod Qb Tbl
set_option linter.unusedVariables false
set_option linter.unusedSimpArgs false
set_option maxRecDepth 100000

theorem keepS {wq : World} {S : World → Prop} (h : ∀ W, Below wq.heap.size wq W → Below wq.heap.size wq W ∧ S W) {W W' : World} (h1 : Below wq.heap.size wq W ∧ S W) (h2 : Below W.heap.size W W') : Below wq.heap.size wq W' ∧ S W' := h W' (h1.1.trans (h2.mono h1.1.size))
theorem sz_of {l : List Qg.En} (h : (l.map Qg.bulkE).sum ≤ 65536) : ∀ e ∈ l, e.1.size ≤ 65536 ∧ e.2.2.2.size ≤ 65536 := fun e he => by
  have h1 := Qg.sum_mem he
  have h2 : Qg.bulkE e = 1 + e.1.size + e.2.2.2.size := rfl
  omega

/-- What made answers, as this statement looks at it. -/
def MbIs (w : World) (R : Nat) (bits : Int) (e : Ending) (w' : World) : Prop := Below w.heap.size w w' ∧ ((∃ m : Mt, e = .returned (.tuple #[.slice none 0 0, .slice none 0 0, .agg #[.int .u64 0, .int .i64 m.wt, .int .i64 m.by_, .int .i64 (m.n : Int), .string m.lo, .string m.hi], .bool true])) ∨
  ∃ g c g' o' c' N n L css, ∃ m : Mt, e = .returned (.tuple #[.slice (some ⟨g, 0, none⟩) N c, .slice (some ⟨g', o', none⟩) n c', .agg #[.int .u64 0, .int .i64 m.wt, .int .i64 (N : Int), .int .i64 (n : Int), .string m.lo, .string m.hi], .bool true]) ∧ 0 < n ∧ n ≤ 300 ∧ N = (Tbl.whole bits L).length ∧ n = css.flatten.length ∧ n ≤ c' ∧ Wh R bits L css ∧ rdM (N : Int) css.flatten = ⟨m.wt, (N : Int), n, m.lo, m.hi⟩ ∧ IsB w' (some ⟨g, 0, none⟩) (Tbl.whole bits L) ∧ N ≤ c ∧ c ≤ 9223372036854775807 ∧ Erw.IsE w' (some ⟨g', o', none⟩) css.flatten)
theorem isE_drop {w : World} {g o : Nat} {l : List En} (h : Erw.IsE w (some ⟨g, o, none⟩) l) (j : Nat) : Erw.IsE w (some ⟨g, o + j * 4, none⟩) (l.drop j) := fun hne => by
  obtain ⟨b, off, e, hr⟩ := h (fun z => hne (by rw [z]; simp))
  cases e
  refine ⟨g, o + j * 4, rfl, hr.1, fun i x hx => ?_⟩
  rw [List.getElem?_drop] at hx
  have := hr.2 (j + i) x hx
  rw [show o + (j + i) * 4 = o + j * 4 + i * 4 by omega] at this
  exact this
theorem mb_of {w : World} {bb r bits : Int} {l : List En} {e : Ending} {w' : World} (hn : l.length ≤ 300) (h : MdT w bb r bits l e w') : MbIs w (Rn r) bits e w' := by
  obtain ⟨hb, h | h⟩ := h
  · obtain ⟨_, m, hm⟩ := h
    exact ⟨hb, .inl ⟨m, hm⟩⟩
  · obtain ⟨hne, L, css, T, a, c, a', c', m, hm, he, hi, hf, ho, hoe, hT, hhi⟩ := h
    have hml : (mds l).length ≤ 300 := Nat.le_trans (mds_all l).2.2 hn
    have hcs : css ≠ [] := by intro z; rw [z] at hf; exact hne (by simpa using hf.symm)
    have hW : Wh (Rn r) bits L css := ⟨hi, Rn_pos r, hcs, by rw [hf]; omega⟩
    have hwl4 : (Tbl.whole bits L).length = (whole0 bits L).length + 4 := by unfold Tbl.whole; rw [List.length_append]; rfl
    obtain ⟨x, c9, e9, hi9, hc9, _, hm9, hb9⟩ := ho.form
    simp only [Value.slice.injEq] at e9
    obtain ⟨rfl, _, rfl⟩ := e9
    obtain ⟨g, off, rfl, hr⟩ := hi9.1 (by intro z; rw [z] at hwl4; simp at hwl4)
    obtain ⟨rfl, ht, hl⟩ := hb9 g off rfl
    obtain ⟨y, d9, f9, hj9, hd9, _⟩ := hoe.form
    simp only [Value.slice.injEq] at f9
    obtain ⟨rfl, _, rfl⟩ := f9
    obtain ⟨g', o', rfl, _⟩ := hj9 hne
    have hmt := hi.mt
    rw [List.append_nil] at hmt
    have hmm : m = rdM ((Tbl.whole bits L).length : Int) css.flatten := by
      rw [hm]
      show (⟨L.mt.wt, ((Tbl.whole bits L).length : Int), L.mt.n, L.mt.lo, L.mt.hi⟩ : Mt) = _
      rw [hmt]
      rfl
    have hmn : m.n = (mds l).length := by rw [hmm, ← hf]; rfl
    have hmb : m.by_ = ((Tbl.whole bits L).length : Int) := by rw [hmm]; rfl
    rw [hmn, hmb] at he
    refine ⟨hb, .inr ⟨g, c, g', o', c', _, _, L, css, m, he, List.length_pos_iff.2 hne, hml, rfl, by rw [hf], hd9, hW, ?_, hi9, hc9, hm9, by rw [hf]; exact hj9⟩⟩
    rw [← hmm, ← hmn, ← hmb]
set_option maxHeartbeats 4000000 in
theorem walk (w : World) (ht : Tab w) (bb r bits : Int) (hr : -9223372036854775808 ≤ r ∧ r ≤ 9223372036854775807) (hbt : -9223372036854775808 ≤ bits ∧ bits ≤ 9223372036854775807) (a : Option Addr) (cap : Nat) (l : List Qb.En) (hl : Erw.IsE w a l) (hmx : (l.length : Int) ≤ 9223372036854775807) (hsz : ∀ e ∈ l, e.1.size ≤ maxLen ∧ e.2.2.2.size ≤ maxLen ∧ 0 ≤ e.2.1 ∧ e.2.1 ≤ 18446744073709551615) :
    Calls Tryd.prog 3 #[.int .i64 bb, .int .i64 r, .int .i64 bits, .slice a l.length cap] w fun e w' => e = .returned (.bool true) ∧ Below w.heap.size w w' := by
  have HT := Qb.hid ht
  have HL : Hid (Erw.IsE w a l ∧ ∀ e ∈ l, 0 ≤ e.2.1 ∧ e.2.1 ≤ 18446744073709551615) := ⟨hl, fun e he => (hsz e he).2.2⟩
  have HR := Qb.hid hr
  have HBT := Qb.hid hbt
  have HSM : Hid (Calls Tryd.prog 6 #[.slice a l.length cap] w fun r w' => Qg.SmIs w l r w') := Qg.small_any w a cap _ l rfl hmx hl (fun e he => ⟨(hsz e he).1, (hsz e he).2.1⟩)
  clear ht hl hr hsz hbt hmx
  go_enter Tryd.func3, Tryd.ntmps3
  go_wp2_with (go_at_call 6; fail)
  refine HSM.out.mono ?_
  rintro e w1 ⟨⟨b, rfl, hbs⟩, hb1⟩
  have HB1 : Hid (Below w.heap.size w w1) := hb1
  dsimp only
  cases b with
  | false =>
    clear hbs hb1
    go_wp2
    go_ret
    exact ⟨rfl, HB1.out⟩
  | true =>
    obtain ⟨h300, hbulk⟩ := hbs rfl
    have hs := sz_of hbulk
    have HS : Hid (∀ e ∈ l, e.1.size ≤ 1000000 ∧ e.2.2.2.size ≤ 1000000 ∧ 0 ≤ e.2.1 ∧ e.2.1 < 18446744073709551616) := fun e he => ⟨by have := (hs e he).1; omega, by have := (hs e he).2; omega, (HL.out.2 e he).1, by have := (HL.out.2 e he).2; omega⟩
    have HT1 : Hid (Tab w1) := HT.out.below hb1 HT.out.lt
    have HN := Qb.hid h300
    clear hbs hb1 hbulk hs h300
    go_wp2_with (first
      | (go_at_call 7; go_loud (refine (known_any w1 HT1.out).mono ?_; rintro e w2 ⟨rfl, hb2⟩; have HB2 : Hid (Below w.heap.size w w2) := HB1.out.trans (hb2.mono HB1.out.size); clear hb2))
      | (go_at_call 9; go_loud (refine (config_any bb r bits w2).mono ?_; rintro e w3 ⟨f, rfl, h13, h14, h15, hb3⟩; have HF := Qb.hid (And.intro h13 (And.intro h14 h15)); have HB3 : Hid (Below w.heap.size w w3) := HB2.out.trans (hb3.mono HB2.out.size); generalize hV : cfgA f = V; have HV := Qb.hid hV.symm; clear h13 h14 h15 hb3 hV))
      | (go_at_call 8; fail))
    have HMD : Hid (Calls Tryd.prog 8 #[.agg V, .slice a l.length cap] w3 fun e w' => MbIs w3 (Rn r) bits e w') :=
      (tmade_any w3 f V HV.out a cap l.length l (HT.out.below HB3.out HT.out.lt) (HL.out.1.below HB3.out) rfl (by have := HN.out; omega) HS.out (by rw [HF.out.2.1]; exact HR.out) (by rw [HF.out.2.2]; exact HBT.out)).mono fun e w' h => by rw [HF.out.1, HF.out.2.1, HF.out.2.2] at h; exact mb_of HN.out h
    clear HSM HL HS HN HV HF
    refine HMD.out.mono ?_
    clear HMD
    rintro e w4 ⟨hb4, h | h⟩
    · obtain ⟨m, rfl⟩ := h
      have HB4 : Hid (Below w.heap.size w w4) := HB3.out.trans (hb4.mono HB3.out.size)
      clear hb4
      dsimp only
      go_wp2
      go_ret
      refine ⟨rfl, ?_⟩
      exact HB4.out.alloc HB4.out.size _
    · obtain ⟨g, c4, g', o', c5, N, n, L, css, m, rfl, hn0, hn1, hNL, hnl, hnc, hWh, hrd, hib, hc4, hc9, hie⟩ := h
      have HB4 : Hid (Below w.heap.size w w4) := HB3.out.trans (hb4.mono HB3.out.size)
      have HK := Qb.hid (And.intro hWh (And.intro hNL (And.intro hnl (And.intro hrd (And.intro hib (And.intro hie (And.intro hc4 hc9)))))))
      clear hb4 hWh hNL hnl hrd hib hie
      have hn2 : ¬ ((n : Int) = 0) := by omega
      have hn3 : ((n : Int) == 0) = false := by simpa using hn2
      dsimp only
      go_wp2_with (go_at_call 10; fail)
      have b4 : Below w4.heap.size w4 (w4.alloc (.cells #[.int .u64 0, .int .i64 m.wt, .int .i64 (N : Int), .int .i64 (n : Int), .string m.lo, .string m.hi] 28)) := (Below.refl _ _).alloc (Nat.le_refl _) _
      have HT4 := Qb.hid ((HT.out.below HB4.out HT.out.lt).below b4 (Nat.lt_of_lt_of_le HT.out.lt HB4.out.size))
      refine (open_ok g 0 N c4 (Rn r) bits L css _ HK.out.1 (HK.out.2.2.2.2.1.below b4) HK.out.2.1 HK.out.2.2.2.2.2.2.1 HK.out.2.2.2.2.2.2.2 HT4.out).mono ?_
      rintro e w5 ⟨B, T5, ps5, _, rfl, _, tb5, pt5, hb5⟩
      have HB45 : Hid (Below w4.heap.size w4 w5) := Qb.hid (bl_step b4 hb5)
      have HB5 : Hid (Below w.heap.size w w5) := Qb.hid (bl_step HB4.out HB45.out)
      have om : w5.heap[w4.heap.size]? = some (.cells #[.int .u64 0, .int .i64 m.wt, .int .i64 (N : Int), .int .i64 (n : Int), .string m.lo, .string m.hi] 28) := (hb5.block _ (by simp)).trans (World.alloc_heap_new _ _)
      have lm := (Array.getElem?_eq_some_iff.1 om).1
      have HIE := Qb.hid (HK.out.2.2.2.2.2.1.below HB45.out)
      have HTB := Qb.hid (And.intro tb5 pt5)
      have HT5 := Qb.hid (HT.out.below HB5.out HT.out.lt)
      have HST : Hid (∀ W, Below w5.heap.size w5 W → Below w5.heap.size w5 W ∧ W.cell? ⟨w4.heap.size, 0, none⟩ = some (.int .u64 0) ∧ W.cell? ⟨w4.heap.size, 1, none⟩ = some (.int .i64 m.wt) ∧ W.cell? ⟨w4.heap.size, 2, none⟩ = some (.int .i64 (N : Int)) ∧ W.cell? ⟨w4.heap.size, 3, none⟩ = some (.int .i64 (n : Int)) ∧ W.cell? ⟨w4.heap.size, 4, none⟩ = some (.string m.lo) ∧ W.cell? ⟨w4.heap.size, 5, none⟩ = some (.string m.hi)) := Qb.hid fun W hb => ⟨hb, (hb.cell (p := ⟨w4.heap.size, 0, none⟩) lm).trans (cell_of om 0), (hb.cell (p := ⟨w4.heap.size, 1, none⟩) lm).trans (cell_of om 1), (hb.cell (p := ⟨w4.heap.size, 2, none⟩) lm).trans (cell_of om 2), (hb.cell (p := ⟨w4.heap.size, 3, none⟩) lm).trans (cell_of om 3), (hb.cell (p := ⟨w4.heap.size, 4, none⟩) lm).trans (cell_of om 4), (hb.cell (p := ⟨w4.heap.size, 5, none⟩) lm).trans (cell_of om 5)⟩
      have HME : Hid (∀ W, Below w5.heap.size w5 W → Calls Tryd.prog 12 #[.pointer (some ⟨B, 0, none⟩)] W fun e w' => e = .returned (.agg #[.int .u64 0, .int .i64 m.wt, .int .i64 (N : Int), .int .i64 (n : Int), .string m.lo, .string m.hi]) ∧ Below W.heap.size W w') := Qb.hid fun W hW => by
        have h := tmeta_any (HTB.out.1.below hW)
        rw [← HK.out.2.1, HK.out.2.2.2.1] at h
        exact h
      have HPS : Hid (∀ W, Below w5.heap.size w5 W → PsAt (Rn r) T5 W ps5 css) := Qb.hid fun W hW => HTB.out.2.goes (Goes.below (t := fun _ => False) hW) (fun z => z)
      have HGV : Hid (∀ W, Below w5.heap.size w5 W → Calls Tryd.prog 14 #[.pointer (some ⟨B, 0, none⟩), .string ⟨#[]⟩, .int .i64 (-1)] W fun e w' => ∃ a c, e = .returned (.slice a n c) ∧ Hid (Erw.IsE w' a css.flatten) ∧ Below W.heap.size W w') := Qb.hid fun W hW =>
        (from_all HK.out.1 (HTB.out.1.below hW) (HPS.out W hW)).mono fun e w' ⟨a, c, e1, e2, _, _, _, e3⟩ => ⟨a, c, by rw [HK.out.2.2.1]; exact e1, e2, e3⟩
      have HSE : Hid (∀ W a c, Erw.IsE W a css.flatten → Below w5.heap.size w5 W → Calls Tryd.prog 13 #[.slice a n c, .slice (some ⟨g', o', none⟩) n c5] W fun e w' => e = .returned (.bool true) ∧ Below W.heap.size W w') := Qb.hid fun W a c hi hW =>
        sameEntries_true a (some ⟨g', o', none⟩) c c5 n n css.flatten W hi (HIE.out.below hW) HK.out.2.2.1 HK.out.2.2.1 (by omega)
      clear b4 hb5 tb5 pt5 om lm
      dsimp only
      go_wp2
      go_region_held3 (fun W => Below w5.heap.size w5 W ∧ W.cell? ⟨w4.heap.size, 0, none⟩ = some (.int .u64 0) ∧ W.cell? ⟨w4.heap.size, 1, none⟩ = some (.int .i64 m.wt) ∧ W.cell? ⟨w4.heap.size, 2, none⟩ = some (.int .i64 (N : Int)) ∧ W.cell? ⟨w4.heap.size, 3, none⟩ = some (.int .i64 (n : Int)) ∧ W.cell? ⟨w4.heap.size, 4, none⟩ = some (.string m.lo) ∧ W.cell? ⟨w4.heap.size, 5, none⟩ = some (.string m.hi)) (first | assumption | exact HST.out _ (Below.refl _ _).drew | exact keepS HST.out (by assumption) (by assumption))
        (first
          | (go_at_call 11; refine (Tbl.num_any _ _).mono ?_; rintro e w' ⟨rfl, hw⟩; have hw2 := hw.symm; clear hw; subst hw2)
          | (go_at_call 12; refine (HME.out _ (And.left (by assumption))).mono ?_; rintro e w6 ⟨rfl, hb6⟩)
          | (go_at_call 14; refine (HGV.out _ (And.left (by assumption))).mono ?_; rintro e w7 ⟨a7, c7, rfl, HI7, hb7⟩)
          | (go_at_call 13; refine (HSE.out _ _ _ HI7.out (And.left (by assumption))).mono ?_; rintro e w8 ⟨rfl, hb8⟩))
      have HB8 : Hid (Below w5.heap.size w5 w8) := by rename_i hz; exact Qb.hid hz.1
      clear HGV HSE HST HME
      rename_i hzz
      clear hzz
      go_wp2
      go_loopw [15] (fun i wr => ∃ j : Nat, j ≤ n ∧ i = .int .i64 (j : Int) ∧ Hid (Below w5.heap.size w5 wr)) (fun i _ => n - (intOf i).toNat)
      case atStart => exact ⟨0, Nat.zero_le _, rfl, HB8⟩
      case round =>
        obtain ⟨j, hj, rfl, HBR⟩ := hrel
        rename World => wr
        by_cases hjn : j < n
        · have q1 : (j : Int) < (n : Int) := by omega
          have hjl : j < css.flatten.length := by rw [← HK.out.2.2.1]; exact hjn
          obtain ⟨b1, o1, ⟨yk, ys, yd, yv⟩, e1, hy, hlt1, x0, x1, x2, x3⟩ := Qg.isE_at (HIE.out.below HBR.out) hjl
          cases e1
          dsimp only at x0 x1 x2 x3
          have HY := Qb.hid hy
          have HX := Qb.hid (And.intro x0 (And.intro x1 (And.intro x2 (And.intro x3 hlt1))))
          have HGE : Hid (Calls Tryd.prog 15 #[.pointer (some ⟨B, 0, none⟩), .string yk] wr fun e w' => e = .returned (.tuple #[.agg #[.string yk, .int .u64 ys, .bool yd, .string yv], .bool true]) ∧ Below wr.heap.size wr w') := Qb.hid (get_ok (e := (yk, ys, yd, yv)) HK.out.1 (HTB.out.1.below HBR.out) (HPS.out wr HBR.out) (HT5.out.below HBR.out HT5.out.lt) (List.mem_of_getElem? hy))
          clear hy x1 x2 x3 hlt1
          go_wp2_with (go_at_call 15; go_loud (refine HGE.out.mono ?_; rintro e w6 ⟨rfl, hb6⟩; have HB6 := Qb.hid hb6; clear hb6))
          obtain ⟨wq, hwq⟩ : ∃ wq, w6.alloc (.cells #[.string yk, .int .u64 ys, .bool yd, .string yv] 43) = wq := ⟨_, rfl⟩
          have hbq : Below w6.heap.size w6 wq := by rw [← hwq]; exact (Below.refl _ _).alloc (Nat.le_refl _) _
          have og : wq.heap[w6.heap.size]? = some (.cells #[.string yk, .int .u64 ys, .bool yd, .string yv] 43) := by rw [← hwq]; exact World.alloc_heap_new _ _
          have lg := (Array.getElem?_eq_some_iff.1 og).1
          have hbrq : Below wr.heap.size wr wq := bl_step HB6.out hbq
          have HBQ : Hid (Below w5.heap.size w5 wq) := Qb.hid (bl_step HBR.out hbrq)
          have lgq : g' < wq.heap.size := Nat.lt_of_lt_of_le HX.out.2.2.2.2 hbrq.size
          have k0 := (hbrq.cell (p := ⟨g', o' + j * 4, none⟩) HX.out.2.2.2.2).trans HX.out.1
          have k1 := (hbrq.cell (p := ⟨g', o' + j * 4 + 1, none⟩) HX.out.2.2.2.2).trans HX.out.2.1
          have k2 := (hbrq.cell (p := ⟨g', o' + j * 4 + 2, none⟩) HX.out.2.2.2.2).trans HX.out.2.2.1
          have k3 := (hbrq.cell (p := ⟨g', o' + j * 4 + 3, none⟩) HX.out.2.2.2.2).trans HX.out.2.2.2.1
          try rw [hwq]
          have HST : Hid (∀ W, Below wq.heap.size wq W → Below wq.heap.size wq W ∧ W.cell? ⟨w6.heap.size, 0, none⟩ = some (.string yk) ∧ W.cell? ⟨w6.heap.size, 1, none⟩ = some (.int .u64 ys) ∧ W.cell? ⟨w6.heap.size, 2, none⟩ = some (.bool yd) ∧ W.cell? ⟨w6.heap.size, 3, none⟩ = some (.string yv) ∧ W.cell? ⟨g', o' + j * 4, none⟩ = some (.string yk) ∧ W.cell? ⟨g', o' + j * 4 + 1, none⟩ = some (.int .u64 ys) ∧ W.cell? ⟨g', o' + j * 4 + 2, none⟩ = some (.bool yd) ∧ W.cell? ⟨g', o' + j * 4 + 3, none⟩ = some (.string yv)) := Qb.hid fun W hb => ⟨hb, (hb.cell (p := ⟨w6.heap.size, 0, none⟩) lg).trans (cell_of og 0), (hb.cell (p := ⟨w6.heap.size, 1, none⟩) lg).trans (cell_of og 1), (hb.cell (p := ⟨w6.heap.size, 2, none⟩) lg).trans (cell_of og 2), (hb.cell (p := ⟨w6.heap.size, 3, none⟩) lg).trans (cell_of og 3), (hb.cell (p := ⟨g', o' + j * 4, none⟩) lgq).trans k0, (hb.cell (p := ⟨g', o' + j * 4 + 1, none⟩) lgq).trans k1, (hb.cell (p := ⟨g', o' + j * 4 + 2, none⟩) lgq).trans k2, (hb.cell (p := ⟨g', o' + j * 4 + 3, none⟩) lgq).trans k3⟩
          have HLN : Hid (n - j = (css.flatten.drop j).length) := Qb.hid (by rw [List.length_drop, ← HK.out.2.2.1])
          have HGV : Hid (∀ W, Below wq.heap.size wq W → Calls Tryd.prog 14 #[.pointer (some ⟨B, 0, none⟩), .string yk, .int .i64 (-1)] W fun e w' => ∃ a c, e = .returned (.slice a (n - j) c) ∧ Hid (Erw.IsE w' a (css.flatten.drop j)) ∧ Below W.heap.size W w') := Qb.hid fun W hW => by
            have hW5 := bl_step HBQ.out hW
            refine (from_at (e := (yk, ys, yd, yv)) HK.out.1 (HTB.out.1.below hW5) (HPS.out W hW5) HY.out).mono fun e w' ⟨a, c, e1, e2, _, _, _, e3⟩ => ⟨a, c, by rw [HLN.out]; exact e1, e2, e3⟩
          have HSE : Hid (∀ W a c, Erw.IsE W a (css.flatten.drop j) → Below wq.heap.size wq W → Calls Tryd.prog 13 #[.slice a (n - j) c, .slice (some ⟨g', o' + j * 4, none⟩) (n - j) (c5 - j)] W fun e w' => e = .returned (.bool true) ∧ Below W.heap.size W w') := Qb.hid fun W a c hi hW =>
            sameEntries_true a (some ⟨g', o' + j * 4, none⟩) c (c5 - j) (n - j) (n - j) (css.flatten.drop j) W hi (isE_drop (HIE.out.below (bl_step HBQ.out hW)) j) HLN.out HLN.out (by omega)
          have r1 : (0 : Int) ≤ (j : Int) := by omega
          have r2 : (j : Int) ≤ (n : Int) := by omega
          have r3 : (n : Int) ≤ (c5 : Int) := by omega
          have r4 : ¬ c5 = j := by omega
          clear hbq og lg hbrq lgq k0 k1 k2 k3 x0 hwq
          go_region_held3 (fun W => Below wq.heap.size wq W ∧ W.cell? ⟨w6.heap.size, 0, none⟩ = some (.string yk) ∧ W.cell? ⟨w6.heap.size, 1, none⟩ = some (.int .u64 ys) ∧ W.cell? ⟨w6.heap.size, 2, none⟩ = some (.bool yd) ∧ W.cell? ⟨w6.heap.size, 3, none⟩ = some (.string yv) ∧ W.cell? ⟨g', o' + j * 4, none⟩ = some (.string yk) ∧ W.cell? ⟨g', o' + j * 4 + 1, none⟩ = some (.int .u64 ys) ∧ W.cell? ⟨g', o' + j * 4 + 2, none⟩ = some (.bool yd) ∧ W.cell? ⟨g', o' + j * 4 + 3, none⟩ = some (.string yv)) (first | assumption | exact HST.out _ (Below.refl _ _).drew | exact keepS HST.out (by assumption) (by assumption))
            (first
              | (go_at_call 14; refine (HGV.out _ (And.left (by assumption))).mono ?_; rintro e w7 ⟨a7, c7, rfl, HI7, hb7⟩)
              | (go_at_call 13; refine (HSE.out _ _ _ HI7.out (And.left (by assumption))).mono ?_; rintro e w9 ⟨rfl, hb9⟩))
          have HB9 : Hid (Below w5.heap.size w5 w9) := by rename_i hz; exact Qb.hid (bl_step HBQ.out hz.1)
          clear HGV HSE HST
          go_wp2
          go_roundw
          case rel => exact ⟨j + 1, by omega, by go_num, HB9⟩
          case measure => simp [intOf]; omega
        · have q1 : ¬ (j : Int) < (n : Int) := by omega
          go_wp2
          go_ret
          exact ⟨rfl, bl_step HB5.out HBR.out⟩
end TableBack
end Go.Proofs.YtnhhalabmmcemaaDoor
