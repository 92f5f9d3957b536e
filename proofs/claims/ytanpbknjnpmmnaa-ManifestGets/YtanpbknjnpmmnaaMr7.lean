import Derived.Test.YtanpbknjnpmmnaaMr6
namespace Go.Proofs.Ytanpbknjnpmmnaa
namespace Mnf
open Go.RowKit CMath Byt Cod Crw Irw Laws
set_option linter.unusedVariables false
set_option linter.unusedSimpArgs false
set_option maxRecDepth 20000

set_option maxHeartbeats 2000000 in
theorem readListL_ok (a : Option Addr) (L : Nat) (l : List Nat) (most n : Nat) (y : Int) (r1 : List Nat) (w : World) (h : IsB w a l) (hL : l.length = L) (hm : L ≤ 9223372036854775807) (hmo : most ≤ 1000) (hy : y = most) (hn : rdN most l = some (n, r1)) :
    Calls Try.prog 43 #[.slice a L L, .int .i64 y, .func (.func 44) #[] #[]] w fun e w' => (∃ xs r, rdLst rdPl most l = some (xs, r) ∧ LsOk kPl a l xs r w e w') ∨ (rdLst rdPl most l = none ∧ RdNo (.slice none 0 0) w e w') := by
  obtain ⟨iz, hi, hz0, hz1, hz2⟩ := info_parts infoPl
  subst hL
  have hnm := ((rdN_is most (by unfold M64; omega)).form l n r1 h.2 hn).2
  have HC0 : Hid (Calls Try.prog 56 #[.slice a l.length l.length, .int .i64 y] w fun e w' => RdOk a l (.int .i64 (n : Int)) r1 w e w') := readInt_ok a _ l most (n : Int) y r1 w h rfl hm (by unfold M63; omega) hy (by unfold rdI; rw [hn]; rfl)
  rw [rdLst_n hn]
  have HI : Hid (IsB w a l) := h
  clear h hn hy
  go_enter Try.func43, Try.ntmps43
  go_wp2_with (first
    | (go_at_call 56; go_loud (refine HC0.out.mono ?_; rintro e w1 ⟨a1, rfl, hs1, hb1⟩; have HX : Hid (Sub a l a1 r1 ∧ Below w.heap.size w w1) := ⟨hs1, hb1⟩; have hlr := hs1.len; clear hs1 hb1))
    | (at_make; go_loud (refine wpList_make_full _ (by rfl) (.tmp 22) (.tmp 22) 57 (by rfl) 0 83 iz _ 2 Try.underlying57 hi hz0 hz1 .i64 .i64 _ _ n (by rfl) (by rfl) rfl rfl (by rw [hz2]; omega) (by unfold maxLen; omega) (Nat.zero_le _) ?_; intro w2 hown2 hgr2; have HM : Hid (Mk kPl w2 w1.heap.size n [] ∧ Below w.heap.size w w2) := ⟨Mk.start (K := kPl) hown2, HX.out.2.trans ((Below.grown (Below.refl _ _) hgr2 (Nat.le_refl _) (by simp)).mono HX.out.2.size)⟩; clear hown2 hgr2)))
  have hG : w.heap.size ≤ w1.heap.size := HX.out.2.size
  have HS : Hid (Sub a l a1 r1) := HX.out.1
  obtain ⟨G, hGG⟩ : ∃ G, w1.heap.size = G := ⟨_, rfl⟩
  rw [hGG] at hG HM ⊢
  clear hGG HX
  go_loopw [0, 26] (fun b i wr => ∃ (k : Nat) (xs : List Pl) (r : List Nat) (a2 : Option Addr), k ≤ n ∧ b = .slice a2 r.length r.length ∧ i = .int .i64 (k : Int) ∧ r.length ≤ l.length ∧ Hid (Rk rdPl n r1 k xs r ∧ Sub a l a2 r ∧ Mk kPl wr G n xs ∧ Below w.heap.size w wr)) (fun _ i _ => n - (intOf i).toNat)
  case atStart => exact ⟨0, [], r1, a1, by omega, rfl, rfl, hlr, Rk.start _ _ _, HS.out, HM.out.1, HM.out.2⟩
  case round =>
    clear HM HS hlr
    obtain ⟨k, xs, r, a2, hk, rfl, rfl, hrl, HX⟩ := hrel
    rename World => wr
    by_cases hlt : k < n
    · have q1 : (k : Int) < (n : Int) := by omega
      have hB := (HX.out.2.1.isB HI.out).below HX.out.2.2.2
      have hc := readPlace_any a2 r.length r wr hB rfl (by omega)
      clear hB
      cases hrd : rdPl r with
      | some y =>
        obtain ⟨y1, y2⟩ := y
        have HC : Hid (Calls Try.prog 44 #[.slice a2 r.length r.length] wr fun e w' => RdOk a2 r (.agg #[.int .i64 y1.1, .int .u64 (y1.2 : Int)]) y2 wr e w') := hc.mono fun e w' hp => hp.ok hrd
        have HRR : Hid (rdPl r = some (y1, y2)) := hrd
        clear hc hrd
        go_wp2_with (go_at_call 44; go_loud (refine HC.out.mono ?_; rintro e w3 ⟨a3, rfl, hs3, hb3⟩; have HY : Hid (Sub a l a3 y2 ∧ Mk kPl w3 G n xs ∧ Below w.heap.size w w3) := ⟨HX.out.2.1.trans hs3, HX.out.2.2.1.below hb3, HX.out.2.2.2.trans (hb3.mono HX.out.2.2.2.size)⟩; obtain ⟨u0, d0⟩ := HY.out.2.1.ex (j := k * 2) (by show _ < n * 2; omega); obtain ⟨u1, d1⟩ := HY.out.2.1.ex (j := k * 2 + 1) (by show _ < n * 2; omega); have f0 := HY.out.2.1.fr (k * 2); have f1 := HY.out.2.1.fr (k * 2 + 1); have hsl := hs3.len; clear hs3 hb3))
        go_roundw
        case rel =>
          have hadd := HY.out.2.1.add y1 (by rw [HX.out.1.1]; exact hlt)
          rw [HX.out.1.1] at hadd
          have hbb := sets_below (w0 := w) (w := w3) G hG (kPl.cs y1) (k * kPl.size) HY.out.2.2
          change Mk kPl (sets w3 G (k * 2) ([.int .i64 y1.1, .int .u64 (y1.2 : Int)])) G n (xs ++ [y1]) at hadd
          change Below w.heap.size w (sets w3 G (k * 2) ([.int .i64 y1.1, .int .u64 (y1.2 : Int)])) at hbb
          exact ⟨k + 1, xs ++ [y1], y2, a3, by omega, rfl, by go_num, by omega, HX.out.1.step hlt HRR.out, HY.out.1, hadd, hbb⟩
        case measure => simp [intOf]; omega
      | none =>
        have HC : Hid (Calls Try.prog 44 #[.slice a2 r.length r.length] wr fun e w' => RdNo (.agg #[.int .i64 0, .int .u64 0]) wr e w') := hc.mono fun e w' hp => hp.no hrd
        have HRR : Hid (rdL rdPl n r1 = none) := HX.out.1.no hlt hrd
        clear hc hrd
        go_wp2_with (go_at_call 44; go_loud (refine HC.out.mono ?_; rintro e w3 ⟨rfl, hb3⟩; have HY : Hid (True ∧ Mk kPl w3 G n xs ∧ Below w.heap.size w w3) := ⟨trivial, HX.out.2.2.1.below hb3, HX.out.2.2.2.trans (hb3.mono HX.out.2.2.2.size)⟩; obtain ⟨u0, d0⟩ := HY.out.2.1.ex (j := k * 2) (by show _ < n * 2; omega); obtain ⟨u1, d1⟩ := HY.out.2.1.ex (j := k * 2 + 1) (by show _ < n * 2; omega); have f0 := HY.out.2.1.fr (k * 2); have f1 := HY.out.2.1.fr (k * 2 + 1); clear hb3))
        go_ret3
        have hbb := sets_below (w0 := w) (w := w3) G hG (kPl.zero.cells.toList) (k * 2) HY.out.2.2
        change Below w.heap.size w (sets w3 G (k * 2) _) at hbb
        exact .inr ⟨HRR.out, rfl, hbb⟩
    · obtain rfl : k = n := by omega
      have q1 : ¬ (k : Int) < (k : Int) := by omega
      go_wp2
      go_ret3
      have hl := HX.out.1.1
      refine .inl ⟨xs, r, HX.out.1.done, G, a2, ?_, HX.out.2.1, HX.out.2.2.2, hG, HX.out.2.2.1.done hl⟩
      rw [hl]
      rfl
set_option maxHeartbeats 1000000 in
theorem readListL_no (a : Option Addr) (L : Nat) (l : List Nat) (most : Nat) (y : Int) (w : World) (h : IsB w a l) (hL : l.length = L) (hm : L ≤ 9223372036854775807) (hmo : most ≤ 1000) (hy : y = most) (hn : rdN most l = none) :
    Calls Try.prog 43 #[.slice a L L, .int .i64 y, .func (.func 44) #[] #[]] w fun e w' => RdNo (.slice none 0 0) w e w' := by
  have HC0 : Hid (Calls Try.prog 56 #[.slice a L L, .int .i64 y] w fun e w' => RdNo (.int .i64 0) w e w') := readInt_no a _ l most y w h hL hm (by unfold M63; omega) hy (by unfold rdI; rw [hn]; rfl)
  clear h hn hy hL hmo
  go_enter Try.func43, Try.ntmps43
  go_wp2_with (go_at_call 56; go_loud (refine HC0.out.mono ?_; rintro e w1 ⟨rfl, hb1⟩; have HX : Hid (Below w.heap.size w w1) := hb1; clear hb1))
  go_ret3
  exact ⟨rfl, HX.out⟩
theorem readListL_any (a : Option Addr) (L : Nat) (l : List Nat) (most : Nat) (y : Int) (w : World) (h : IsB w a l) (hL : l.length = L) (hm : L ≤ 9223372036854775807) (hmo : most ≤ 1000) (hy : y = most) :
    Calls Try.prog 43 #[.slice a L L, .int .i64 y, .func (.func 44) #[] #[]] w fun e w' => (∃ xs r, rdLst rdPl most l = some (xs, r) ∧ LsOk kPl a l xs r w e w') ∨ (rdLst rdPl most l = none ∧ RdNo (.slice none 0 0) w e w') := by
  cases hn : rdN most l with
  | some x => exact readListL_ok a L l most x.1 y x.2 w h hL hm hmo hy hn
  | none => exact (readListL_no a L l most y w h hL hm hmo hy hn).mono fun e w' hp => .inr ⟨by unfold rdLst; rw [hn]; rfl, hp⟩

set_option maxHeartbeats 2000000 in
theorem readListD_ok (a : Option Addr) (L : Nat) (l : List Nat) (most n : Nat) (y : Int) (r1 : List Nat) (w : World) (h : IsB w a l) (hL : l.length = L) (hm : L ≤ 9223372036854775807) (hmo : most ≤ 1000) (hy : y = most) (hn : rdN most l = some (n, r1)) :
    Calls Try.prog 45 #[.slice a L L, .int .i64 y, .func (.func 46) #[] #[]] w fun e w' => (∃ xs r, rdLst rdPd most l = some (xs, r) ∧ LsOk kPd a l xs r w e w') ∨ (rdLst rdPd most l = none ∧ RdNo (.slice none 0 0) w e w') := by
  obtain ⟨iz, hi, hz0, hz1, hz2⟩ := info_parts infoPd
  subst hL
  have hnm := ((rdN_is most (by unfold M64; omega)).form l n r1 h.2 hn).2
  have HC0 : Hid (Calls Try.prog 56 #[.slice a l.length l.length, .int .i64 y] w fun e w' => RdOk a l (.int .i64 (n : Int)) r1 w e w') := readInt_ok a _ l most (n : Int) y r1 w h rfl hm (by unfold M63; omega) hy (by unfold rdI; rw [hn]; rfl)
  rw [rdLst_n hn]
  have HI : Hid (IsB w a l) := h
  clear h hn hy
  go_enter Try.func45, Try.ntmps45
  go_wp2_with (first
    | (go_at_call 56; go_loud (refine HC0.out.mono ?_; rintro e w1 ⟨a1, rfl, hs1, hb1⟩; have HX : Hid (Sub a l a1 r1 ∧ Below w.heap.size w w1) := ⟨hs1, hb1⟩; have hlr := hs1.len; clear hs1 hb1))
    | (at_make; go_loud (refine wpList_make_full _ (by rfl) (.tmp 22) (.tmp 22) 58 (by rfl) 0 87 iz _ 7 Try.underlying58 hi hz0 hz1 .i64 .i64 _ _ n (by rfl) (by rfl) rfl rfl (by rw [hz2]; omega) (by unfold maxLen; omega) (Nat.zero_le _) ?_; intro w2 hown2 hgr2; have HM : Hid (Mk kPd w2 w1.heap.size n [] ∧ Below w.heap.size w w2) := ⟨Mk.start (K := kPd) hown2, HX.out.2.trans ((Below.grown (Below.refl _ _) hgr2 (Nat.le_refl _) (by simp)).mono HX.out.2.size)⟩; clear hown2 hgr2)))
  have hG : w.heap.size ≤ w1.heap.size := HX.out.2.size
  have HS : Hid (Sub a l a1 r1) := HX.out.1
  obtain ⟨G, hGG⟩ : ∃ G, w1.heap.size = G := ⟨_, rfl⟩
  rw [hGG] at hG HM ⊢
  clear hGG HX
  go_loopw [0, 26] (fun b i wr => ∃ (k : Nat) (xs : List Pd) (r : List Nat) (a2 : Option Addr), k ≤ n ∧ b = .slice a2 r.length r.length ∧ i = .int .i64 (k : Int) ∧ r.length ≤ l.length ∧ Hid (Rk rdPd n r1 k xs r ∧ Sub a l a2 r ∧ Mk kPd wr G n xs ∧ Below w.heap.size w wr)) (fun _ i _ => n - (intOf i).toNat)
  case atStart => exact ⟨0, [], r1, a1, by omega, rfl, rfl, hlr, Rk.start _ _ _, HS.out, HM.out.1, HM.out.2⟩
  case round =>
    clear HM HS hlr
    obtain ⟨k, xs, r, a2, hk, rfl, rfl, hrl, HX⟩ := hrel
    rename World => wr
    by_cases hlt : k < n
    · have q1 : (k : Int) < (n : Int) := by omega
      have hB := (HX.out.2.1.isB HI.out).below HX.out.2.2.2
      have hc := readPlaced_any a2 r.length r wr hB rfl (by omega)
      clear hB
      cases hrd : rdPd r with
      | some y =>
        obtain ⟨y1, y2⟩ := y
        have HC : Hid (Calls Try.prog 46 #[.slice a2 r.length r.length] wr fun e w' => RdOk a2 r (.agg #[.int .i64 y1.lv, .int .u64 (y1.no : Int), .int .i64 y1.we, .int .i64 y1.by_, .int .i64 y1.en, .string y1.le, .string y1.gr]) y2 wr e w') := hc.mono fun e w' hp => hp.ok hrd
        have HRR : Hid (rdPd r = some (y1, y2)) := hrd
        clear hc hrd
        go_wp2_with (go_at_call 46; go_loud (refine HC.out.mono ?_; rintro e w3 ⟨a3, rfl, hs3, hb3⟩; have HY : Hid (Sub a l a3 y2 ∧ Mk kPd w3 G n xs ∧ Below w.heap.size w w3) := ⟨HX.out.2.1.trans hs3, HX.out.2.2.1.below hb3, HX.out.2.2.2.trans (hb3.mono HX.out.2.2.2.size)⟩; obtain ⟨u0, d0⟩ := HY.out.2.1.ex (j := k * 7) (by show _ < n * 7; omega); obtain ⟨u1, d1⟩ := HY.out.2.1.ex (j := k * 7 + 1) (by show _ < n * 7; omega); obtain ⟨u2, d2⟩ := HY.out.2.1.ex (j := k * 7 + 2) (by show _ < n * 7; omega); obtain ⟨u3, d3⟩ := HY.out.2.1.ex (j := k * 7 + 3) (by show _ < n * 7; omega); obtain ⟨u4, d4⟩ := HY.out.2.1.ex (j := k * 7 + 4) (by show _ < n * 7; omega); obtain ⟨u5, d5⟩ := HY.out.2.1.ex (j := k * 7 + 5) (by show _ < n * 7; omega); obtain ⟨u6, d6⟩ := HY.out.2.1.ex (j := k * 7 + 6) (by show _ < n * 7; omega); have f0 := HY.out.2.1.fr (k * 7); have f1 := HY.out.2.1.fr (k * 7 + 1); have f2 := HY.out.2.1.fr (k * 7 + 2); have f3 := HY.out.2.1.fr (k * 7 + 3); have f4 := HY.out.2.1.fr (k * 7 + 4); have f5 := HY.out.2.1.fr (k * 7 + 5); have f6 := HY.out.2.1.fr (k * 7 + 6); have hsl := hs3.len; clear hs3 hb3))
        go_roundw
        case rel =>
          have hadd := HY.out.2.1.add y1 (by rw [HX.out.1.1]; exact hlt)
          rw [HX.out.1.1] at hadd
          have hbb := sets_below (w0 := w) (w := w3) G hG (kPd.cs y1) (k * kPd.size) HY.out.2.2
          change Mk kPd (sets w3 G (k * 7) ([.int .i64 y1.lv, .int .u64 (y1.no : Int), .int .i64 y1.we, .int .i64 y1.by_, .int .i64 y1.en, .string y1.le, .string y1.gr])) G n (xs ++ [y1]) at hadd
          change Below w.heap.size w (sets w3 G (k * 7) ([.int .i64 y1.lv, .int .u64 (y1.no : Int), .int .i64 y1.we, .int .i64 y1.by_, .int .i64 y1.en, .string y1.le, .string y1.gr])) at hbb
          exact ⟨k + 1, xs ++ [y1], y2, a3, by omega, rfl, by go_num, by omega, HX.out.1.step hlt HRR.out, HY.out.1, hadd, hbb⟩
        case measure => simp [intOf]; omega
      | none =>
        have HC : Hid (Calls Try.prog 46 #[.slice a2 r.length r.length] wr fun e w' => RdNo (.agg #[.int .i64 0, .int .u64 0, .int .i64 0, .int .i64 0, .int .i64 0, .string ⟨#[]⟩, .string ⟨#[]⟩]) wr e w') := hc.mono fun e w' hp => hp.no hrd
        have HRR : Hid (rdL rdPd n r1 = none) := HX.out.1.no hlt hrd
        clear hc hrd
        go_wp2_with (go_at_call 46; go_loud (refine HC.out.mono ?_; rintro e w3 ⟨rfl, hb3⟩; have HY : Hid (True ∧ Mk kPd w3 G n xs ∧ Below w.heap.size w w3) := ⟨trivial, HX.out.2.2.1.below hb3, HX.out.2.2.2.trans (hb3.mono HX.out.2.2.2.size)⟩; obtain ⟨u0, d0⟩ := HY.out.2.1.ex (j := k * 7) (by show _ < n * 7; omega); obtain ⟨u1, d1⟩ := HY.out.2.1.ex (j := k * 7 + 1) (by show _ < n * 7; omega); obtain ⟨u2, d2⟩ := HY.out.2.1.ex (j := k * 7 + 2) (by show _ < n * 7; omega); obtain ⟨u3, d3⟩ := HY.out.2.1.ex (j := k * 7 + 3) (by show _ < n * 7; omega); obtain ⟨u4, d4⟩ := HY.out.2.1.ex (j := k * 7 + 4) (by show _ < n * 7; omega); obtain ⟨u5, d5⟩ := HY.out.2.1.ex (j := k * 7 + 5) (by show _ < n * 7; omega); obtain ⟨u6, d6⟩ := HY.out.2.1.ex (j := k * 7 + 6) (by show _ < n * 7; omega); have f0 := HY.out.2.1.fr (k * 7); have f1 := HY.out.2.1.fr (k * 7 + 1); have f2 := HY.out.2.1.fr (k * 7 + 2); have f3 := HY.out.2.1.fr (k * 7 + 3); have f4 := HY.out.2.1.fr (k * 7 + 4); have f5 := HY.out.2.1.fr (k * 7 + 5); have f6 := HY.out.2.1.fr (k * 7 + 6); clear hb3))
        go_ret3
        have hbb := sets_below (w0 := w) (w := w3) G hG (kPd.zero.cells.toList) (k * 7) HY.out.2.2
        change Below w.heap.size w (sets w3 G (k * 7) _) at hbb
        exact .inr ⟨HRR.out, rfl, hbb⟩
    · obtain rfl : k = n := by omega
      have q1 : ¬ (k : Int) < (k : Int) := by omega
      go_wp2
      go_ret3
      have hl := HX.out.1.1
      refine .inl ⟨xs, r, HX.out.1.done, G, a2, ?_, HX.out.2.1, HX.out.2.2.2, hG, HX.out.2.2.1.done hl⟩
      rw [hl]
      rfl
set_option maxHeartbeats 1000000 in
theorem readListD_no (a : Option Addr) (L : Nat) (l : List Nat) (most : Nat) (y : Int) (w : World) (h : IsB w a l) (hL : l.length = L) (hm : L ≤ 9223372036854775807) (hmo : most ≤ 1000) (hy : y = most) (hn : rdN most l = none) :
    Calls Try.prog 45 #[.slice a L L, .int .i64 y, .func (.func 46) #[] #[]] w fun e w' => RdNo (.slice none 0 0) w e w' := by
  have HC0 : Hid (Calls Try.prog 56 #[.slice a L L, .int .i64 y] w fun e w' => RdNo (.int .i64 0) w e w') := readInt_no a _ l most y w h hL hm (by unfold M63; omega) hy (by unfold rdI; rw [hn]; rfl)
  clear h hn hy hL hmo
  go_enter Try.func45, Try.ntmps45
  go_wp2_with (go_at_call 56; go_loud (refine HC0.out.mono ?_; rintro e w1 ⟨rfl, hb1⟩; have HX : Hid (Below w.heap.size w w1) := hb1; clear hb1))
  go_ret3
  exact ⟨rfl, HX.out⟩
theorem readListD_any (a : Option Addr) (L : Nat) (l : List Nat) (most : Nat) (y : Int) (w : World) (h : IsB w a l) (hL : l.length = L) (hm : L ≤ 9223372036854775807) (hmo : most ≤ 1000) (hy : y = most) :
    Calls Try.prog 45 #[.slice a L L, .int .i64 y, .func (.func 46) #[] #[]] w fun e w' => (∃ xs r, rdLst rdPd most l = some (xs, r) ∧ LsOk kPd a l xs r w e w') ∨ (rdLst rdPd most l = none ∧ RdNo (.slice none 0 0) w e w') := by
  cases hn : rdN most l with
  | some x => exact readListD_ok a L l most x.1 y x.2 w h hL hm hmo hy hn
  | none => exact (readListD_no a L l most y w h hL hm hmo hy hn).mono fun e w' hp => .inr ⟨by unfold rdLst; rw [hn]; rfl, hp⟩

set_option maxHeartbeats 2000000 in
theorem readListS_ok (a : Option Addr) (L : Nat) (l : List Nat) (most n : Nat) (y : Int) (r1 : List Nat) (w : World) (h : IsB w a l) (hL : l.length = L) (hm : L ≤ 9223372036854775807) (hmo : most ≤ 1000) (hy : y = most) (hn : rdN most l = some (n, r1)) :
    Calls Try.prog 47 #[.slice a L L, .int .i64 y, .func (.func 48) #[] #[]] w fun e w' => (∃ xs r, rdLst rdK most l = some (xs, r) ∧ LsOk kT a l xs r w e w') ∨ (rdLst rdK most l = none ∧ RdNo (.slice none 0 0) w e w') := by
  obtain ⟨iz, hi, hz0, hz1, hz2⟩ := info_parts infoT
  subst hL
  have hnm := ((rdN_is most (by unfold M64; omega)).form l n r1 h.2 hn).2
  have HC0 : Hid (Calls Try.prog 56 #[.slice a l.length l.length, .int .i64 y] w fun e w' => RdOk a l (.int .i64 (n : Int)) r1 w e w') := readInt_ok a _ l most (n : Int) y r1 w h rfl hm (by unfold M63; omega) hy (by unfold rdI; rw [hn]; rfl)
  rw [rdLst_n hn]
  have HI : Hid (IsB w a l) := h
  clear h hn hy
  go_enter Try.func47, Try.ntmps47
  go_wp2_with (first
    | (go_at_call 56; go_loud (refine HC0.out.mono ?_; rintro e w1 ⟨a1, rfl, hs1, hb1⟩; have HX : Hid (Sub a l a1 r1 ∧ Below w.heap.size w w1) := ⟨hs1, hb1⟩; have hlr := hs1.len; clear hs1 hb1))
    | (at_make; go_loud (refine wpList_make_full _ (by rfl) (.tmp 22) (.tmp 22) 59 (by rfl) 0 9 iz _ 1 Try.underlying59 hi hz0 hz1 .i64 .i64 _ _ n (by rfl) (by rfl) rfl rfl (by rw [hz2]; omega) (by unfold maxLen; omega) (Nat.zero_le _) ?_; intro w2 hown2 hgr2; have HM : Hid (Mk kT w2 w1.heap.size n [] ∧ Below w.heap.size w w2) := ⟨Mk.start (K := kT) hown2, HX.out.2.trans ((Below.grown (Below.refl _ _) hgr2 (Nat.le_refl _) (by simp)).mono HX.out.2.size)⟩; clear hown2 hgr2)))
  have hG : w.heap.size ≤ w1.heap.size := HX.out.2.size
  have HS : Hid (Sub a l a1 r1) := HX.out.1
  obtain ⟨G, hGG⟩ : ∃ G, w1.heap.size = G := ⟨_, rfl⟩
  rw [hGG] at hG HM ⊢
  clear hGG HX
  go_loopw [0, 26] (fun b i wr => ∃ (k : Nat) (xs : List ByteArray) (r : List Nat) (a2 : Option Addr), k ≤ n ∧ b = .slice a2 r.length r.length ∧ i = .int .i64 (k : Int) ∧ r.length ≤ l.length ∧ Hid (Rk rdK n r1 k xs r ∧ Sub a l a2 r ∧ Mk kT wr G n xs ∧ Below w.heap.size w wr)) (fun _ i _ => n - (intOf i).toNat)
  case atStart => exact ⟨0, [], r1, a1, by omega, rfl, rfl, hlr, Rk.start _ _ _, HS.out, HM.out.1, HM.out.2⟩
  case round =>
    clear HM HS hlr
    obtain ⟨k, xs, r, a2, hk, rfl, rfl, hrl, HX⟩ := hrel
    rename World => wr
    by_cases hlt : k < n
    · have q1 : (k : Int) < (n : Int) := by omega
      have hB := (HX.out.2.1.isB HI.out).below HX.out.2.2.2
      have hc := readKey_any a2 r.length r wr hB rfl (by omega)
      clear hB
      cases hrd : rdK r with
      | some y =>
        obtain ⟨y1, y2⟩ := y
        have HC : Hid (Calls Try.prog 48 #[.slice a2 r.length r.length] wr fun e w' => RdOk a2 r (.string y1) y2 wr e w') := hc.mono fun e w' hp => hp.ok hrd
        have HRR : Hid (rdK r = some (y1, y2)) := hrd
        clear hc hrd
        go_wp2_with (go_at_call 48; go_loud (refine HC.out.mono ?_; rintro e w3 ⟨a3, rfl, hs3, hb3⟩; have HY : Hid (Sub a l a3 y2 ∧ Mk kT w3 G n xs ∧ Below w.heap.size w w3) := ⟨HX.out.2.1.trans hs3, HX.out.2.2.1.below hb3, HX.out.2.2.2.trans (hb3.mono HX.out.2.2.2.size)⟩; obtain ⟨u0, d0⟩ := HY.out.2.1.ex (j := k * 1) (by show _ < n * 1; omega); have f0 := HY.out.2.1.fr (k * 1); rw [Nat.mul_one] at d0 f0; have hsl := hs3.len; clear hs3 hb3))
        go_roundw
        case rel =>
          have hadd := HY.out.2.1.add y1 (by rw [HX.out.1.1]; exact hlt)
          rw [HX.out.1.1] at hadd
          have hbb := sets_below (w0 := w) (w := w3) G hG (kT.cs y1) (k * kT.size) HY.out.2.2
          change Mk kT (sets w3 G (k * 1) ([.string y1])) G n (xs ++ [y1]) at hadd
          change Below w.heap.size w (sets w3 G (k * 1) ([.string y1])) at hbb
          rw [Nat.mul_one] at hadd hbb
          exact ⟨k + 1, xs ++ [y1], y2, a3, by omega, rfl, by go_num, by omega, HX.out.1.step hlt HRR.out, HY.out.1, hadd, hbb⟩
        case measure => simp [intOf]; omega
      | none =>
        have HC : Hid (Calls Try.prog 48 #[.slice a2 r.length r.length] wr fun e w' => RdNo (.string ⟨#[]⟩) wr e w') := hc.mono fun e w' hp => hp.no hrd
        have HRR : Hid (rdL rdK n r1 = none) := HX.out.1.no hlt hrd
        clear hc hrd
        go_wp2_with (go_at_call 48; go_loud (refine HC.out.mono ?_; rintro e w3 ⟨rfl, hb3⟩; have HY : Hid (True ∧ Mk kT w3 G n xs ∧ Below w.heap.size w w3) := ⟨trivial, HX.out.2.2.1.below hb3, HX.out.2.2.2.trans (hb3.mono HX.out.2.2.2.size)⟩; obtain ⟨u0, d0⟩ := HY.out.2.1.ex (j := k * 1) (by show _ < n * 1; omega); have f0 := HY.out.2.1.fr (k * 1); rw [Nat.mul_one] at d0 f0; clear hb3))
        go_ret3
        have hbb := sets_below (w0 := w) (w := w3) G hG (kT.zero.cells.toList) (k * 1) HY.out.2.2
        change Below w.heap.size w (sets w3 G (k * 1) _) at hbb
        rw [Nat.mul_one] at hbb
        exact .inr ⟨HRR.out, rfl, hbb⟩
    · obtain rfl : k = n := by omega
      have q1 : ¬ (k : Int) < (k : Int) := by omega
      go_wp2
      go_ret3
      have hl := HX.out.1.1
      refine .inl ⟨xs, r, HX.out.1.done, G, a2, ?_, HX.out.2.1, HX.out.2.2.2, hG, HX.out.2.2.1.done hl⟩
      rw [hl]
      rfl
set_option maxHeartbeats 1000000 in
theorem readListS_no (a : Option Addr) (L : Nat) (l : List Nat) (most : Nat) (y : Int) (w : World) (h : IsB w a l) (hL : l.length = L) (hm : L ≤ 9223372036854775807) (hmo : most ≤ 1000) (hy : y = most) (hn : rdN most l = none) :
    Calls Try.prog 47 #[.slice a L L, .int .i64 y, .func (.func 48) #[] #[]] w fun e w' => RdNo (.slice none 0 0) w e w' := by
  have HC0 : Hid (Calls Try.prog 56 #[.slice a L L, .int .i64 y] w fun e w' => RdNo (.int .i64 0) w e w') := readInt_no a _ l most y w h hL hm (by unfold M63; omega) hy (by unfold rdI; rw [hn]; rfl)
  clear h hn hy hL hmo
  go_enter Try.func47, Try.ntmps47
  go_wp2_with (go_at_call 56; go_loud (refine HC0.out.mono ?_; rintro e w1 ⟨rfl, hb1⟩; have HX : Hid (Below w.heap.size w w1) := hb1; clear hb1))
  go_ret3
  exact ⟨rfl, HX.out⟩
theorem readListS_any (a : Option Addr) (L : Nat) (l : List Nat) (most : Nat) (y : Int) (w : World) (h : IsB w a l) (hL : l.length = L) (hm : L ≤ 9223372036854775807) (hmo : most ≤ 1000) (hy : y = most) :
    Calls Try.prog 47 #[.slice a L L, .int .i64 y, .func (.func 48) #[] #[]] w fun e w' => (∃ xs r, rdLst rdK most l = some (xs, r) ∧ LsOk kT a l xs r w e w') ∨ (rdLst rdK most l = none ∧ RdNo (.slice none 0 0) w e w') := by
  cases hn : rdN most l with
  | some x => exact readListS_ok a L l most x.1 y x.2 w h hL hm hmo hy hn
  | none => exact (readListS_no a L l most y w h hL hm hmo hy hn).mono fun e w' hp => .inr ⟨by unfold rdLst; rw [hn]; rfl, hp⟩
end Mnf
end Go.Proofs.Ytanpbknjnpmmnaa
