import Derived.Test.YtkebbmdghnplmaaDoorQu3
import Derived.Test.YtkebbmdghnplmaaDoorQt3
import Derived.Test.YtkebbmdghnplmaaDoorQs8
namespace Go.Proofs.YtkebbmdghnplmaaDoor
namespace Qv
open Go.RowKit Go.Shelf CMath Byt Laws Irw Crw Cod Qb Qt
set_option linter.unusedVariables false
set_option linter.unusedSimpArgs false
set_option maxRecDepth 100000
/-- What stands of a block of at most 200000 bytes. -/
theorem opn_facts2 {b : List Nat} {y : Nat × List En} (hb : b.length ≤ 200000) (h : opn b = some y) :
    1 ≤ y.1 ∧ chain ⟨#[]⟩ y.2 ∧ (∀ e ∈ y.2, 0 ≤ e.2.1) ∧ (pushes y.1 st0 y.2).b.length ≤ 200000 ∧ (pushes y.1 st0 y.2).p.length ≤ 200000 ∧ y.2.length ≤ 200000 ∧ (∀ e ∈ y.2, e.1.size ≤ 1000000) ∧ (wkp (pushes y.1 st0 y.2).b 0).map Prod.snd = y.2 := by
  obtain ⟨R, m⟩ := y
  obtain ⟨h1, h2, h3, eb, h4⟩ := opn_is h
  have h0 : ∀ e ∈ m, 0 ≤ e.2.1 := fun e he => by
    rw [h4] at he
    obtain ⟨x, hx, rfl⟩ := List.mem_map.1 he
    exact wk_nonneg _ eb [] (Nat.le_refl _) x hx
  have hL := blk_len (pushes R st0 m)
  rw [h3] at hL
  have hok : ∀ e ∈ m, Ok e ∧ 0 ≤ e.2.1 := fun e he => ⟨chain_ok h2 e he, h0 e he⟩
  have hp := pushes_b R m st0
  have h5 := len_sumS (szs_pos R m 0 (strB st0.last))
  have h6 : (pushes R st0 m).b = tl R 0 (strB st0.last) m := by rw [hp]; rfl
  rw [szs_sum, szs_length, ← h6] at h5
  dsimp only
  refine ⟨h1, h2, h0, by omega, by omega, by omega, fun e he => ?_, wkp_made hok⟩
  have := (hok e he).1.k2
  omega
theorem again_any (w : World) (K o : Nat) (eb pb : List Nat) (nn : Int) (a : Option Addr) (c N : Nat) (l : List En) (hk : BlkZ w K o eb pb) (hE : (wkp eb 0).map Prod.snd = l) (hi : IsE w a l) (hN : N = l.length) (hl : N ≤ 1000000) (hc : N ≤ c) :
    Calls Tryd.prog 24 #[.pointer (some ⟨K, o, none⟩), .int .i64 nn, .slice a N c] w fun e w' => e = .returned (.bool true) ∧ Below w.heap.size w w' := callsIn_wide.1 (again_in w K o eb pb nn a c N l hk hE hi hN hl hc)
set_option maxHeartbeats 2000000 in
theorem anew_any (w : World) (ht : Tab w) (a1 : Option Addr) (c1 L : Nat) (r : List Nat) (hr : IsB w a1 r) (hn : a1 = none → c1 = 0) (hL : r.length = L) (hc : L ≤ c1) (hm : c1 ≤ 9223372036854775807) (hl : L ≤ 200000) :
    Calls Tryd.prog 23 #[.slice a1 L c1] w fun e w' => e = .returned (.bool true) ∧ Below w.heap.size w w' := by
  obtain ⟨i8, hi8, hz0, hz1, hz2⟩ := info_parts info8
  have HT : Hid (Tab w) := ht
  have HR : Hid (IsB w a1 r ∧ (a1 = none → c1 = 0) ∧ r.length = L ∧ L ≤ c1 ∧ c1 ≤ 9223372036854775807 ∧ L ≤ 200000) := ⟨hr, hn, hL, hc, hm, hl⟩
  clear ht hr hn hL hc hm hl
  have HOWN : Hid ((w.alloc (.cells #[] 5)).ownsRow w.heap.size 5 1 (.slice (some ⟨w.heap.size, 0, none⟩) 0 0) 0 (cellsB [])) := World.ownsRow_lit w #[] 0 (Nat.le_refl _) (by simp [maxLen]) (by simp)
  go_enter Tryd.func23, Tryd.ntmps23
  go_wp2_with (first
    | (at_builtin; go_loud (refine wpList_appB (by rfl) (.tmp 8) (.tmp 9) 22 (by rfl) w.heap.size 5 i8 Tryd.underlying22 hi8 hz0 hz1 hz2 _ [] 0 (by rfl) HOWN.out a1 L c1 r (by rfl) HR.out.2.2.1.symm HR.out.2.1 (HR.out.1.below ((Below.refl _ _).alloc (Nat.le_refl _) _)) (by have := HR.out.2.2.2.2.2; omega) (by simp) ?_; intro u1 w4 hown1 hgr1 hnn1; obtain ⟨g4, d4, hu4, hl4, hm4, hi4, hb4⟩ := copy_b HR.out.2.2.1 hown1 hgr1 (hnn1 (by simp)) HR.out.1.2; subst hu4; have HC4 : Hid (L ≤ d4 ∧ d4 ≤ 9223372036854775807 ∧ IsB w4 (some ⟨g4, 0, none⟩) r ∧ Below w.heap.size w w4) := ⟨hl4, hm4, hi4, hb4⟩; clear hown1 hgr1 hnn1 hl4 hm4 hi4 hb4))
    | (go_at_call 13; fail))
  have HOP := open_any a1 c1 L r w4 (HT.out.below HC4.out.2.2.2 HT.out.lt) (HR.out.1.below HC4.out.2.2.2) HR.out.2.2.1.symm HR.out.2.2.2.1 HR.out.2.2.2.2.1 (by have := HR.out.2.2.2.2.2; have := HR.out.2.2.1; omega) HR.out.2.1
  refine HOP.mono ?_
  clear HOP
  rintro e w5 ⟨hb5, hop⟩
  have HB5 : Hid (Below w4.heap.size w4 w5) := hb5
  have HRO : Hid (Calls Tryd.prog 14 #[.slice (some ⟨g4, 0, none⟩) L d4] w5 fun e w' => DocIs w5 r e w') := refOpen_any _ d4 L r w5 (HC4.out.2.2.1.below hb5) HR.out.2.2.1.symm HC4.out.1 HC4.out.2.1 (by have := HR.out.2.2.2.2.2; omega)
  clear hb5
  have HSM : Hid (∀ w6, Below w5.heap.size w5 w6 → Calls Tryd.prog 15 #[.slice a1 L c1, .slice (some ⟨g4, 0, none⟩) L d4] w6 fun e w' => e = .returned (.bool true) ∧ Below w6.heap.size w6 w') := fun w6 hb6 => by
    have hbr : Below w.heap.size w w6 := HC4.out.2.2.2.trans ((HB5.out.trans (hb6.mono HB5.out.size)).mono HC4.out.2.2.2.size)
    exact (same_any a1 (some ⟨g4, 0, none⟩) c1 d4 L L r w6 (HR.out.1.below hbr) ((HC4.out.2.2.1.below HB5.out).below hb6) (by have := HR.out.2.2.2.2.2; have := HR.out.2.2.1; omega) HR.out.2.2.1.symm HR.out.2.2.1.symm).mono fun e w' ⟨h1, n9, h2⟩ => ⟨h1, by rw [h2]; exact below_drewN (Below.refl _ _) _⟩
  have HBD : Hid (∀ w6, Below w5.heap.size w5 w6 → Below w.heap.size w w6) := fun w6 hb6 => HC4.out.2.2.2.trans ((HB5.out.trans (hb6.mono HB5.out.size)).mono HC4.out.2.2.2.size)
  cases ho : opn r with
  | none =>
    rw [ho] at hop
    subst hop
    have HO : Hid (opn r = none) := ho
    clear ho
    dsimp only
    go_wp2_with (go_at_call 14; fail)
    refine HRO.out.mono ?_
    rintro e w6 ⟨hb6, ⟨_, v6, rfl⟩ | ⟨R6, l6, a6, n6, c6, h6, _⟩⟩
    · have HB6 : Hid (Below w5.heap.size w5 w6) := hb6
      clear hb6
      dsimp only
      go_wp2_with (first
        | (go_at_call 15; go_loud (refine (HSM.out _ HB6.out).mono ?_; rintro e w7 ⟨rfl, hb7⟩; have HB7 : Hid (Below w.heap.size w w7) := HBD.out _ (HB6.out.trans (hb7.mono HB6.out.size)); clear hb7))
        | (go_at_call 16; go_loud (refine (num_any _ _).mono ?_; rintro e w9 ⟨rfl, hw⟩; have hw2 := hw.symm; clear hw; subst hw2)))
      go_ret
      exact ⟨rfl, HB7.out⟩
    · rw [HO.out] at h6; cases h6
  | some y =>
    rw [ho] at hop
    obtain ⟨M, rfl, hbk⟩ := hop
    have HF := opn_facts2 (by have := HR.out.2.2.1; have := HR.out.2.2.2.2.2; omega) ho
    have HO : Hid (opn r = some y ∧ BlkZ w5 M 3 (pushes y.1 st0 y.2).b (pushes y.1 st0 y.2).p ∧ (pushes y.1 st0 y.2).b.length ≤ 200000 ∧ y.2.length ≤ 200000 ∧ (wkp (pushes y.1 st0 y.2).b 0).map Prod.snd = y.2) := ⟨ho, hbk.z, HF.2.2.2.1, HF.2.2.2.2.2.1, HF.2.2.2.2.2.2.2⟩
    clear ho hbk HF
    dsimp only
    go_wp2_with (go_at_call 14; fail)
    refine HRO.out.mono ?_
    rintro e w6 ⟨hb6, ⟨h6, _⟩ | ⟨R6, l6, a6, n6, c6, h6, rfl, hn6, hie6, hg6, hc6, hz6⟩⟩
    · rw [HO.out.1] at h6; cases h6
    · have hy6 : y = (R6, l6) := by rw [HO.out.1] at h6; exact Option.some.inj h6
      have HI6 : Hid (IsE w6 a6 y.2 ∧ n6 = y.2.length) := by subst hy6; exact ⟨hie6, hn6⟩
      have HB6 : Hid (Below w5.heap.size w5 w6) := hb6
      have HGV : Hid (∀ W, Below w6.heap.size w6 W → Calls Tryd.prog 18 #[.pointer (some ⟨M, 3, none⟩), .int .i64 (-1)] W fun e w' => ∃ a c, e = .returned (.slice a n6 c) ∧ Hid (Erw.IsE w' a y.2) ∧ Below W.heap.size W w') := fun W hS => by
        have h1 := given_any W M 3 _ _ (-1) ((HO.out.2.1.below HB6.out).below hS) (by have := HO.out.2.2.1; omega)
        rw [gv_neg, HO.out.2.2.2.2] at h1
        refine h1.mono fun e w' ⟨a, c, e1, e2, _, _, _, e3⟩ => ⟨a, c, by rw [HI6.out.2]; exact e1, e2, e3⟩
      have HSE : Hid (∀ W a c, Erw.IsE W a y.2 → Below w6.heap.size w6 W → Calls Tryd.prog 17 #[.slice a n6 c, .slice a6 n6 c6] W fun e w' => e = .returned (.bool true) ∧ Below W.heap.size W w') := fun W a c hi hS =>
        sameEntries_true a a6 c c6 n6 n6 y.2 W hi (HI6.out.1.below hS) HI6.out.2 HI6.out.2 (by have := HI6.out.2; have := HO.out.2.2.2.1; omega)
      clear hb6 h6 hn6 hie6 hg6 hc6 hz6 hy6
      dsimp only
      go_wp2_with (first
        | (go_at_call 15; go_loud (refine (HSM.out _ HB6.out).mono ?_; rintro e w7 ⟨rfl, hb7⟩; have HB7 : Hid (Below w6.heap.size w6 w7) := hb7; clear hb7))
        | (go_at_call 16; go_loud (refine (num_any _ _).mono ?_; rintro e w9 ⟨rfl, hw⟩; have hw2 := hw.symm; clear hw; subst hw2))
        | (go_at_call 18; go_loud (refine (HGV.out _ HB7.out).mono ?_; rintro e w8 ⟨a8, c8, rfl, HI8, hb8⟩; have HB8 : Hid (Below w6.heap.size w6 w8) := HB7.out.trans (hb8.mono HB7.out.size); clear hb8))
        | (go_at_call 17; go_loud (refine (HSE.out _ _ _ HI8.out HB8.out).mono ?_; rintro e w9 ⟨rfl, hb9⟩; have HB9 : Hid (Below w.heap.size w w9) := HBD.out _ (HB6.out.trans ((HB8.out.trans (hb9.mono HB8.out.size)).mono HB6.out.size)); clear hb9)))
      go_ret
      exact ⟨rfl, HB9.out⟩
end Qv
end Go.Proofs.YtkebbmdghnplmaaDoor
