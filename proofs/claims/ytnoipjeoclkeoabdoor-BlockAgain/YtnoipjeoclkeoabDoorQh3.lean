import Derived.Test.YtnoipjeoclkeoabDoorQh2
namespace Go.Proofs.YtnoipjeoclkeoabDoor
namespace BlockAgain
open Go.RowKit Go.Shelf CMath Byt Laws Irw Crw Cod Qe Qb
set_option linter.unusedVariables false
set_option linter.unusedSimpArgs false
set_option maxRecDepth 100000

theorem pushes_ge (R : Nat) (l : List Qb.En) : ∀ s, s.b.length + l.length ≤ (pushes R s l).b.length := by
  induction l with
  | nil => intro s; exact Nat.le_refl _
  | cons e l ih =>
    intro s
    rw [pushes_cons]
    have h1 := ih (push R s e)
    have h2 : (push R s e).b.length = s.b.length + (entB (sh R s e) e).length := by show (s.b ++ entB _ e).length = _; simp
    have h3 := entB_pos (sh R s e) e
    simp only [List.length_cons]
    omega
/-- Two lists of bytes. -/
theorem same_dec (a b : Option Addr) (ca cb n m : Nat) (l l' : List Nat) (w : World) (ha : IsB w a l) (hb : IsB w b l') (hlen : l.length ≤ 9223372036854775807) (hlen' : l'.length ≤ 9223372036854775807) (hn : n = l.length) (hm : m = l'.length) :
    Calls Tryd.prog 11 #[.slice a n ca, .slice b m cb] w fun e w' => e = .returned (.bool (decide (l = l'))) ∧ Below w.heap.size w w' := by
  by_cases he : l = l'
  · subst he
    rw [decide_eq_true rfl]
    exact (same_any a b ca cb n m l w ha hb hlen hn hm).mono fun e w' ⟨h1, q, h2⟩ => ⟨h1, by rw [h2]; exact below_drewN (Below.refl _ _) _⟩
  · rw [decide_eq_false he]
    by_cases hl : l'.length = l.length
    · exact (BlockTurned.same_ne a b ca cb n m l l' w ha hb hlen hl he hn (by omega)).mono fun e w' ⟨h1, q, h2⟩ => ⟨h1, by rw [h2]; exact below_drewN (Below.refl _ _) _⟩
    · have h1 : ¬ ((n : Int) = (m : Int)) := by omega
      have h2 : (((n : Int)) == ((m : Int))) = false := by simpa using h1
      have h3 : ¬ n = m := by omega
      clear ha hb hlen hlen' he hl hn hm
      go_enter Tryd.func11, Tryd.ntmps11
      go_wp2
      go_ret
      exact ⟨rfl, Below.refl _ _⟩
theorem Rn_nat (k : Nat) (h : 1 ≤ k) : Rn (k : Int) = k := by unfold Rn; omega
set_option maxHeartbeats 4000000 in
theorem walk (w : World) (ht : Tab w) (a : Option Addr) (cap : Nat) (l : List Nat) (hl : IsB w a l) (hn : a = none → cap = 0) (hcap : l.length ≤ cap) (hcm : cap ≤ 9223372036854775807) :
    Calls Tryd.prog 3 #[.slice a l.length cap] w fun e w' => e = .returned (.bool true) ∧ Below w.heap.size w w' := by
  have HT : Hid (Tab w) := ht
  have HL : Hid (IsB w a l ∧ (a = none → cap = 0)) := ⟨hl, hn⟩
  obtain ⟨L, hL⟩ : ∃ L, L = l.length := ⟨_, rfl⟩
  have HLL : Hid (L = l.length) := hL
  rw [← hL] at hcap ⊢
  clear ht hl hn hL
  by_cases h4 : (L : Int) ≤ 4096
  · have HKN : Hid (Calls Tryd.prog 5 #[] w fun e w' => e = .returned (.bool true) ∧ Below w.heap.size w w') := known_any w HT.out
    go_enter Tryd.func3, Tryd.ntmps3
    go_wp2_with (go_at_call 5; go_loud (refine HKN.out.mono ?_; rintro e w2 ⟨rfl, hb2⟩; have HB2 : Hid (Below w.heap.size w w2) := hb2; clear hb2))
    have HT2 : Hid (Tab w2) := HT.out.below HB2.out HT.out.lt
    refine (open_any a cap L l w2 HT2.out (HL.out.1.below HB2.out) HLL.out hcap hcm (by have := HLL.out; omega) HL.out.2).mono ?_
    rintro e w3 ⟨hb3, hop⟩
    have HB3 : Hid (Below w.heap.size w w3) := HB2.out.trans (hb3.mono HB2.out.size)
    cases ho : opn l with
    | none =>
      rw [ho] at hop
      dsimp only at hop
      subst hop
      clear hb3 ho
      dsimp only
      go_wp2_with (go_at_call 7; go_loud (refine (num_any _ _).mono ?_; rintro e w9 ⟨rfl, hw⟩; have hw2 := hw.symm; clear hw; subst hw2))
      go_ret
      exact ⟨rfl, HB3.out⟩
    | some x =>
      rw [ho] at hop
      obtain ⟨r0, es⟩ := x
      obtain ⟨K3, rfl, hk3⟩ := hop
      dsimp only at hk3
      obtain ⟨h1, hch, hbk, eb, hes⟩ := opn_is ho
      have hnn : ∀ e ∈ es, 0 ≤ e.2.1 := fun e he => by
        rw [hes] at he
        obtain ⟨y, hy, rfl⟩ := List.mem_map.1 he
        exact wk_nonneg _ eb [] (Nat.le_refl _) y hy
      have hok : ∀ e ∈ es, Ok e ∧ 0 ≤ e.2.1 := fun e he => ⟨chain_ok hch e he, hnn e he⟩
      have hel : es.length ≤ 4096 := by
        have q1 := pushes_ge r0 es st0
        have q2 := blk_len (pushes r0 st0 es)
        rw [hbk] at q2
        have q3 : st0.b.length = 0 := rfl
        have := HLL.out
        omega
      have hsz : ∀ e ∈ es, e.1.size ≤ 1000000 ∧ e.2.2.2.size ≤ 1000000 ∧ 0 ≤ e.2.1 := fun e he => by
        have q := hok e he
        refine ⟨by have := q.1.k2; omega, ?_, q.2⟩
        cases hd : e.2.2.1 with
        | true => have := q.1.d hd; omega
        | false => have := q.1.v hd; omega
      obtain ⟨R, hR1, hR2, hR3⟩ := some_restart (r := r0) (l := es) h1
      have HGV : Hid (Calls Tryd.prog 8 #[.pointer (some ⟨K3, 3, none⟩), .int .i64 (-1)] w3 fun e w' => ∃ a c, e = .returned (.slice a es.length c) ∧ Erw.IsE w' a es ∧ Below w3.heap.size w3 w') := by
        have hbl := pushes_len r0 es hok
        have := given_any w3 K3 3 _ _ (-1) hk3.z (by omega)
        rw [gv_neg, wkp_made hok] at this
        exact this.mono fun e w' ⟨a, c, h1, h2, _, _, _, h3⟩ => ⟨a, c, h1, h2, h3⟩
      have HBK : Hid (blk (pushes R st0 es) = l) := by show _ = _; rw [hR3]; exact hbk
      have HES : Hid (chain ⟨#[]⟩ es ∧ ∀ e ∈ es, e.1.size ≤ 1000000 ∧ e.2.2.2.size ≤ 1000000 ∧ 0 ≤ e.2.1) := ⟨hch, hsz⟩
      have HRN : Hid (1 ≤ R ∧ (R ≤ es.length ∨ R = 1)) := ⟨hR1, hR2⟩
      have HOK : Hid (∀ e ∈ es, Ok e ∧ 0 ≤ e.2.1) := hok
      obtain ⟨n, hnn'⟩ : ∃ n, n = es.length := ⟨_, rfl⟩
      have HNN : Hid (n = es.length) := hnn'
      rw [← hnn'] at HGV hel HRN
      clear hb3 ho hk3 h1 hch hbk hes hnn hok hsz hR1 hR2 hR3 hnn'
      dsimp only
      go_wp2_with (first
        | (go_at_call 7; go_loud (refine (num_any _ _).mono ?_; rintro e w9 ⟨rfl, hw⟩; have hw2 := hw.symm; clear hw; subst hw2))
        | (go_at_call 8; go_loud (refine HGV.out.mono ?_; rintro e w4 ⟨a4, c4, rfl, hi4, hb4⟩; have HB4 : Hid (Below w.heap.size w w4) := HB3.out.trans (hb4.mono HB3.out.size); have HI4 : Hid (Erw.IsE w4 a4 es) := hi4; clear hi4 hb4)))
      go_loopw [6] (fun i wr => ∃ k : Nat, 1 ≤ k ∧ k ≤ 4097 ∧ i = .int .i64 (k : Int) ∧ Hid (k ≤ R ∧ Below w4.heap.size w4 wr)) (fun i _ => R - (intOf i).toNat)
      case atStart => exact ⟨1, by omega, by omega, rfl, HRN.out.1, Below.refl _ _⟩
      case round =>
        obtain ⟨k, hk1, hk2, rfl, HK⟩ := hrel
        rename World => wr
        have HBW : Hid (Below w.heap.size w wr) := HB4.out.trans (HK.out.2.mono HB4.out.size)
        have hkn : (k : Int) ≤ (n : Int) ∨ (k = 1 ∧ ¬ (k : Int) ≤ (n : Int)) := by
          have := HRN.out.2
          have := HK.out.1
          omega
        have HMA : Hid (Calls Tryd.prog 9 #[.int .i64 (k : Int), .slice a4 n c4] wr fun e w' => ∃ N g c a' c', e = .returned (.tuple #[.slice (some ⟨g, 0, none⟩) N c, .slice a' n c', .bool true]) ∧ N = (blk (pushes k st0 es)).length ∧ IsB w' (some ⟨g, 0, none⟩) (blk (pushes k st0 es)) ∧ Erw.IsE w' a' es ∧ Below wr.heap.size wr w') := by
          refine (made_any wr (k : Int) a4 c4 n es (HT.out.below HBW.out HT.out.lt) (HI4.out.below HK.out.2) HNN.out (by omega) HES.out.2 ⟨by omega, by omega⟩).mono fun e w' h => ?_
          unfold MdIs at h
          rw [mds_chain HES.out.1, Rn_nat k hk1] at h
          obtain ⟨g, c, a', c', h1, _, _, _, h2, h3, _, _, h4⟩ := h
          rw [← HNN.out] at h1
          exact ⟨_, g, c, a', c', h1, rfl, h2, h3, h4⟩
        have HBN : Hid ((blk (pushes k st0 es)).length ≤ 9223372036854775807) := by
          show _ ≤ _
          have h1 := pushes_len k es HOK.out
          have h2 := pushes_plen k es st0
          have z1 : st0.p.length = 0 := rfl
          rw [blk_len]
          have := HNN.out
          omega
        have HKR : Hid (blk (pushes k st0 es) ≠ l → k < R) := fun hne => by
          have := HK.out.1
          rcases Nat.lt_or_ge k R with h | h
          · exact h
          · exact absurd (by rw [show k = R by omega]; exact HBK.out) hne
        rcases hkn with hkn | ⟨rfl, hkn⟩
        · have hkn2 : decide ((k : Int) ≤ (n : Int)) = true := decide_eq_true hkn
          go_wp2_with (go_at_call 9; go_loud (refine HMA.out.mono ?_; rintro e w5 ⟨N5, g5, c5, a5, d5, rfl, hN5, hib5, hie5, hb5⟩; have HI5 : Hid (IsB w5 (some ⟨g5, 0, none⟩) (blk (pushes k st0 es)) ∧ Erw.IsE w5 a5 es ∧ N5 = (blk (pushes k st0 es)).length) := ⟨hib5, hie5, hN5⟩; have HB45 : Hid (Below w4.heap.size w4 w5) := HK.out.2.trans (hb5.mono HK.out.2.size); clear hib5 hie5 hN5 hb5))
          refine (sameEntries_true _ _ _ _ n n es w5 HI5.out.2.1 (HI4.out.below HB45.out) HNN.out HNN.out (by omega)).mono ?_
          rintro e w6 ⟨rfl, hb6⟩
          have HB46 : Hid (Below w4.heap.size w4 w6) := HB45.out.trans (hb6.mono HB45.out.size)
          have HB6 : Hid (Below w.heap.size w w6) := HB4.out.trans (HB46.out.mono HB4.out.size)
          have HSD : Hid (Calls Tryd.prog 11 #[.slice (some ⟨g5, 0, none⟩) N5 c5, .slice a L cap] w6 fun e w' => e = .returned (.bool (decide (blk (pushes k st0 es) = l))) ∧ Below w6.heap.size w6 w') := same_dec _ _ _ _ _ _ _ _ w6 (HI5.out.1.below hb6) (HL.out.1.below HB6.out) HBN.out (by have := HLL.out; omega) HI5.out.2.2 HLL.out
          clear hb6
          dsimp only
          by_cases hd : blk (pushes k st0 es) = l
          · rw [decide_eq_true hd] at HSD
            clear hd
            go_wp2_with (go_at_call 11; go_loud (refine HSD.out.mono ?_; rintro e w7 ⟨rfl, hb7⟩; have HB7 : Hid (Below w.heap.size w w7) := HB6.out.trans (hb7.mono HB6.out.size); clear hb7))
            go_ret
            exact ⟨rfl, HB7.out⟩
          · rw [decide_eq_false hd] at HSD
            have HLT : Hid (k < R) := HKR.out hd
            have hR97 : R ≤ 4096 := by have := HRN.out.2; have := HRN.out.1; omega
            clear hd
            go_wp2_with (go_at_call 11; go_loud (refine HSD.out.mono ?_; rintro e w7 ⟨rfl, hb7⟩; have HB47 : Hid (Below w4.heap.size w4 w7) := HB46.out.trans (hb7.mono HB46.out.size); clear hb7))
            go_roundw
            case rel => exact ⟨k + 1, by omega, by have := HLT.out; omega, by go_num, HLT.out, HB47.out⟩
            case measure => have := HLT.out; simp [intOf]; omega
        · have hkn2 : decide (((1 : Nat) : Int) ≤ (n : Int)) = false := decide_eq_false hkn
          have h11 : ((1 : Nat) : Int) = 1 := rfl
          rw [h11] at hkn hkn2 HMA ⊢
          go_wp2_with (go_at_call 9; go_loud (refine HMA.out.mono ?_; rintro e w5 ⟨N5, g5, c5, a5, d5, rfl, hN5, hib5, hie5, hb5⟩; have HI5 : Hid (IsB w5 (some ⟨g5, 0, none⟩) (blk (pushes 1 st0 es)) ∧ Erw.IsE w5 a5 es ∧ N5 = (blk (pushes 1 st0 es)).length) := ⟨hib5, hie5, hN5⟩; have HB45 : Hid (Below w4.heap.size w4 w5) := HK.out.2.trans (hb5.mono HK.out.2.size); clear hib5 hie5 hN5 hb5))
          refine (sameEntries_true _ _ _ _ n n es w5 HI5.out.2.1 (HI4.out.below HB45.out) HNN.out HNN.out (by omega)).mono ?_
          rintro e w6 ⟨rfl, hb6⟩
          have HB46 : Hid (Below w4.heap.size w4 w6) := HB45.out.trans (hb6.mono HB45.out.size)
          have HB6 : Hid (Below w.heap.size w w6) := HB4.out.trans (HB46.out.mono HB4.out.size)
          have HSD : Hid (Calls Tryd.prog 11 #[.slice (some ⟨g5, 0, none⟩) N5 c5, .slice a L cap] w6 fun e w' => e = .returned (.bool (decide (blk (pushes 1 st0 es) = l))) ∧ Below w6.heap.size w6 w') := same_dec _ _ _ _ _ _ _ _ w6 (HI5.out.1.below hb6) (HL.out.1.below HB6.out) HBN.out (by have := HLL.out; omega) HI5.out.2.2 HLL.out
          clear hb6
          dsimp only
          by_cases hd : blk (pushes 1 st0 es) = l
          · rw [decide_eq_true hd] at HSD
            clear hd
            go_wp2_with (go_at_call 11; go_loud (refine HSD.out.mono ?_; rintro e w7 ⟨rfl, hb7⟩; have HB7 : Hid (Below w.heap.size w w7) := HB6.out.trans (hb7.mono HB6.out.size); clear hb7))
            go_ret
            exact ⟨rfl, HB7.out⟩
          · rw [decide_eq_false hd] at HSD
            have HLT : Hid (1 < R) := HKR.out hd
            have hR97 : R ≤ 4096 := by have := HRN.out.2; have := HRN.out.1; omega
            clear hd
            go_wp2_with (go_at_call 11; go_loud (refine HSD.out.mono ?_; rintro e w7 ⟨rfl, hb7⟩; have HB47 : Hid (Below w4.heap.size w4 w7) := HB46.out.trans (hb7.mono HB46.out.size); clear hb7))
            go_roundw
            case rel => exact ⟨1 + 1, by omega, by have := HLT.out; omega, by go_num, HLT.out, HB47.out⟩
            case measure => have := HLT.out; simp [intOf]; omega
  · clear hcap hcm
    go_enter Tryd.func3, Tryd.ntmps3
    go_wp2
    go_ret
    exact ⟨rfl, Below.refl _ _⟩
end BlockAgain
end Go.Proofs.YtnoipjeoclkeoabDoor
