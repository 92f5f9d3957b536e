import Derived.Test.YtjfhhjkggjflfaaDoorBr1
namespace Go.Proofs.YtjfhhjkggjflfaaDoor
namespace Blr
open Go.RowKit CMath Byt Cod Laws Tsr BMath Blo
set_option linter.unusedVariables false
set_option maxRecDepth 20000

theorem all_take {l : List Nat} {f : Nat → Bool} {j x : Nat} (h : (l.take j).all f = true) (hx : l[j]? = some x) (hf : f x = true) : (l.take (j + 1)).all f = true := by
  obtain ⟨hk, e⟩ := List.getElem?_eq_some_iff.1 hx
  rw [List.take_succ_eq_append_getElem hk, e, List.all_append, h]
  simp [hf]

set_option maxHeartbeats 2000000 in
theorem refMay_any (a : Option Addr) (cap n : Nat) (l : List Nat) (s : ByteArray) (w : World) (h : IsB w a l) (hlen : l.length ≤ 1000000000000000) (hs : s.size ≤ 9223372036854775807) (hn : n = l.length) :
    Calls Tryd.prog 14 #[.slice a n cap, .string s] w fun e w' => e = .returned (.bool (may l (strB s))) ∧ Below w.heap.size w w' := by
  subst hn
  have HI : Hid (IsB w a l) := h
  clear h
  by_cases hl9 : l.length < 9
  · have q1 : (l.length : Int) - 1 < 8 := by omega
    have HM : Hid (may l (strB s) = true) := by show may l (strB s) = true; unfold may; rw [if_pos (.inl hl9)]
    go_enter Tryd.func14, Tryd.ntmps14
    go_wp2
    go_ret
    rw [HM.out]
    exact ⟨rfl, Below.refl _ _⟩
  · obtain ⟨N, hN⟩ : ∃ N, l.length = N + 1 := ⟨l.length - 1, by omega⟩
    obtain ⟨b1, o1, rfl, hr1⟩ := HI.out.1 (by rintro rfl; simp at hN)
    obtain ⟨x, hx⟩ : ∃ x, l[N]? = some x := ⟨_, List.getElem?_eq_getElem (by omega)⟩
    have hx256 : x < 256 := HI.out.2 x (List.mem_of_getElem? hx)
    have hxd : l.getD (l.length - 1) 0 = x := by rw [hN, Nat.add_sub_cancel, List.getD_eq_getElem?_getD, hx]; rfl
    have c0 := hr1.2 N x hx
    have hb1 := hr1.1
    have q1 : ¬ (N : Int) < 8 := by omega
    have HRW : Hid (BRow w b1 o1 l) := hr1
    have HXD : Hid (l.getD (l.length - 1) 0 = x) := hxd
    have HN : Hid (l.length = N + 1) := hN
    clear hr1 hxd hx
    rw [hN] at hlen ⊢
    by_cases hx0 : x = 0
    · have HM : Hid (may l (strB s) = true) := by show may l (strB s) = true; unfold may; rw [HXD.out, if_pos (.inr (.inl hx0))]
      subst hx0
      have c1 : w.cell? ⟨b1, o1 + N, none⟩ = some (.int .u8 0) := c0
      clear c0 hN
      go_enter Tryd.func14, Tryd.ntmps14
      go_wp2
      go_ret
      rw [HM.out]
      exact ⟨rfl, Below.refl _ _⟩
    · by_cases hx11 : 11 < x
      · have HM : Hid (may l (strB s) = true) := by show may l (strB s) = true; unfold may; rw [HXD.out, if_pos (.inr (.inr hx11))]
        have q2 : (11 : Int) < (x : Int) := by omega
        have q3 : ((x : Int) == 0) = false := by rw [beq_eq_false_iff_ne]; omega
        clear hN
        go_enter Tryd.func14, Tryd.ntmps14
        go_wp2
        go_ret
        rw [HM.out]
        exact ⟨rfl, Below.refl _ _⟩
      · have q2 : ¬ (11 : Int) < (x : Int) := by omega
        have q3 : ((x : Int) == 0) = false := by rw [beq_eq_false_iff_ne]; omega
        have HM : Hid (may l (strB s) = (spots (crc (strB s)) (8 * N) x).all (bit l)) := by
          show may l (strB s) = _
          unfold may
          rw [HXD.out, if_neg (by omega), hN, Nat.add_sub_cancel]
        clear hN
        go_enter Tryd.func14, Tryd.ntmps14
        go_wp2_with fail
        refine (spots_any s x (N * 8) w (by omega) (by omega) (by omega) hs).mono ?_
        rintro e w1 ⟨a1, c1, rfl, hN1, hbel, _⟩
        rw [Nat.mul_comm 8 N] at HM
        have hsl := spots_length (crc (strB s)) (N * 8) x
        have HSP : Hid (∀ p ∈ spots (crc (strB s)) (N * 8) x, p < N * 8) := fun p hp => spots_lt (by omega) hp
        have HN1 : Hid (IsN w1 a1 (spots (crc (strB s)) (N * 8) x)) := hN1
        have HRW1 : Hid (BRow w1 b1 o1 l) := HRW.out.below hbel hb1
        have HB1 : Hid (Below w.heap.size w w1) := hbel
        clear hN1 hbel
        rw [hsl]
        generalize spots (crc (strB s)) (N * 8) x = sp at *
        go_wp2_with fail
        go_loopw [7] (fun i wr => ∃ j d : Nat, j ≤ x ∧ i = .int .i64 (j : Int) ∧ wr = w1.drewN d ∧ (sp.take j).all (bit l) = true) (fun i _ => x - (intOf i).toNat)
        case atStart => exact ⟨0, 0, Nat.zero_le _, rfl, rfl, by simp⟩
        case round =>
          obtain ⟨j, d, hj, rfl, rfl, hall⟩ := hrel
          have HALL : Hid ((sp.take j).all (bit l) = true) := hall
          clear hall
          by_cases hlt : j < x
          · obtain ⟨p, hp⟩ : ∃ p, sp[j]? = some p := ⟨_, List.getElem?_eq_getElem (by omega)⟩
            obtain ⟨b2, o2, rfl, hr2⟩ := HN1.out (by rintro rfl; simp at hp)
            have hpl := HSP.out p (List.mem_of_getElem? hp)
            obtain ⟨z, hz⟩ : ∃ z, l[p / 8]? = some z := ⟨_, List.getElem?_eq_getElem (by rw [HN.out]; omega)⟩
            have hz256 : z < 256 := HI.out.2 z (List.mem_of_getElem? hz)
            have d0 := HRW1.out.2 (p / 8) z hz
            have d1 := hr2.2 j p hp
            have q4 : (j : Int) < (x : Int) := by omega
            have g1 : (p : Int) / 8 < (N : Int) + 1 := by omega
            have HBT : Hid (bit l p = z.testBit (p % 8)) := by show _ = _; unfold bit; rw [List.getD_eq_getElem?_getD, hz]; rfl
            have HNX : Hid (bit l p = true → (sp.take (j + 1)).all (bit l) = true) := fun hb => all_take HALL.out hp hb
            have HNO : Hid (bit l p = false → sp.all (bit l) = false) := fun hb => by
              rw [List.all_eq_false]
              exact ⟨p, List.mem_of_getElem? hp, by rw [hb]; simp⟩
            have e1 : (((z : Int) / (2 : Int) ^ (p % 8)).tmod 2 == 0) = !z.testBit (p % 8) := by
              rw [← (bit_all ⟨z, hz256⟩ ⟨p % 8, Nat.mod_lt p (by omega)⟩).2, Bool.eq_iff_iff]
              simp only [beq_iff_eq]
              have e : (z : Int) / (2 : Int) ^ (p % 8) = ((z / 2 ^ (p % 8) : Nat) : Int) := by simp
              rw [e, Int.tmod_eq_emod_of_nonneg (Int.natCast_nonneg _)]
              clear e
              generalize z / 2 ^ (p % 8) = zz
              omega
            clear hz hp hr2
            cases ht : z.testBit (p % 8) with
            | true =>
              rw [ht] at e1
              have HT1 : Hid ((sp.take (j + 1)).all (bit l) = true) := HNX.out (HBT.out.trans ht)
              simp only [Bool.not_true] at e1
              clear ht
              go_wp2
              go_quiet (fail)
              go_wp2
              go_roundw
              case rel => exact ⟨j + 1, _, by omega, by go_num, rfl, HT1.out⟩
              case measure => simp [intOf]; omega
            | false =>
              rw [ht] at e1
              have HF1 : Hid (may l (strB s) = false) := HM.out.trans (HNO.out (HBT.out.trans ht))
              simp only [Bool.not_false] at e1
              clear ht
              go_wp2
              go_quiet (fail)
              go_wp2
              go_ret
              rw [HF1.out]
              exact ⟨rfl, below_drewN (below_drewN HB1.out _) _⟩
          · obtain rfl : j = x := by omega
            have HT1 : Hid (may l (strB s) = true) := by
              show may l (strB s) = true
              rw [HM.out]
              have := HALL.out
              rw [List.take_of_length_le (by omega)] at this
              exact this
            go_wp2
            go_ret
            rw [HT1.out]
            exact ⟨rfl, below_drewN HB1.out _⟩
end Blr
end Go.Proofs.YtjfhhjkggjflfaaDoor
