import Derived.Test.YtdbiliigbinmfaaDoorProg
import Derived.Test.YtdbiliigbinmfaaDoorUnf
import Derived.WalkKit
import Derived.WalkSpells
import Derived.WalkLawsBesides
import Derived.Deep.QuietTactic
import Derived.BigQuiet
namespace Go.Proofs.YtdbiliigbinmfaaDoor
namespace Cod
open Go.RowKit CMath Byt
set_option linter.unusedVariables false
set_option maxRecDepth 20000

theorem ownB_len (a : Option Addr) (n m c : Nat) : (Value.slice a n c).ownBlock = (Value.slice a m c).ownBlock := by cases a <;> rfl

set_option maxHeartbeats 1000000 in
theorem refFrame_any (a : Option Addr) (cap n : Nat) (l : List Nat) (w : World) (h : IsB w a l) (hc : a = none → cap = 0) (hk : l.length + 14 ≤ 140737488355328) (hn : n = l.length) :
    Calls Tryd.prog 20 #[.slice a n cap] w fun e w' => ∃ v, e = .returned v ∧ Own 5 w.heap.size w' v (frame l) ∧ Below w.heap.size w w' := by
  subst hn
  obtain ⟨i8, hi, hz0, hz1, hz2⟩ := info_parts info8
  have HI : Hid (IsB w a l) := h
  have HN : Hid (a = none → cap = 0) := hc
  have hs18 : l.length < 18446744073709551616 := by omega
  have h10 := num_le10 hs18
  have hp := num_pos l.length
  clear h hc
  go_enter Tryd.func20, Tryd.ntmps20
  go_wp2_with (first | (go_at_call 51; refine (number_any l.length w hs18).mono ?_; rintro e w2 ⟨v2, rfl, ho2, hb2⟩; have HO2 : Hid (Own 5 w.heap.size w2 v2 (num l.length)) := ho2; have HB2 : Hid (Below w.heap.size w w2) := hb2; have HI2 : Hid (IsB w2 a l) := HI.out.below HB2.out; clear ho2 hb2) | (at_builtin; refine wpList_appB (by rfl) (.tmp 7) (.tmp 8) 23 (by rfl) w.heap.size 5 i8 Tryd.underlying23 hi hz0 hz1 hz2 _ (num l.length) (num l.length).length (by rfl) HO2.out.row a l.length cap l (by rfl) rfl HN.out HI2.out (by omega) HB2.out.size ?_; intro v3 w3 hown3 hgr3 _; have HG3 : Hid (w2.grownBy w3 _) := hgr3; have HB3 : Hid (Below w.heap.size w w3) := below_of HB2.out HG3.out (Nat.le_refl _) (fun j hj => (HO2.out.row.lt j hj).1); have HO3 : Hid (Own 5 w.heap.size w3 v3 (num l.length ++ l)) := Own.pos hown3 (byte_app (num_byte _) HI.out.2) (by omega); clear hgr3 hown3))
  obtain ⟨a3, c3, e3, hn3⟩ := New.ofOwn HO3.out
  subst e3
  have HN3 : Hid (New 5 w.heap.size w3 a3 c3 (num l.length ++ l)) := hn3
  have hln : (num l.length ++ l).length ≤ 140737488355324 := by simp; omega
  have HLT : Hid (crc (num l.length ++ l) < 4294967296) := crc_lt _ hn3.byte
  clear hn3
  go_wp2_with fail
  refine (refSum_any a3 c3 _ (num l.length ++ l) w3 HN3.out.isB (by omega) (by simp)).mono ?_
  rintro e w' ⟨rfl, hw⟩
  have hw2 := hw.symm
  clear hw
  subst hw2
  go_wp2_with fail
  refine (four_any (crc (num l.length ++ l)) w3 HLT.out).mono ?_
  rintro e w4 ⟨v4, rfl, ho4, hb4⟩
  obtain ⟨a4, c4, e4, hn4⟩ := New.ofOwn ho4
  subst e4
  have HB4 : Hid (Below w3.heap.size w3 w4) := hb4
  have HN4 : Hid (New 5 w3.heap.size w4 a4 c4 (four (crc (num l.length ++ l)))) := hn4
  have HN34 : Hid (New 5 w.heap.size w4 a3 c3 (num l.length ++ l)) := HN3.out.below hb4
  have hl4 : (four (crc (num l.length ++ l))).length = 4 := rfl
  clear ho4 hb4 hn4
  go_wp2_with (at_builtin; refine wpList_appB (by rfl) (.tmp 10) (.tmp 13) 23 (by rfl) w.heap.size 5 i8 Tryd.underlying23 hi hz0 hz1 hz2 _ (num l.length ++ l) _ (by rfl) (by have := HN34.out.row; simp at this ⊢; exact this) a4 4 c4 (four (crc (num l.length ++ l))) (by rfl) rfl HN4.out.cap HN4.out.isB (by omega) (by have := HB3.out.size; have := HB4.out.size; omega) ?_; intro v5 w5 hown5 hgr5 _; have HG5 : Hid (w4.grownBy w5 _) := hgr5; have HO5 : Hid (w5.ownsRow w.heap.size 5 1 v5 _ (cellsB (num l.length ++ l ++ four (crc (num l.length ++ l))))) := hown5; clear hgr5 hown5)
  go_ret
  refine ⟨v5, rfl, Own.pos HO5.out (byte_app HN3.out.byte (four_byte _)) (by omega), ?_⟩
  have hb1 : Below w.heap.size w w4 := HB3.out.trans (HB4.out.mono HB3.out.size)
  exact below_of hb1 HG5.out (Nat.le_refl _) (fun j hj => (HN34.out.row.lt j ((ownB_len a3 _ _ c3).trans hj)).1)

theorem refUnf_err (a : Option Addr) (cap L n k : Nat) (w : World) (f : Nat) (C1 : Hid (Calls Tryd.prog 58 #[.slice a L cap] w fun e w' => e = .returned (.tuple #[.int .u64 n, .int .i64 k, .int .i64 f]) ∧ w' = w)) (g : ((f : Int) != 0) = true) :
    Calls Tryd.prog 23 #[.slice a L cap] w fun e w' => e = .returned (.tuple #[.slice none 0 0, .int .i64 0, .int .i64 f]) ∧ w' = w := by
  go_enter Tryd.func23, Tryd.ntmps23
  go_wp2_with (go_at_call 58; refine C1.out.mono ?_; rintro e w' ⟨rfl, hw⟩; have hw2 := hw.symm; clear hw; subst hw2)
  go_ret3
  exact ⟨rfl, rfl⟩
theorem refUnf_long (a : Option Addr) (cap L n k : Nat) (w : World) (C1 : Hid (Calls Tryd.prog 58 #[.slice a L cap] w fun e w' => e = .returned (.tuple #[.int .u64 n, .int .i64 k, .int .i64 (0 : Nat)]) ∧ w' = w)) (h : 262144 < n) :
    Calls Tryd.prog 23 #[.slice a L cap] w fun e w' => e = .returned (.tuple #[.slice none 0 0, .int .i64 0, .int .i64 22]) ∧ w' = w := by
  go_enter Tryd.func23, Tryd.ntmps23
  go_wp2_with (go_at_call 58; refine C1.out.mono ?_; rintro e w' ⟨rfl, hw⟩; have hw2 := hw.symm; clear hw; subst hw2)
  go_ret3
  exact ⟨rfl, rfl⟩
theorem refUnf_short (a : Option Addr) (cap L n k : Nat) (w : World) (C1 : Hid (Calls Tryd.prog 58 #[.slice a L cap] w fun e w' => e = .returned (.tuple #[.int .u64 n, .int .i64 k, .int .i64 (0 : Nat)]) ∧ w' = w)) (hL : L ≤ 9223372036854775807) (h3 : k ≤ 10) (h : n ≤ 262144) (hs : L < k + n + 4) :
    Calls Tryd.prog 23 #[.slice a L cap] w fun e w' => e = .returned (.tuple #[.slice none 0 0, .int .i64 0, .int .i64 20]) ∧ w' = w := by
  go_enter Tryd.func23, Tryd.ntmps23
  go_wp2_with (go_at_call 58; refine C1.out.mono ?_; rintro e w' ⟨rfl, hw⟩; have hw2 := hw.symm; clear hw; subst hw2)
  go_ret3
  exact ⟨rfl, rfl⟩

set_option maxHeartbeats 1000000 in
theorem refUnf_on (b off cap n k : Nat) (l : List Nat) (w : World) (C1 : Hid (Calls Tryd.prog 58 #[.slice (some ⟨b, off, none⟩) l.length cap] w fun e w' => e = .returned (.tuple #[.int .u64 n, .int .i64 k, .int .i64 (0 : Nat)]) ∧ w' = w))
    (hrow : BRow w b off l) (hby : ∀ x ∈ l, x < 256) (hcap : l.length ≤ cap) (hlen : cap ≤ 9223372036854775807) (h1 : 1 ≤ k) (h3 : k ≤ 10) (h : n ≤ 262144) (hs : k + n + 4 ≤ l.length) (U : List Nat × Nat × Nat) (hu1 : (l.drop (k + n)).take 4 ≠ four (crc (l.take (k + n))) → U = ([], 0, 23)) (hu2 : (l.drop (k + n)).take 4 = four (crc (l.take (k + n))) → U = ((l.drop k).take n, k + n + 4, 0)) :
    Calls Tryd.prog 23 #[.slice (some ⟨b, off, none⟩) l.length cap] w fun e w' => ∃ a' c', e = .returned (unfV a' c' U) ∧ New 5 w.heap.size w' a' c' U.1 ∧ Below w.heap.size w w' := by
  obtain ⟨i8, hi, hz0, hz1, hz2⟩ := info_parts info8
  have hlp : (l.take (k + n)).length = k + n := by simp; omega
  have hcl := crc_lt (l.take (k + n)) (mem_take hby)
  have HS : Hid (∀ c, Calls Tryd.prog 53 #[.slice (some ⟨b, off, none⟩) (k + n) c] w fun e w' => e = .returned (.int .u32 ((crc (l.take (k + n)) : Nat) : Int)) ∧ w' = w) := fun c => refSum_any (some ⟨b, off, none⟩) c (k + n) (l.take (k + n)) w ((IsB.some hrow hby).take _) (by omega) hlp.symm
  have HROW : Hid (BRow w b off l) := hrow
  have HBY : Hid (∀ x ∈ l, x < 256) := hby
  clear hrow hby hlp
  generalize crc (l.take (k + n)) = sc at *
  have htl : ((l.drop (k + n)).take 4).length = 4 := by simp; omega
  have HRT : Hid (∀ w4, BRow w4 b off l → BRow w4 b (off + (k + n)) ((l.drop (k + n)).take 4)) := fun w4 h => (h.drop (k + n)).take 4
  generalize (l.drop (k + n)).take 4 = T4 at *
  have HU1 : Hid (T4 ≠ four sc → U = ([], 0, 23)) := hu1
  have HU2 : Hid (T4 = four sc → U = ((l.drop k).take n, k + n + 4, 0)) := hu2
  clear hu1 hu2
  go_enter Tryd.func23, Tryd.ntmps23
  go_wp2_with (first | (go_at_call 58; refine C1.out.mono ?_; rintro e w' ⟨rfl, hw⟩; have hw2 := hw.symm; clear hw; subst hw2) | (go_at_call 53; refine (HS.out _).mono ?_; rintro e w' ⟨rfl, hw⟩; have hw2 := hw.symm; clear hw; subst hw2) | (go_at_call 52; refine (four_any sc w hcl).mono ?_; rintro e w4 ⟨v4, rfl, ho4, hb4⟩; have HO4 : Hid (Own 5 w.heap.size w4 v4 (four sc)) := ho4; have HB4 : Hid (Below w.heap.size w w4) := hb4; clear ho4 hb4))
  obtain ⟨a4, c4, e4, hn4⟩ := New.ofOwn HO4.out
  subst e4
  have HN4 : Hid (New 5 w.heap.size w4 a4 c4 (four sc)) := hn4
  have HR4 : Hid (BRow w4 b off l) := HROW.out.below HB4.out HROW.out.1
  have hl4 : (four sc).length = 4 := rfl
  have HC4 : Hid (∃ g o, a4 = some ⟨g, o, none⟩ ∧ BRow w4 g o (four sc)) := hn4.isB.1 (by simp [four])
  clear hn4
  go_wp2_with fail
  go_loopw [10] (fun i wr => ∃ m d : Nat, m ≤ 4 ∧ i = .int .i64 m ∧ wr = w4.drewN d ∧ T4.take m = (four sc).take m) (fun i _ => 4 - (intOf i).toNat)
  case atStart => exact ⟨0, 0, by omega, rfl, rfl, rfl⟩
  case round =>
    obtain ⟨m, d, hm, rfl, rfl, heq⟩ := hrel
    have HQ : Hid (T4.take m = (four sc).take m) := heq
    clear heq
    by_cases hlt : m < 4
    · obtain ⟨g, o, rfl, hr4⟩ := HC4.out
      obtain ⟨y, hy⟩ : ∃ y, (four sc)[m]? = some y := ⟨_, List.getElem?_eq_getElem (by omega)⟩
      obtain ⟨x, hx⟩ : ∃ x, T4[m]? = some x := ⟨_, List.getElem?_eq_getElem (by omega)⟩
      have e0 := hr4.2 m y hy
      have c0 := (HRT.out _ HR4.out).2 m x hx
      rw [Nat.add_assoc] at c0
      have HX : Hid (T4[m]? = some x) := hx
      have HY : Hid ((four sc)[m]? = some y) := hy
      clear hx hy hr4
      by_cases hxy : x = y
      · subst hxy
        go_wp2_with fail
        go_quiet (fail)
        go_wp2
        refine ⟨⟨m + 1, _, by omega, by go_num, rfl, ?_⟩, by simp [intOf]; omega⟩
        rw [List.take_add_one, List.take_add_one, HQ.out, HX.out, HY.out]
      · have hne : ((x : Int) != (y : Int)) = true := by simp; omega
        have HNE : Hid (T4 ≠ four sc) := by
          show _ ≠ _
          intro e
          have h1 := HX.out
          rw [e, HY.out] at h1
          simp at h1
          exact hxy h1.symm
        clear hxy
        go_wp2_with fail
        go_quiet (fail)
        go_wp2
        go_ret3
        rw [HU1.out HNE.out]
        exact ⟨none, 0, rfl, New.nil _ _ _, below_drewN (below_drewN HB4.out _) _⟩
    · obtain rfl : m = 4 := by omega
      have hfin : T4 = four sc := by
        have := HQ.out
        rw [List.take_of_length_le (l := T4) (by omega), List.take_of_length_le (l := four sc) (by omega)] at this
        exact this
      have HU : Hid (U = ((l.drop k).take n, k + n + 4, 0)) := HU2.out hfin
      clear hfin HU1 HU2 HRT
      have hbody : ((l.drop k).take n).length = n := by simp; omega
      have HBD : Hid (∀ d, IsB (w4.drewN d) (some ⟨b, off + k, none⟩) ((l.drop k).take n)) := fun d => (IsB.some ((HR4.out.drop k).take n) (mem_take (mem_drop HBY.out))).below (below_drewN (Below.refl _ _) d)
      have hkc : k < cap := by omega
      have HW : Hid (Below w.heap.size w (w4.drewN d)) := below_drewN HB4.out d
      have hsz := HW.out.size
      generalize (l.drop k).take n = body at *
      go_wp2_with (at_builtin; go_loud (refine wpList_appB (by rfl) (.const (.slice none 0 0)) (.tmp 54) 23 (by rfl) w.heap.size 5 i8 Tryd.underlying23 hi hz0 hz1 hz2 _ [] 0 (by rfl) (World.ownsRow_nil _ _ _ _) (some ⟨b, off + k, none⟩) _ _ body (by rfl) (by omega) (by simp) (HBD.out _) (by omega) hsz ?_); intro v5 w5 hown5 hgr5 _; have HG5 : Hid ((w4.drewN d).grownBy w5 none) := hgr5; have HO5 : Hid (w5.ownsRow w.heap.size 5 1 v5 _ (cellsB body)) := hown5; clear hgr5 hown5)
      go_ret3
      rw [HU.out]
      obtain ⟨a', c', rfl, hnew⟩ := New.of HO5.out (HBD.out d).2
      exact ⟨a', c', rfl, hnew, below_of HW.out HG5.out (Nat.le_refl _) (by simp)⟩

theorem refUnframe_any (a : Option Addr) (cap n' : Nat) (l : List Nat) (w : World) (ha : IsB w a l) (hcap : l.length ≤ cap) (hlen : cap ≤ 9223372036854775807) (hn : n' = l.length) :
    Calls Tryd.prog 23 #[.slice a n' cap] w fun e w' => ∃ a' c', e = .returned (unfV a' c' (unframe l)) ∧ New 5 w.heap.size w' a' c' (unframe l).1 ∧ Below w.heap.size w w' := by
  subst hn
  have c1 := refUint_any a cap l.length l w ha (Nat.le_trans hcap hlen) rfl
  have hby := ha.2
  obtain ⟨n, k, f, hr⟩ : ∃ n k f, rd l 0 0 = (n, k, f) := ⟨_, _, _, rfl⟩
  have ht : unframe l = unframe l := rfl
  conv at ht => rhs; unfold unframe
  rw [hr] at c1 ht
  simp only [] at c1 ht
  have hL : l.length ≤ 9223372036854775807 := Nat.le_trans hcap hlen
  by_cases hf : f = 0
  · subst hf
    obtain ⟨h1, h2, h3⟩ := rd_bytes hby hr
    rw [if_neg (by simp)] at ht
    by_cases hmo : 262144 < n
    · rw [if_pos hmo] at ht
      rw [ht]
      exact (refUnf_long a cap l.length n k w c1 hmo).mono fun e w' ⟨he, hw⟩ => ⟨none, 0, he, New.nil _ _ _, by subst hw; exact Below.refl _ _⟩
    · rw [if_neg hmo] at ht
      by_cases hsh : l.length < k + n + 4
      · rw [if_pos hsh] at ht
        rw [ht]
        exact (refUnf_short a cap l.length n k w c1 hL h3 (by omega) hsh).mono fun e w' ⟨he, hw⟩ => ⟨none, 0, he, New.nil _ _ _, by subst hw; exact Below.refl _ _⟩
      · rw [if_neg hsh] at ht
        rw [ht]
        obtain ⟨b, off, rfl, hrow⟩ := ha.1 (by intro e; subst e; simp at h2; omega)
        exact refUnf_on b off cap n k l w c1 hrow hby hcap hlen h1 h3 (by omega) (by omega) _ (fun h => by rw [if_pos h]) (fun h => by rw [if_neg (by simpa using h)])
  · obtain ⟨rfl, rfl, hf2⟩ := rd_err0 l hr hf
    rw [if_pos (by simpa using hf)] at ht
    rw [ht]
    exact (refUnf_err a cap l.length 0 0 w f c1 (by simp; omega)).mono fun e w' ⟨he, hw⟩ => ⟨none, 0, he, New.nil _ _ _, by subst hw; exact Below.refl _ _⟩

end Cod
end Go.Proofs.YtdbiliigbinmfaaDoor
