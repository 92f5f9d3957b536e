import Derived.Test.YtdbiliigbinmfaaDoorNmF
import Derived.WalkKit
import Derived.WalkSpells
import Derived.WalkLawsBesides
namespace Go.Proofs.YtdbiliigbinmfaaDoor
namespace Nms
open Go.RowKit CMath Byt Cod Laws Rom Sta
set_option linter.unusedVariables false
set_option linter.unusedSimpArgs false
set_option maxRecDepth 20000

theorem new_none (T base : Nat) (w : World) : New T base w none 0 [] := ⟨⟨rfl, .inl ⟨rfl, rfl⟩⟩, by simp⟩
def FX (_i x : Nat) : Nat := x ^^^ 1
theorem FX_lt (i x : Nat) (h : x < 256) : FX i x < 256 := Nat.xor_lt_two_pow (n := 8) (by omega) (by omega)
theorem xorX (x i : Nat) (h : x < 256) : bits .xor .u8 (x : Int) 1 = ((FX i x : Nat) : Int) := u8_xor_nat x 1 h (by omega)
theorem num_open (s : ByteArray) : ∃ (K N : Int) (B : Bool), numO (numB s) = .tuple #[.int .u8 K, .int .u64 N, .bool B] := by
  cases numB s with
  | none => exact ⟨0, 0, false, rfl⟩
  | some p => exact ⟨p.1, p.2, true, rfl⟩

set_option maxHeartbeats 1000000 in
theorem walk (kd u : Nat) (hkd : kd < 256) (hu : u < 18446744073709551616) (s : ByteArray) (hs : s.size + 14 ≤ 140737488355328) (a : Option Addr) (cap : Nat) (l : List Nat) (w : World) (h : IsB w a l) (hc : a = none → cap = 0) (hcap : l.length ≤ cap) (hmax : cap ≤ 9223372036854775807) (ht : Tab w) (h3 : Lib3 w) (hlen : l.length + 4096 ≤ 140737488355328) :
    Calls Tryd.prog 3 #[.int .u8 (kd : Int), .int .u64 (u : Int), .string s, .slice a l.length cap] w fun e w' => e = .returned (.bool true) ∧ Below w.heap.size w w' := by
  have HI : Hid (IsB w a l) := h
  have HN : Hid (a = none → cap = 0) := hc
  have HT : Hid (Tab w) := ht
  have H3 : Hid (Lib3 w) := h3
  have HK : Hid (kd < 256) := hkd
  have HU : Hid (u < 18446744073709551616) := hu
  have HZ : Hid (s.size + 14 ≤ 140737488355328) := hs
  have HCA : Hid (l.length ≤ cap) := hcap
  have HMA : Hid (cap ≤ 9223372036854775807) := hmax
  obtain ⟨K, N, B, hnum⟩ := num_open s
  have HNU := Lib.hid hnum
  clear h hc ht h3 hkd hu hs hcap hmax hnum
  go_enter Tryd.func3, Tryd.ntmps3
  go_wp2_with fail
  refine (number_any s w H3.out).mono ?_
  rintro e w1 ⟨rfl, hb1⟩
  have HB : Hid (Below w.heap.size w w1) := hb1
  clear hb1
  rw [HNU.out]
  go_wp2_with fail
  refine (rnum_any s w1).mono ?_
  rintro e w' ⟨rfl, hw⟩
  have hw2 := hw.symm
  clear hw
  subst hw2
  rw [HNU.out]
  go_wp2_with fail
  refine (name_any kd u HK.out HU.out w1 (H3.out.below HB.out)).mono ?_
  rintro e w2 ⟨rfl, hb2⟩
  have HB' : Hid (Below w.heap.size w w2) := bl_st HB.out hb2
  clear HB
  have HB := HB'
  clear HB'
  clear hb2
  go_wp2_with fail
  refine (rname_any kd u HK.out HU.out w2).mono ?_
  rintro e w3 ⟨rfl, hb3⟩
  have HB' : Hid (Below w.heap.size w w3) := bl_st HB.out hb3
  clear HB
  have HB := HB'
  clear HB'
  clear hb3
  generalize nm kd u = Z at *
  go_wp2_with fail
  refine (current_any s w3 (HT.out.below HB.out HT.out.lt) HZ.out).mono ?_
  rintro e w4 ⟨v4, rfl, ho, hb4⟩
  obtain ⟨a4, c4, rfl, hn4⟩ := New.ofOwn ho
  have HN4 : Hid (New 5 w3.heap.size w4 a4 c4 (frame (tb s))) := hn4
  have HB' : Hid (Below w.heap.size w w4) := bl_st HB.out hb4
  clear HB
  have HB := HB'
  clear HB'
  clear hb4 ho hn4
  go_wp2_with fail
  refine (rcurrent_any s w4 HZ.out).mono ?_
  rintro e w5 ⟨v5, rfl, ho, hb5⟩
  obtain ⟨a5, c5, rfl, hn5⟩ := New.ofOwn ho
  have HN5 : Hid (New 5 w4.heap.size w5 a5 c5 (frame (tb s))) := hn5
  have HN4' : Hid (New 5 w3.heap.size w5 a4 c4 (frame (tb s))) := HN4.out.below hb5
  clear HN4
  have HN4 := HN4'
  clear HN4'
  have HB' : Hid (Below w.heap.size w w5) := bl_st HB.out hb5
  clear HB
  have HB := HB'
  clear HB'
  clear hb5 ho hn5
  have HFL : Hid ((frame (tb s)).length ≤ 9223372036854775807) := Nat.le_trans HN4.out.le HN4.out.max
  generalize frame (tb s) = FR at *
  go_wp2_with fail
  refine (sameBytes_true a4 a5 c4 c5 FR.length FR.length FR w5 HN4.out.isB HN5.out.isB HFL.out rfl rfl).mono ?_
  rintro e w6 ⟨rfl, q6, rfl⟩
  have hb6 : Below w5.heap.size w5 (w5.drewN q6) := below_drewN (Below.refl _ _) _
  generalize w5.drewN q6 = w6 at *
  have HB' : Hid (Below w.heap.size w w6) := bl_st HB.out hb6
  clear HB
  have HB := HB'
  clear HB'
  have hs6 := HB.out.size
  clear hb6 HN4 HN5 HFL
  go_wp2_with fail
  refine (bytes_any w6.heap.size w.heap.size (.slice none 0 0) (.slice none 0 0) [] a cap l _ (room_new w6 w.heap.size hs6) (by simp) HN.out ((HI.out.below HB.out).below ((Below.refl _ _).alloc (Nat.le_refl _) _)) (by omega)).mono ?_
  rintro e w7 ⟨g, c, v0, v1, rfl, hrm, hrow, hg, _, _, hkeep⟩
  have HS : Hid (St w w7 w6.heap.size g c l.length 0 none v0 v1 l []) := St.first HB.out (new_none _ _ _) HI.out.2 hrm hrow hg hkeep
  clear hrm hrow hg hkeep HB
  obtain ⟨S, E, hpt⟩ : ∃ S E, pts l = (S, E) := ⟨_, _, rfl⟩
  have HP := Lib.hid hpt
  clear hpt
  go_wp2_with fail
  go_loopw [17] (fun i wr => ∃ k : Nat, k ≤ 2 ∧ i = .int .i64 k ∧ St w wr w6.heap.size g c l.length 0 none v0 v1 l []) (fun i _ => 2 - (intOf i).toNat)
  case atStart => exact ⟨0, Nat.zero_le _, rfl, HS.out⟩
  case round =>
    obtain ⟨k, hk, rfl, hst⟩ := hrel
    clear HS
    have HS : Hid (St w wr w6.heap.size g c l.length 0 none v0 v1 l []) := hst
    clear hst
    by_cases hlt : k < 2
    · skip
      go_wp2_with fail
      refine (points_any (some ⟨g, 0, none⟩) (l.length + 600) l _ HS.out.isB (HT.out.below HS.out.bel HT.out.lt) (H3.out.below HS.out.bel) (by omega) (by omega)).mono ?_
      rintro e w8 ⟨rfl, hb8⟩
      have HS' : Hid (St w w8 w6.heap.size g c l.length 0 none v0 v1 l []) := HS.out.below hb8
      clear HS hb8
      have HS := HS'
      clear HS'
      rw [HP.out]
      go_wp2_with fail
      refine (rpoints_any a cap l _ (HI.out.below HS.out.bel) HCA.out HMA.out).mono ?_
      rintro e w9 ⟨rfl, hb9⟩
      have HS' : Hid (St w w9 w6.heap.size g c l.length 0 none v0 v1 l []) := HS.out.below hb9
      clear HS hb9
      have HS := HS'
      clear HS'
      rw [HP.out]
      go_wp2_with fail
      exact ⟨⟨k + 1, by omega, by go_num, HS.out⟩, by simp [intOf]; omega⟩
    · clear hk
      go_wp2_with fail
      refine (sameBytes_true (some ⟨g, 0, none⟩) a (l.length + 600) cap _ _ l _ HS.out.isB (HI.out.below HS.out.bel) (by omega) rfl rfl).mono ?_
      rintro e w8 ⟨rfl, q8, rfl⟩
      have hb8 : Below wr.heap.size wr (wr.drewN q8) := below_drewN (Below.refl _ _) _
      generalize wr.drewN q8 = w8 at *
      have HS' : Hid (St w w8 w6.heap.size g c l.length 0 none v0 v1 l []) := HS.out.below hb8
      clear HS hb8
      have HS := HS'
      clear HS'
      go_wp2_with fail
      refine (hold_any _ _ v0 v1 _ _ HS.out.rm (by simp)).mono ?_
      rintro e w' ⟨rfl, hw⟩
      have hw2 := hw.symm
      clear hw
      subst hw2
      go_wp2_with fail
      go_loopw [22] (fun i wr => ∃ k : Nat, k ≤ l.length ∧ i = .int .i64 k ∧ St w wr w6.heap.size g c l.length 0 none v0 v1 (mix FX l k) []) (fun i _ => l.length - (intOf i).toNat)
      case atStart => exact ⟨0, Nat.zero_le _, rfl, by rw [mix_zero]; exact HS.out⟩
      case round =>
        obtain ⟨k, hk, rfl, hst⟩ := hrel
        have HU : Hid (St w wr w6.heap.size g c l.length 0 none v0 v1 (mix FX l k) []) := hst
        clear hst HS
        by_cases hlt : k < l.length
        · obtain ⟨y, hy⟩ : ∃ y, l[k]? = some y := ⟨_, List.getElem?_eq_getElem hlt⟩
          have hyb : y < 256 := HI.out.2 y (List.mem_of_getElem? hy)
          have c0 := HU.out.inn.2 k y (by rw [mix_get, hy]; simp)
          rw [Nat.zero_add] at c0
          have f0 := (HU.out.rm.lent (g, l.length, c) (by simp)).2.2.2.2.2.1 k
          have HY : Hid (l[k]? = some y) := hy
          clear hy
          go_wp2_with fail
          exact ⟨⟨k + 1, by omega, by go_num, St.set HU.out HY.out (FX_lt k y hyb) _ (xorX y k hyb)⟩, by simp [intOf]; omega⟩
        · obtain rfl : k = l.length := by omega
          clear hk hlt
          have hll := mix_length FX l l.length
          have HM : Hid (∀ x ∈ mix FX l l.length, x < 256) := HU.out.byte
          generalize mix FX l l.length = l2 at *
          have HS := HU
          clear HU
          obtain ⟨S2, E2, hpt2⟩ : ∃ S E, pts l2 = (S, E) := ⟨_, _, rfl⟩
          have HP2 := Lib.hid hpt2
          clear hpt2
          have HL2 : Hid (l2.length = l.length) := hll
          have PA := points_any (some ⟨g, 0, none⟩) (l.length + 600) l2 wr HS.out.isB (HT.out.below HS.out.bel HT.out.lt) (H3.out.below HS.out.bel) (by omega) (by omega)
          rw [HL2.out, HP2.out] at PA
          have HPA := Lib.hid PA
          clear PA hll
          obtain ⟨i8, hi, hz0, hz1, hz2⟩ := info_parts info8
          go_wp2_with fail
          refine HPA.out.mono ?_
          rintro e w8 ⟨rfl, hb8⟩
          clear HPA
          have HS' : Hid (St w w8 w6.heap.size g c l.length 0 none v0 v1 l2 []) := HS.out.below hb8
          clear HS hb8
          have HS := HS'
          clear HS'
          go_wp2_with (at_builtin; refine wpList_appB (by rfl) (.const (.slice none 0 0)) (.tmp 125) 23 (by rfl) w8.heap.size 5 i8 Tryd.underlying23 hi hz0 hz1 hz2 _ [] 0 (by rfl) (World.ownsRow_nil _ _ _ _) (some ⟨g, 0, none⟩) l.length (l.length + 600) l2 (by rfl) HL2.out.symm (fun e => by cases e) HS.out.isB (by omega) (Nat.le_refl _) ?_; intro v9 w9 hown9 hgr9 _; obtain ⟨a9, c9, rfl, hn9⟩ := New.of (l := l2) hown9 HM.out; have HN9 : Hid (New 5 w8.heap.size w9 a9 c9 l2) := hn9; have HG9 : Hid (w8.grownBy w9 none) := hgr9; have hb9 := below_of (Below.refl w8.heap.size w8) HG9.out (Nat.le_refl _) (fun j hj => by cases hj); have HS' : Hid (St w w9 w6.heap.size g c l.length 0 none v0 v1 l2 []) := HS.out.below hb9; clear hown9 hgr9 hn9 hb9 HS HG9; have HS := HS'; clear HS')
          refine (rpoints_any a9 c9 l2 w9 HN9.out.isB HN9.out.le HN9.out.max).mono ?_
          rintro e w10 ⟨rfl, hb10⟩
          rw [HP2.out]
          have HB10 : Hid (Below w.heap.size w w10) := bl_st HS.out.bel hb10
          clear HS hb10 HN9
          go_wp2_with fail
          go_ret
          exact ⟨by simp, HB10.out⟩

end Nms
end Go.Proofs.YtdbiliigbinmfaaDoor
