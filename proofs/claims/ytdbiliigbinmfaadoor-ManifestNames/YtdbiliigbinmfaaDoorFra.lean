import Derived.Test.YtdbiliigbinmfaaDoorProg
import Derived.Test.YtdbiliigbinmfaaDoorSum
import Derived.Test.YtdbiliigbinmfaaDoorMea
import Derived.WalkKit
import Derived.WalkSpells
import Derived.WalkLawsBesides
import Derived.Deep.QuietTactic
import Derived.BigQuiet
import Derived.Lib.SliceRun
namespace Go.Proofs.YtdbiliigbinmfaaDoor
namespace Cod
open Go.RowKit CMath Byt
set_option linter.unusedVariables false
set_option maxRecDepth 20000

theorem or4 {a b c d : Nat} (ha : a < 256) (hb : b < 256) (hc : c < 256) (hd : d < 256) :
    bits .or .u32 (bits .or .u32 (bits .or .u32 (a : Int) ((b : Int) * 256)) ((c : Int) * 65536)) ((d : Int) * 16777216) = ((a + 256 * b + 65536 * c + 16777216 * d : Nat) : Int) := by
  have o1 : a ||| b * 256 = a + 256 * b := by
    have := Nat.two_pow_add_eq_or_of_lt (i := 8) (b := a) (by omega) b
    rw [Nat.or_comm, Nat.mul_comm b, ← show 2 ^ 8 * b = 256 * b from rfl, ← this]; omega
  have o2 : (a + 256 * b) ||| c * 65536 = a + 256 * b + 65536 * c := by
    have := Nat.two_pow_add_eq_or_of_lt (i := 16) (b := a + 256 * b) (by omega) c
    rw [Nat.or_comm, Nat.mul_comm c, ← show 2 ^ 16 * c = 65536 * c from rfl, ← this]; omega
  have o3 : (a + 256 * b + 65536 * c) ||| d * 16777216 = a + 256 * b + 65536 * c + 16777216 * d := by
    have := Nat.two_pow_add_eq_or_of_lt (i := 24) (b := a + 256 * b + 65536 * c) (by omega) d
    rw [Nat.or_comm, Nat.mul_comm d, ← show 2 ^ 24 * d = 16777216 * d from rfl, ← this]; omega
  rw [show (b : Int) * 256 = ((b * 256 : Nat) : Int) by omega, show (c : Int) * 65536 = ((c * 65536 : Nat) : Int) by omega, show (d : Int) * 16777216 = ((d * 16777216 : Nat) : Int) by omega]
  rw [u32_or_nat a (b * 256) (by omega) (by omega), o1, u32_or_nat (a + 256 * b) (c * 65536) (by omega) (by omega), o2, u32_or_nat (a + 256 * b + 65536 * c) (d * 16777216) (by omega) (by omega), o3]

set_option maxHeartbeats 1000000 in
theorem laidSum_any (a : Option Addr) (cap : Nat) (l : List Nat) (w : World) (ha : IsB w a l) (hl : l.length = 4) :
    Calls Tryd.prog 56 #[.slice a 4 cap] w fun e w' => e = .returned (.int .u32 ((val l : Nat) : Int)) ∧ ∃ n, w' = w.drewN n := by
  match l, hl with
  | [x0, x1, x2, x3], _ =>
    obtain ⟨b, off, rfl, hr⟩ := ha.1 (by simp)
    have h0 : x0 < 256 := ha.2 x0 (by simp)
    have h1 : x1 < 256 := ha.2 x1 (by simp)
    have h2 : x2 < 256 := ha.2 x2 (by simp)
    have h3 : x3 < 256 := ha.2 x3 (by simp)
    have c0 := hr.2 0 x0 rfl
    have c1 := hr.2 1 x1 rfl
    have c2 := hr.2 2 x2 rfl
    have c3 := hr.2 3 x3 rfl
    simp only [Nat.add_zero] at c0
    have HV : Hid (val [x0, x1, x2, x3] = x0 + 256 * x1 + 65536 * x2 + 16777216 * x3) := by
      show _ = _
      simp only [val]
      omega
    have HE := or4 h0 h1 h2 h3
    have HE' : Hid (bits .or .u32 (bits .or .u32 (bits .or .u32 (x0 : Int) ((x1 : Int) * 256)) ((x2 : Int) * 65536)) ((x3 : Int) * 16777216) = ((x0 + 256 * x1 + 65536 * x2 + 16777216 * x3 : Nat) : Int)) := HE
    clear ha hr HE
    go_enter Tryd.func56, Tryd.ntmps56
    go_wp2
    go_quiet (fail)
    go_wp2
    go_ret
    rw [HV.out, ← HE'.out]
    exact ⟨by first | rfl | (simp; done), _, rfl⟩

set_option maxHeartbeats 1000000 in
theorem clone_any (a : Addr) (cap n : Nat) (l : List Nat) (w : World) (ha : IsB w (some a) l) (hk : l.length ≤ 140737488355328) (hn : n = l.length) :
    Calls Tryd.prog 57 #[.slice (some a) n cap] w fun e w' => ∃ v, e = .returned v ∧ Own 5 w.heap.size w' v l ∧ Below w.heap.size w w' := by
  subst hn
  obtain ⟨i8, hi, hz0, hz1, hz2⟩ := info_parts info8
  have HOWN : Hid ((w.alloc (.cells #[] 5)).ownsRow w.heap.size 5 1 (.slice (some ⟨w.heap.size, 0, none⟩) 0 0) 0 (cellsB [])) := World.ownsRow_lit w #[] 0 (Nat.le_refl _) (by simp [maxLen]) (by simp)
  have HI : Hid (IsB (w.alloc (.cells #[] 5)) (some a) l) := ha.below ((Below.refl _ _).alloc (Nat.le_refl _) _)
  have HBY : Hid (∀ x ∈ l, x < 256) := ha.2
  clear ha
  have q22 : ∀ (w : World) (n c : Nat), (binOp .eql 23 (.slice (some a) n c) (.slice none 0 0)).run Tryd.prog w = .ok (.bool false) w := fun w n c => Lib.run_eql_slice_nil w _ _ (some a) n c 0 0 Tryd.underlying23
  go_enter Tryd.func57, Tryd.ntmps57
  go_wp2_with (at_builtin; refine wpList_appB (by rfl) (.tmp 5) (.tmp 6) 23 (by rfl) w.heap.size 5 i8 Tryd.underlying23 hi hz0 hz1 hz2 _ [] 0 (by rfl) HOWN.out (some a) l.length cap l (by rfl) rfl (by simp) HI.out (by omega) (by simp) ?_; intro u1 w1 hown1 hgr1 hnn1; have HG : Hid ((w.alloc (.cells #[] 5)).grownBy w1 (some w.heap.size)) := hgr1; have HO1 : Hid (w1.ownsRow w.heap.size 5 1 u1 (0 + l.length) (cellsB l)) := hown1; have HNN : Hid (u1 ≠ .slice none 0 0) := hnn1 (by simp); clear hgr1 hown1 hnn1)
  go_ret
  exact ⟨u1, rfl, Own.mk' HO1.out HBY.out HNN.out, below_of ((Below.refl _ _).alloc (Nat.le_refl _) _) HG.out (Nat.le_refl _) (by intro k hk; cases hk; exact Nat.le_refl _)⟩

set_option maxHeartbeats 1000000 in
theorem frame_any (a : Option Addr) (cap n : Nat) (l : List Nat) (w : World) (h : IsB w a l) (ht : Tab w) (hc : a = none → cap = 0) (hk : l.length + 14 ≤ 140737488355328) (hn : n = l.length) :
    Calls Tryd.prog 19 #[.slice a n cap] w fun e w' => ∃ v, e = .returned v ∧ Own 5 w.heap.size w' v (frame l) ∧ Below w.heap.size w w' := by
  subst hn
  obtain ⟨i8, hi, hz0, hz1, hz2⟩ := info_parts info8
  have HI : Hid (IsB w a l) := h
  have HT : Hid (Tab w) := ht
  have HN : Hid (a = none → cap = 0) := hc
  have hs18 : l.length < 18446744073709551616 := by omega
  have h10 := num_le10 hs18
  have hp := num_pos l.length
  clear h hc ht
  go_enter Tryd.func19, Tryd.ntmps19
  go_wp2_with (first | (go_at_call 48; refine (grown_int none 0 (10 + l.length + 4) _ [] w (by omega) (IsB.nil _ _) (fun _ => rfl) (by simp; omega)).mono ?_; rintro e w1 ⟨v1, rfl, ho1, hb1⟩; have HO1 : Hid (Own 5 w.heap.size w1 v1 []) := ho1; have HB1 : Hid (Below w.heap.size w w1) := hb1; clear ho1 hb1) | (go_at_call 47; refine (appendUint_any w.heap.size v1 [] l.length w1 HO1.out.row HO1.out.byte hs18 HB1.out.size (by simp)).mono ?_; rintro e w2 ⟨v2, rfl, ho2, hb2⟩; have HO2 : Hid (Own 5 w.heap.size w2 v2 (num l.length)) := ho2; have HB2 : Hid (Below w.heap.size w w2) := HB1.out.trans hb2; have HI2 : Hid (IsB w2 a l) := HI.out.below HB2.out; clear ho2 hb2) | (at_builtin; refine wpList_appB (by rfl) (.tmp 13) (.tmp 14) 23 (by rfl) w.heap.size 5 i8 Tryd.underlying23 hi hz0 hz1 hz2 _ (num l.length) (num l.length).length (by rfl) HO2.out.row a l.length cap l (by rfl) rfl HN.out HI2.out (by omega) HB2.out.size ?_; intro v3 w3 hown3 hgr3 _; have HG3 : Hid (w2.grownBy w3 _) := hgr3; have HB3 : Hid (Below w.heap.size w w3) := below_of HB2.out HG3.out (Nat.le_refl _) (fun j hj => (HO2.out.row.lt j hj).1); have HO3 : Hid (Own 5 w.heap.size w3 v3 (num l.length ++ l)) := Own.pos hown3 (byte_app (num_byte _) HI.out.2) (by omega); clear hgr3 hown3))
  obtain ⟨a3, c3, e3, hn3⟩ := New.ofOwn HO3.out
  subst e3
  have HN3 : Hid (New 5 w.heap.size w3 a3 c3 (num l.length ++ l)) := hn3
  have hln : (num l.length ++ l).length ≤ 140737488355324 := by simp; omega
  have HLT : Hid (crc (num l.length ++ l) < 4294967296) := crc_lt _ hn3.byte
  clear hn3
  go_wp2_with fail
  refine (sum_any a3 c3 _ (num l.length ++ l) w3 HN3.out.isB (HT.out.below HB3.out HT.out.lt) (by omega) (by simp)).mono ?_
  rintro e w' ⟨rfl, hw⟩
  have hw2 := hw.symm
  clear hw
  subst hw2
  go_wp2_with fail
  refine (appendSum_any w.heap.size _ (num l.length ++ l) (crc (num l.length ++ l)) w3 (by have := HN3.out.row; simp at this ⊢; exact this) HN3.out.byte HLT.out HB3.out.size (by omega)).mono ?_
  rintro e w4 ⟨v4, rfl, ho4, hb4⟩
  go_wp2_with fail
  go_ret
  exact ⟨v4, rfl, ho4, HB3.out.trans hb4⟩

end Cod
end Go.Proofs.YtdbiliigbinmfaaDoor
