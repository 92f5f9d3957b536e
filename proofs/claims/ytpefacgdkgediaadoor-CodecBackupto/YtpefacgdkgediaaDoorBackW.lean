import Derived.Test.YtpefacgdkgediaaDoorProg
import Derived.Test.YtpefacgdkgediaaDoorKno
import Derived.WalkKit
import Derived.WalkSpells
import Derived.WalkLawsBesides
namespace Go.Proofs.YtpefacgdkgediaaDoor
namespace CodecBack
open Go.RowKit CMath Byt Cod
set_option linter.unusedVariables false
set_option maxRecDepth 20000

theorem ofB_strB (s : ByteArray) : ofB (strB s) = s := by
  have h := strB_ofB (strB_byte s)
  exact strB_inj h
theorem uint_back (n : Nat) (y : List Nat) (hn : n < 18446744073709551616) (a : Option Addr) (c m : Nat) (w : World) (ha : IsB w a (num n ++ y)) (h1 : (num n ++ y).length ≤ c) (h2 : c ≤ 9223372036854775807) (hm : m = (num n ++ y).length) :
    Calls Tryd.prog 19 #[.slice a m c] w fun e w' => e = .returned (.tuple #[.int .u64 n, .int .i64 ((num n).length : Nat), .int .i64 0]) ∧ w' = w := by
  have h := uint_any a c m (num n ++ y) w ha h1 h2 hm
  rw [rd_words n y hn] at h
  exact h
theorem text_back' (s : ByteArray) (y : List Nat) (hs : s.size ≤ 9223372036854775807) (a : Option Addr) (c m : Nat) (w : World) (ha : IsB w a (words (strB s) ++ y)) (h1 : (words (strB s) ++ y).length ≤ c) (h2 : c ≤ 9223372036854775807) (hm : m = (words (strB s) ++ y).length) :
    Calls Tryd.prog 21 #[.slice a m c, .int .i64 s.size] w fun e w' => e = .returned (.tuple #[.string s, .int .i64 ((words (strB s)).length : Nat), .int .i64 0]) ∧ w' = w := by
  have h := text_any a c m (words (strB s) ++ y) s.size w ha h1 h2 (by omega) hm
  unfold txt at h
  rw [text_back (strB s) y s.size (by rw [strB_length]; omega) (by rw [strB_length]; omega), ofB_strB] at h
  exact h
theorem unframe_back' (p y : List Nat) (hp : p.length ≤ 262144) (a : Option Addr) (c m : Nat) (w : World) (ha : IsB w a (frame p ++ y)) (ht : Tab w) (h1 : (frame p ++ y).length ≤ c) (h2 : c ≤ 9223372036854775807) (hm : m = (frame p ++ y).length) :
    Calls Tryd.prog 22 #[.slice a m c] w fun e w' => ∃ a' c', e = .returned (.tuple #[.slice a' p.length c', .int .i64 ((frame p).length : Nat), .int .i64 0]) ∧ New 5 w.heap.size w' a' c' p ∧ Below w.heap.size w w' := by
  have h := unframe_any a c m (frame p ++ y) w ha ht h1 h2 hm
  unfold unfV at h
  rw [unframe_back p y hp] at h
  exact h
theorem frame_len {l : List Nat} (h : l.length ≤ 2000000) : (frame l).length ≤ l.length + 14 := by
  have := num_le10 (n := l.length) (by omega)
  have e : (frame l).length = (num l.length).length + l.length + 4 := by simp [frame, four]; omega
  omega

set_option maxHeartbeats 2000000 in
theorem walk (n : Nat) (s : ByteArray) (a : Option Addr) (cap : Nat) (x : List Nat) (b : Option Addr) (capb : Nat) (y : List Nat) (w : World) (hn : n < 18446744073709551616) (hx : IsB w a x) (nx : a = none → cap = 0) (cx : x.length ≤ cap) (mx : cap ≤ 9223372036854775807) (hy : IsB w b y) (ny : b = none → capb = 0) (ht : Tab w) (hlen : s.size + x.length + y.length ≤ 1500000) :
    Calls Tryd.prog 5 #[.int .u64 n, .string s, .slice a x.length cap, .slice b y.length capb] w fun e w' => e = .returned (.bool true) ∧ Below w.heap.size w w' := by
  have HX : Hid (IsB w a x) := hx
  have HP : Hid (IsB w a (x.take 262144)) := hx.take _
  have HY : Hid (IsB w b y) := hy
  have NX : Hid (a = none → cap = 0) := nx
  have NY : Hid (b = none → capb = 0) := ny
  have HT : Hid (Tab w) := ht
  have HB : Hid (Below w.heap.size w w) := Below.refl _ _
  have hl10 := num_le10 hn
  have hw10 : (words (strB s)).length ≤ 10 + s.size := by unfold words; rw [List.length_append, strB_length]; have := num_le10 (n := s.size) (by omega); omega
  have hp1 : (x.take 262144).length ≤ 262144 := by simp; omega
  have hp2 : (x.take 262144).length ≤ x.length := by simp; omega
  have fl := frame_len (l := x.take 262144) (by omega)
  clear hx hy nx ny ht
  go_enter Tryd.func5, Tryd.ntmps5
  go_wp2_with fail
  refine (known_any w HT.out).mono ?_
  rintro e w1 ⟨rfl, hb⟩
  have HB' : Hid (Below w.heap.size w w1) := HB.out.trans (hb.mono HB.out.size)
  clear HB
  have HB := HB'
  clear HB'
  clear hb
  go_wp2_with fail
  refine (part_any a cap _ x _ (HX.out.below HB.out) NX.out cx mx rfl).mono ?_
  rintro e w' ⟨rfl, hw⟩
  have hw2 := hw.symm
  clear hw
  subst hw2
  generalize x.take 262144 = p at *
  go_wp2_with fail
  refine (putUint_n none 0 0 [] n w1 (IsB.nil _ _) (fun _ => rfl) (by simp) hn rfl).mono ?_
  rintro e w2 ⟨v2, rfl, ho, hb⟩
  rw [List.nil_append] at ho
  obtain ⟨a2, c2, rfl, hn2⟩ := New.ofOwn ho
  have HB' : Hid (Below w.heap.size w w2) := HB.out.trans (hb.mono HB.out.size)
  clear HB
  have HB := HB'
  clear HB'
  have F2 : Hid (New 5 w1.heap.size w2 a2 c2 (num n)) := hn2
  clear ho hb hn2
  go_wp2_with fail
  refine (behind_n a2 b c2 capb _ _ (num n) y w2 F2.out.isB F2.out.cap (HY.out.below HB.out) NY.out (by omega) (by omega) (by omega)).mono ?_
  rintro e w3 ⟨a3, c3, rfl, hn3, hb⟩
  have HB' : Hid (Below w.heap.size w w3) := HB.out.trans (hb.mono HB.out.size)
  clear HB
  have HB := HB'
  clear HB'
  have F3 : Hid (New 5 w2.heap.size w3 a3 c3 (num n ++ y)) := hn3
  clear hb hn3
  go_wp2_with fail
  refine (uint_back n y hn a3 c3 _ _ F3.out.isB F3.out.le F3.out.max (by simp <;> omega)).mono ?_
  rintro e w' ⟨rfl, hw⟩
  have hw2 := hw.symm
  clear hw
  subst hw2
  clear F2 F3
  go_wp2_with fail
  refine (putText_any none 0 0 [] s w3 (IsB.nil _ _) (fun _ => rfl) (by simp; omega) rfl).mono ?_
  rintro e w4 ⟨v4, rfl, ho, hb⟩
  rw [List.nil_append] at ho
  obtain ⟨a4, c4, rfl, hn4⟩ := New.ofOwn ho
  have HB' : Hid (Below w.heap.size w w4) := HB.out.trans (hb.mono HB.out.size)
  clear HB
  have HB := HB'
  clear HB'
  have F4 : Hid (New 5 w3.heap.size w4 a4 c4 (words (strB s))) := hn4
  clear ho hb hn4
  go_wp2_with fail
  refine (behind_n a4 b c4 capb _ _ (words (strB s)) y w4 F4.out.isB F4.out.cap (HY.out.below HB.out) NY.out (by omega) (by omega) (by omega)).mono ?_
  rintro e w5 ⟨a5, c5, rfl, hn5, hb⟩
  have HB' : Hid (Below w.heap.size w w5) := HB.out.trans (hb.mono HB.out.size)
  clear HB
  have HB := HB'
  clear HB'
  have F5 : Hid (New 5 w4.heap.size w5 a5 c5 (words (strB s) ++ y)) := hn5
  clear hb hn5
  go_wp2_with fail
  refine (text_back' s y (by omega) a5 c5 _ _ F5.out.isB F5.out.le F5.out.max (by simp <;> omega)).mono ?_
  rintro e w' ⟨rfl, hw⟩
  have hw2 := hw.symm
  clear hw
  subst hw2
  clear F4 F5
  go_wp2_with fail
  refine (frame_any a cap _ p w5 (HP.out.below HB.out) (HT.out.below HB.out HT.out.lt) NX.out (by omega) (by omega)).mono ?_
  rintro e w6 ⟨v6, rfl, ho, hb⟩
  obtain ⟨a6, c6, rfl, hn6⟩ := New.ofOwn ho
  have HB' : Hid (Below w.heap.size w w6) := HB.out.trans (hb.mono HB.out.size)
  clear HB
  have HB := HB'
  clear HB'
  have F6 : Hid (New 5 w5.heap.size w6 a6 c6 (frame p)) := hn6
  clear ho hb hn6
  go_wp2_with fail
  refine (behind_n a6 b c6 capb _ _ (frame p) y w6 F6.out.isB F6.out.cap (HY.out.below HB.out) NY.out (by omega) (by omega) (by omega)).mono ?_
  rintro e w7 ⟨a7, c7, rfl, hn7, hb⟩
  have HB' : Hid (Below w.heap.size w w7) := HB.out.trans (hb.mono HB.out.size)
  clear HB
  have HB := HB'
  clear HB'
  have F7 : Hid (New 5 w6.heap.size w7 a7 c7 (frame p ++ y)) := hn7
  clear hb hn7
  go_wp2_with fail
  refine (unframe_back' p y hp1 a7 c7 _ w7 F7.out.isB (HT.out.below HB.out HT.out.lt) F7.out.le F7.out.max (by simp <;> omega)).mono ?_
  rintro e w8 ⟨a8, c8, rfl, hn8, hb⟩
  have HB' : Hid (Below w.heap.size w w8) := HB.out.trans (hb.mono HB.out.size)
  clear HB
  have HB := HB'
  clear HB'
  have F8 : Hid (New 5 w7.heap.size w8 a8 c8 (p)) := hn8
  clear hb hn8
  go_wp2_with fail
  refine (same_any a8 a c8 cap _ _ p w8 F8.out.isB (HP.out.below HB.out) (by omega) (by omega) (by omega)).mono ?_
  rintro e w9 ⟨rfl, d9, rfl⟩
  have hb : Below w8.heap.size w8 (w8.drewN d9) := below_drewN (Below.refl _ _) _
  generalize w8.drewN d9 = w9 at *
  have HB' : Hid (Below w.heap.size w w9) := HB.out.trans (hb.mono HB.out.size)
  clear HB
  have HB := HB'
  clear HB'
  clear hb
  go_wp2_with fail
  go_ret
  exact ⟨by simp, HB.out⟩

end CodecBack
end Go.Proofs.YtpefacgdkgediaaDoor
