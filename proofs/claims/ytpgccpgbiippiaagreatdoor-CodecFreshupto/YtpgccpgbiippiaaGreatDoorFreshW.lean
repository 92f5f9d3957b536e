import Derived.Test.YtpgccpgbiippiaaGreatDoorProg
import Derived.Test.YtpgccpgbiippiaaGreatDoorKno
import Derived.Test.YtpgccpgbiippiaaGreatDoorYS
import Derived.Test.YtpgccpgbiippiaaGreatDoorYU
import Derived.WalkKit
import Derived.WalkSpells
import Derived.WalkLawsBesides
namespace Go.Proofs.YtpgccpgbiippiaaGreatDoor
namespace CodecFresh
open Go.RowKit CMath Byt Cod BookB
set_option linter.unusedVariables false
set_option maxRecDepth 100000

theorem frame_len {l : List Nat} (h : l.length ≤ 2000000) : (frame l).length ≤ l.length + 14 := by
  have := num_le10 (n := l.length) (by omega)
  have e : (frame l).length = (num l.length).length + l.length + 4 := by simp [frame, four]; omega
  omega
theorem unframe_own (p : List Nat) (hp : p.length ≤ 262144) (a : Option Addr) (c m : Nat) (w : World) (ha : IsB w a (frame p)) (ht : Tab w) (h1 : (frame p).length ≤ c) (h2 : c ≤ 9223372036854775807) (hm : m = (frame p).length) :
    Calls Tryz.prog 10 #[.slice a m c] w fun e w' => ∃ a' c', e = .returned (.tuple #[.slice a' p.length c', .int .i64 ((frame p).length : Nat), .int .i64 0]) ∧ New 5 w.heap.size w' a' c' p ∧ Below w.heap.size w w' ∧ a' ≠ none := by
  have h := unframe_some a c m (frame p) w ha ht h1 h2 hm
  unfold unfV at h
  have e := unframe_back p [] hp
  rw [List.append_nil] at e
  rw [e] at h
  refine h.mono ?_
  rintro e w' ⟨a', c', rfl, q1, q2, q3⟩
  exact ⟨a', c', rfl, q1, q2, q3 rfl⟩
theorem own_some {T base : Nat} {w : World} {v : Value} {l : List Nat} (h : Own T base w v l) : ∃ a c, v = .slice a l.length c ∧ New T base w a c l ∧ a ≠ none := by
  obtain ⟨g, c, rfl, h1, h2⟩ := h
  exact ⟨_, c, rfl, ⟨h1, h2⟩, fun e => by cases e⟩

theorem fix {w : World} {a : Option Addr} {p : List Nat} (h : IsB w a p) : ∃ a', (∀ w, IsB w a' p → IsB w a p) ∧ IsB w a' p ∧ ∀ ad, a' = some ad → ad.block < w.heap.size := by
  by_cases e : p = []
  · subst e
    exact ⟨none, fun w _ => IsB.nil _ _, IsB.nil _ _, fun ad e => by cases e⟩
  · obtain ⟨b, off, rfl, hr⟩ := h.1 e
    exact ⟨_, fun w h => h, h, fun ad e => by cases e; exact hr.1⟩

set_option maxHeartbeats 4000000 in
theorem walk (a : Option Addr) (cap : Nat) (x : List Nat) (n : Nat) (s : ByteArray) (w : World) (hn : n < 18446744073709551616) (hx : IsB w a x) (nx : a = none → cap = 0) (cx : x.length ≤ cap) (mx : cap ≤ 9223372036854775807) (ht : Tab w) (hlen : s.size + x.length ≤ 1500000) :
    Calls Tryz.prog 3 #[.slice a x.length cap, .int .u64 n, .string s] w fun e w' => e = .returned (.bool true) ∧ Below w.heap.size w w' := by
  have HX : Hid (IsB w a x) := hx
  have HP : Hid (IsB w a (x.take 262144)) := hx.take _
  have NX : Hid (a = none → cap = 0) := nx
  have HT : Hid (Tab w) := ht
  have HB : Hid (Below w.heap.size w w) := Below.refl _ _
  have hl10 := num_le10 hn
  have hw10 : (words (strB s)).length ≤ 10 + s.size := by unfold words; rw [List.length_append, strB_length]; have := num_le10 (n := s.size) (by omega); omega
  have hp1 : (x.take 262144).length ≤ 262144 := by simp; omega
  have fl := frame_len (l := x.take 262144) (by omega)
  clear hx nx ht
  go_enter Tryz.func3, Tryz.ntmps3
  go_wp2_with fail
  refine (known_any w HT.out).mono ?_
  rintro e w1 ⟨rfl, hb⟩
  have HB' : Hid (Below w.heap.size w w1) := HB.out.trans (hb.mono HB.out.size)
  clear HB
  have HB := HB'
  clear HB'
  clear hb
  go_wp2_with fail
  refine (part_any a cap _ x _ (HX.out.below HB.out) NX.out cx mx rfl).mono ?_
  rintro e w' ⟨rfl, hw⟩
  have hw2 := hw.symm
  clear hw
  subst hw2
  generalize x.take 262144 = p at *
  clear HX
  obtain ⟨a', fx, hp', ax⟩ := fix HP.out
  have FX : Hid (∀ w, IsB w a' p → IsB w a p) := fx
  have HP' : Hid (IsB w a' p) := hp'
  have AX : Hid (∀ ad, a' = some ad → ad.block < w.heap.size) := ax
  clear fx hp' ax
  go_wp2_with fail
  refine (behind_n a none cap 0 _ 0 p [] w1 (HP.out.below HB.out) NX.out (IsB.nil _ _) (fun _ => rfl) (by simp; omega) rfl rfl).mono ?_
  rintro e w2 ⟨a2, c2, rfl, hn2, hb⟩
  rw [List.append_nil] at hn2
  simp only [List.append_nil]
  have HB' : Hid (Below w.heap.size w w2) := HB.out.trans (hb.mono HB.out.size)
  clear HB
  have HB := HB'
  clear HB'
  have KE : Hid (New 5 w1.heap.size w2 a2 c2 (p)) := hn2
  clear hb hn2
  go_wp2_with fail
  refine (frame_any a2 c2 _ p w2 KE.out.isB (HT.out.below HB.out HT.out.lt) KE.out.cap (by omega) rfl).mono ?_
  rintro e w3 ⟨v3, rfl, ho, hb⟩
  obtain ⟨a3, c3, rfl, hn3⟩ := New.ofOwn ho
  have HB' : Hid (Below w.heap.size w w3) := HB.out.trans (hb.mono HB.out.size)
  clear HB
  have HB := HB'
  clear HB'
  have KE' : Hid (New 5 w1.heap.size w3 a2 c2 (p)) := KE.out.below hb
  clear KE
  have KE := KE'
  clear KE'
  have FR : Hid (New 5 w2.heap.size w3 a3 c3 (frame p)) := hn3
  clear ho hb hn3
  go_wp2_with fail
  refine (behind_n a3 none c3 0 _ 0 (frame p) [] w3 FR.out.isB FR.out.cap (IsB.nil _ _) (fun _ => rfl) (by simp; omega) rfl rfl).mono ?_
  rintro e w4 ⟨a4, c4, rfl, hn4, hb⟩
  rw [List.append_nil] at hn4
  simp only [List.append_nil]
  have HB' : Hid (Below w.heap.size w w4) := HB.out.trans (hb.mono HB.out.size)
  clear HB
  have HB := HB'
  clear HB'
  have KE' : Hid (New 5 w1.heap.size w4 a2 c2 (p)) := KE.out.below hb
  clear KE
  have KE := KE'
  clear KE'
  have FR' : Hid (New 5 w2.heap.size w4 a3 c3 (frame p)) := FR.out.below hb
  clear FR
  have FR := FR'
  clear FR'
  have WA : Hid (New 5 w3.heap.size w4 a4 c4 (frame p)) := hn4
  clear hb hn4
  have HS : Hid (St w (upd (fun _ => 0) w4.heap.size 1) (w4.alloc (.cells bookZ 49)) w4.heap.size 0 [(a', p), (a2, p), (a3, frame p), (a4, frame p)] []) := St.first HB.out [(a', p), (a2, p), (a3, frame p), (a4, frame p)] (by
    intro r hr
    simp at hr
    rcases hr with rfl | rfl | rfl | rfl
    · exact ⟨HP'.out.below HB.out, fun ad e => Nat.lt_of_lt_of_le (AX.out ad e) HB.out.size⟩
    · exact ⟨KE.out.isB, new_lt KE.out⟩
    · exact ⟨FR.out.isB, new_lt FR.out⟩
    · exact ⟨WA.out.isB, new_lt WA.out⟩)
  have FC : Hid ((frame p).length ≤ c3 ∧ c3 ≤ 9223372036854775807 ∧ (a3 = none → c3 = 0)) := ⟨FR.out.le, FR.out.max, FR.out.cap⟩
  have KC : Hid (a2 = none → c2 = 0) := KE.out.cap
  have WC : Hid (a4 = none → c4 = 0) := WA.out.cap
  have hU : (p ++ num n).length ≤ 2000000 := by simp; omega
  have hV : (p ++ words (strB s)).length ≤ 2000000 := by simp; omega
  have hK4 : w.heap.size ≤ w4.heap.size := HB.out.size
  clear KE FR WA HP HP' AX HB
  go_wp2_with (refine wpList_book (by rfl) (by rfl) ?_)
  generalize w4.alloc (.cells bookZ 49) = wk at *
  generalize w4.heap.size = K at *
  go_loopw [11, 12, 13, 14, 15, 16, 17, 18, 19, 20, 21, 22, 23, 24, 25, 26] (fun k _ _ _ _ _ _ _ _ _ _ _ _ _ _ _ wr => ∃ m : Nat, m ≤ 3 ∧ k = .int .i64 m ∧ ∃ T, St w T wr K (8 * m) [(a', p), (a2, p), (a3, frame p), (a4, frame p)] []) (fun k _ _ _ _ _ _ _ _ _ _ _ _ _ _ _ _ => 3 - (intOf k).toNat)
  case atStart => exact ⟨0, by omega, rfl, _, HS.out⟩
  case round =>
    rename World => w5
    obtain ⟨m, hm, rfl, T5, hst⟩ := hrel
    clear HS
    have HS : Hid (St w T5 w5 K (8 * m) [(a', p), (a2, p), (a3, frame p), (a4, frame p)] []) := hst
    clear hst
    by_cases hm3 : m < 3
    · have hmi : (m : Int) < 3 := by omega
      go_wp2_with fail
      refine (putUint_n a cap _ p n w5 (FX.out _ (HS.out.row (a', p) (by simp)).1) NX.out (by omega) hn rfl).mono ?_
      rintro e w6 ⟨v6, rfl, ho, hb⟩
      obtain ⟨a6, c6, rfl, hn6, hne6⟩ := own_some ho
      obtain ⟨T6, hst⟩ := HS.out.make hb 1 hn6 hne6
      have N6 : Hid (a6 = none → c6 = 0) := hn6.cap
      have HS' : Hid (St w T6 w6 K (8 * m) [(a', p), (a2, p), (a3, frame p), (a4, frame p)] [(1, a6, c6, p ++ num n)]) := hst
      clear HS
      have HS := HS'
      clear HS'
      clear ho
      clear hst hb hn6 hne6
      go_wp2_with fail
      refine (putUint_n a cap _ p n w6 (FX.out _ (HS.out.row (a', p) (by simp)).1) NX.out (by omega) hn rfl).mono ?_
      rintro e w7 ⟨v7, rfl, ho, hb⟩
      obtain ⟨a7, c7, rfl, hn7, hne7⟩ := own_some ho
      obtain ⟨T7, hst⟩ := HS.out.make hb 2 hn7 hne7
      have N7 : Hid (a7 = none → c7 = 0) := hn7.cap
      have HS' : Hid (St w T7 w7 K (8 * m) [(a', p), (a2, p), (a3, frame p), (a4, frame p)] [(2, a7, c7, p ++ num n), (1, a6, c6, p ++ num n)]) := hst
      clear HS
      have HS := HS'
      clear HS'
      clear ho
      clear hst hb hn7 hne7
      go_wp2_with fail
      refine (putText_any a cap _ p s w7 (FX.out _ (HS.out.row (a', p) (by simp)).1) NX.out (by omega) rfl).mono ?_
      rintro e w8 ⟨v8, rfl, ho, hb⟩
      obtain ⟨a8, c8, rfl, hn8, hne8⟩ := own_some ho
      obtain ⟨T8, hst⟩ := HS.out.make hb 3 hn8 hne8
      have N8 : Hid (a8 = none → c8 = 0) := hn8.cap
      have HS' : Hid (St w T8 w8 K (8 * m) [(a', p), (a2, p), (a3, frame p), (a4, frame p)] [(3, a8, c8, p ++ words (strB s)), (2, a7, c7, p ++ num n), (1, a6, c6, p ++ num n)]) := hst
      clear HS
      have HS := HS'
      clear HS'
      clear ho
      clear hst hb hn8 hne8
      go_wp2_with fail
      refine (putText_any a cap _ p s w8 (FX.out _ (HS.out.row (a', p) (by simp)).1) NX.out (by omega) rfl).mono ?_
      rintro e w9 ⟨v9, rfl, ho, hb⟩
      obtain ⟨a9, c9, rfl, hn9, hne9⟩ := own_some ho
      obtain ⟨T9, hst⟩ := HS.out.make hb 4 hn9 hne9
      have N9 : Hid (a9 = none → c9 = 0) := hn9.cap
      have HS' : Hid (St w T9 w9 K (8 * m) [(a', p), (a2, p), (a3, frame p), (a4, frame p)] [(4, a9, c9, p ++ words (strB s)), (3, a8, c8, p ++ words (strB s)), (2, a7, c7, p ++ num n), (1, a6, c6, p ++ num n)]) := hst
      clear HS
      have HS := HS'
      clear HS'
      clear ho
      clear hst hb hn9 hne9
      go_wp2_with fail
      refine (frame_any a cap _ p w9 (FX.out _ (HS.out.row (a', p) (by simp)).1) (HT.out.below HS.out.base HT.out.lt) NX.out (by omega) rfl).mono ?_
      rintro e w10 ⟨v10, rfl, ho, hb⟩
      obtain ⟨a10, c10, rfl, hn10, hne10⟩ := own_some ho
      obtain ⟨T10, hst⟩ := HS.out.make hb 5 hn10 hne10
      have N10 : Hid (a10 = none → c10 = 0) := hn10.cap
      have HS' : Hid (St w T10 w10 K (8 * m) [(a', p), (a2, p), (a3, frame p), (a4, frame p)] [(5, a10, c10, frame p), (4, a9, c9, p ++ words (strB s)), (3, a8, c8, p ++ words (strB s)), (2, a7, c7, p ++ num n), (1, a6, c6, p ++ num n)]) := hst
      clear HS
      have HS := HS'
      clear HS'
      clear ho
      clear hst hb hn10 hne10
      go_wp2_with fail
      refine (frame_any a cap _ p w10 (FX.out _ (HS.out.row (a', p) (by simp)).1) (HT.out.below HS.out.base HT.out.lt) NX.out (by omega) rfl).mono ?_
      rintro e w11 ⟨v11, rfl, ho, hb⟩
      obtain ⟨a11, c11, rfl, hn11, hne11⟩ := own_some ho
      obtain ⟨T11, hst⟩ := HS.out.make hb 6 hn11 hne11
      have N11 : Hid (a11 = none → c11 = 0) := hn11.cap
      have HS' : Hid (St w T11 w11 K (8 * m) [(a', p), (a2, p), (a3, frame p), (a4, frame p)] [(6, a11, c11, frame p), (5, a10, c10, frame p), (4, a9, c9, p ++ words (strB s)), (3, a8, c8, p ++ words (strB s)), (2, a7, c7, p ++ num n), (1, a6, c6, p ++ num n)]) := hst
      clear HS
      have HS := HS'
      clear HS'
      clear ho
      clear hst hb hn11 hne11
      go_wp2_with fail
      refine (unframe_own p hp1 a3 c3 _ w11 (HS.out.row (a3, frame p) (by simp)).1 (HT.out.below HS.out.base HT.out.lt) FC.out.1 FC.out.2.1 rfl).mono ?_
      rintro e w12 ⟨a12, c12, rfl, hn12, hb, hne12⟩
      obtain ⟨T12, hst⟩ := HS.out.make hb 7 hn12 hne12
      have N12 : Hid (a12 = none → c12 = 0) := hn12.cap
      have HS' : Hid (St w T12 w12 K (8 * m) [(a', p), (a2, p), (a3, frame p), (a4, frame p)] [(7, a12, c12, p), (6, a11, c11, frame p), (5, a10, c10, frame p), (4, a9, c9, p ++ words (strB s)), (3, a8, c8, p ++ words (strB s)), (2, a7, c7, p ++ num n), (1, a6, c6, p ++ num n)]) := hst
      clear HS
      have HS := HS'
      clear HS'
      skip
      clear hst hb hn12 hne12
      go_wp2_with fail
      refine (unframe_own p hp1 a3 c3 _ w12 (HS.out.row (a3, frame p) (by simp)).1 (HT.out.below HS.out.base HT.out.lt) FC.out.1 FC.out.2.1 rfl).mono ?_
      rintro e w13 ⟨a13, c13, rfl, hn13, hb, hne13⟩
      obtain ⟨T13, hst⟩ := HS.out.make hb 8 hn13 hne13
      have N13 : Hid (a13 = none → c13 = 0) := hn13.cap
      have HS' : Hid (St w T13 w13 K (8 * m) [(a', p), (a2, p), (a3, frame p), (a4, frame p)] [(8, a13, c13, p), (7, a12, c12, p), (6, a11, c11, frame p), (5, a10, c10, frame p), (4, a9, c9, p ++ words (strB s)), (3, a8, c8, p ++ words (strB s)), (2, a7, c7, p ++ num n), (1, a6, c6, p ++ num n)]) := hst
      clear HS
      have HS := HS'
      clear HS'
      skip
      clear hst hb hn13 hne13
      go_wp2_with fail
      refine (same_any a6 a7 c6 c7 _ _ (p ++ num n) w13 (HS.out.live (1, a6, c6, p ++ num n) (by simp)).isB (HS.out.live (2, a7, c7, p ++ num n) (by simp)).isB (by omega) (by simp) (by simp)).mono ?_
      rintro e w14 ⟨rfl, d14, rfl⟩
      have hb : Below w13.heap.size w13 (w13.drewN d14) := below_drewN (Below.refl _ _) _
      generalize w13.drewN d14 = w14 at *
      have HS' : Hid (St w T13 w14 K (8 * m) [(a', p), (a2, p), (a3, frame p), (a4, frame p)] [(8, a13, c13, p), (7, a12, c12, p), (6, a11, c11, frame p), (5, a10, c10, frame p), (4, a9, c9, p ++ words (strB s)), (3, a8, c8, p ++ words (strB s)), (2, a7, c7, p ++ num n), (1, a6, c6, p ++ num n)]) := HS.out.below hb
      clear HS
      have HS := HS'
      clear HS'
      clear hb
      go_wp2_with fail
      refine (same_any a8 a9 c8 c9 _ _ (p ++ words (strB s)) w14 (HS.out.live (3, a8, c8, p ++ words (strB s)) (by simp)).isB (HS.out.live (4, a9, c9, p ++ words (strB s)) (by simp)).isB (by omega) (by simp) (by simp)).mono ?_
      rintro e w15 ⟨rfl, d15, rfl⟩
      have hb : Below w14.heap.size w14 (w14.drewN d15) := below_drewN (Below.refl _ _) _
      generalize w14.drewN d15 = w15 at *
      have HS' : Hid (St w T13 w15 K (8 * m) [(a', p), (a2, p), (a3, frame p), (a4, frame p)] [(8, a13, c13, p), (7, a12, c12, p), (6, a11, c11, frame p), (5, a10, c10, frame p), (4, a9, c9, p ++ words (strB s)), (3, a8, c8, p ++ words (strB s)), (2, a7, c7, p ++ num n), (1, a6, c6, p ++ num n)]) := HS.out.below hb
      clear HS
      have HS := HS'
      clear HS'
      clear hb
      go_wp2_with fail
      refine (same_any a10 a11 c10 c11 _ _ (frame p) w15 (HS.out.live (5, a10, c10, frame p) (by simp)).isB (HS.out.live (6, a11, c11, frame p) (by simp)).isB (by omega) (by simp) (by simp)).mono ?_
      rintro e w16 ⟨rfl, d16, rfl⟩
      have hb : Below w15.heap.size w15 (w15.drewN d16) := below_drewN (Below.refl _ _) _
      generalize w15.drewN d16 = w16 at *
      have HS' : Hid (St w T13 w16 K (8 * m) [(a', p), (a2, p), (a3, frame p), (a4, frame p)] [(8, a13, c13, p), (7, a12, c12, p), (6, a11, c11, frame p), (5, a10, c10, frame p), (4, a9, c9, p ++ words (strB s)), (3, a8, c8, p ++ words (strB s)), (2, a7, c7, p ++ num n), (1, a6, c6, p ++ num n)]) := HS.out.below hb
      clear HS
      have HS := HS'
      clear HS'
      clear hb
      go_wp2_with fail
      refine (same_any a10 a4 c10 c4 _ _ (frame p) w16 (HS.out.live (5, a10, c10, frame p) (by simp)).isB (HS.out.row (a4, frame p) (by simp)).1 (by omega) (by simp) (by simp)).mono ?_
      rintro e w17 ⟨rfl, d17, rfl⟩
      have hb : Below w16.heap.size w16 (w16.drewN d17) := below_drewN (Below.refl _ _) _
      generalize w16.drewN d17 = w17 at *
      have HS' : Hid (St w T13 w17 K (8 * m) [(a', p), (a2, p), (a3, frame p), (a4, frame p)] [(8, a13, c13, p), (7, a12, c12, p), (6, a11, c11, frame p), (5, a10, c10, frame p), (4, a9, c9, p ++ words (strB s)), (3, a8, c8, p ++ words (strB s)), (2, a7, c7, p ++ num n), (1, a6, c6, p ++ num n)]) := HS.out.below hb
      clear HS
      have HS := HS'
      clear HS'
      clear hb
      go_wp2_with fail
      refine (same_any a12 a2 c12 c2 _ _ (p) w17 (HS.out.live (7, a12, c12, p) (by simp)).isB (HS.out.row (a2, p) (by simp)).1 (by omega) (by simp) (by simp)).mono ?_
      rintro e w18 ⟨rfl, d18, rfl⟩
      have hb : Below w17.heap.size w17 (w17.drewN d18) := below_drewN (Below.refl _ _) _
      generalize w17.drewN d18 = w18 at *
      have HS' : Hid (St w T13 w18 K (8 * m) [(a', p), (a2, p), (a3, frame p), (a4, frame p)] [(8, a13, c13, p), (7, a12, c12, p), (6, a11, c11, frame p), (5, a10, c10, frame p), (4, a9, c9, p ++ words (strB s)), (3, a8, c8, p ++ words (strB s)), (2, a7, c7, p ++ num n), (1, a6, c6, p ++ num n)]) := HS.out.below hb
      clear HS
      have HS := HS'
      clear HS'
      clear hb
      go_wp2_with fail
      refine (same_any a13 a2 c13 c2 _ _ (p) w18 (HS.out.live (8, a13, c13, p) (by simp)).isB (HS.out.row (a2, p) (by simp)).1 (by omega) (by simp) (by simp)).mono ?_
      rintro e w19 ⟨rfl, d19, rfl⟩
      have hb : Below w18.heap.size w18 (w18.drewN d19) := below_drewN (Below.refl _ _) _
      generalize w18.drewN d19 = w19 at *
      have HS' : Hid (St w T13 w19 K (8 * m) [(a', p), (a2, p), (a3, frame p), (a4, frame p)] [(8, a13, c13, p), (7, a12, c12, p), (6, a11, c11, frame p), (5, a10, c10, frame p), (4, a9, c9, p ++ words (strB s)), (3, a8, c8, p ++ words (strB s)), (2, a7, c7, p ++ num n), (1, a6, c6, p ++ num n)]) := HS.out.below hb
      clear HS
      have HS := HS'
      clear HS'
      clear hb
      go_wp2_with fail
      refine (behind_n a7 none c7 0 _ 0 (p ++ num n) [] w19 (HS.out.live (2, a7, c7, p ++ num n) (by simp)).isB N7.out (IsB.nil _ _) (fun _ => rfl) (by rw [List.length_nil]; omega) (by simp) rfl).mono ?_
      rintro e w20 ⟨a20, c20, rfl, hn20, hb⟩
      rw [List.append_nil] at hn20
      simp only [List.append_nil]
      have HS' : Hid (St w T13 w20 K (8 * m) [(a20, p ++ num n), (a', p), (a2, p), (a3, frame p), (a4, frame p)] [(8, a13, c13, p), (7, a12, c12, p), (6, a11, c11, frame p), (5, a10, c10, frame p), (4, a9, c9, p ++ words (strB s)), (3, a8, c8, p ++ words (strB s)), (2, a7, c7, p ++ num n), (1, a6, c6, p ++ num n)]) := HS.out.more hb hn20
      clear HS
      have HS := HS'
      clear HS'
      clear hb hn20
      go_wp2_with fail
      refine (behind_n a9 none c9 0 _ 0 (p ++ words (strB s)) [] w20 (HS.out.live (4, a9, c9, p ++ words (strB s)) (by simp)).isB N9.out (IsB.nil _ _) (fun _ => rfl) (by rw [List.length_nil]; omega) (by simp) rfl).mono ?_
      rintro e w21 ⟨a21, c21, rfl, hn21, hb⟩
      rw [List.append_nil] at hn21
      simp only [List.append_nil]
      have HS' : Hid (St w T13 w21 K (8 * m) [(a21, p ++ words (strB s)), (a20, p ++ num n), (a', p), (a2, p), (a3, frame p), (a4, frame p)] [(8, a13, c13, p), (7, a12, c12, p), (6, a11, c11, frame p), (5, a10, c10, frame p), (4, a9, c9, p ++ words (strB s)), (3, a8, c8, p ++ words (strB s)), (2, a7, c7, p ++ num n), (1, a6, c6, p ++ num n)]) := HS.out.more hb hn21
      clear HS
      have HS := HS'
      clear HS'
      clear hb hn21
      go_wp2_with fail
      refine (behind_n a11 none c11 0 _ 0 (frame p) [] w21 (HS.out.live (6, a11, c11, frame p) (by simp)).isB N11.out (IsB.nil _ _) (fun _ => rfl) (by rw [List.length_nil]; omega) (by simp) rfl).mono ?_
      rintro e w22 ⟨a22, c22, rfl, hn22, hb⟩
      rw [List.append_nil] at hn22
      simp only [List.append_nil]
      have HS' : Hid (St w T13 w22 K (8 * m) [(a22, frame p), (a21, p ++ words (strB s)), (a20, p ++ num n), (a', p), (a2, p), (a3, frame p), (a4, frame p)] [(8, a13, c13, p), (7, a12, c12, p), (6, a11, c11, frame p), (5, a10, c10, frame p), (4, a9, c9, p ++ words (strB s)), (3, a8, c8, p ++ words (strB s)), (2, a7, c7, p ++ num n), (1, a6, c6, p ++ num n)]) := HS.out.more hb hn22
      clear HS
      have HS := HS'
      clear HS'
      clear hb hn22
      go_wp2_with fail
      refine (HS.out.bytes (by omega) 1 (a := a6) (c := c6) (l := p ++ num n) _ (by simp) (by omega) (by simp) [(8, a13, c13, p), (7, a12, c12, p), (6, a11, c11, frame p), (5, a10, c10, frame p), (4, a9, c9, p ++ words (strB s)), (3, a8, c8, p ++ words (strB s)), (2, a7, c7, p ++ num n)] (by simp)).mono ?_
      rintro e w23 ⟨rfl, T23, hst⟩
      have HS' : Hid (St w T23 w23 K (8 * m + 1) [(a22, frame p), (a21, p ++ words (strB s)), (a20, p ++ num n), (a', p), (a2, p), (a3, frame p), (a4, frame p)] [(8, a13, c13, p), (7, a12, c12, p), (6, a11, c11, frame p), (5, a10, c10, frame p), (4, a9, c9, p ++ words (strB s)), (3, a8, c8, p ++ words (strB s)), (2, a7, c7, p ++ num n)]) := hst
      clear HS
      have HS := HS'
      clear HS'
      clear hst
      go_wp2_with fail
      refine (HS.out.bytes (by omega) 3 (a := a8) (c := c8) (l := p ++ words (strB s)) _ (by simp) (by omega) (by simp) [(8, a13, c13, p), (7, a12, c12, p), (6, a11, c11, frame p), (5, a10, c10, frame p), (4, a9, c9, p ++ words (strB s)), (2, a7, c7, p ++ num n)] (by simp)).mono ?_
      rintro e w24 ⟨rfl, T24, hst⟩
      have HS' : Hid (St w T24 w24 K (8 * m + 1 + 1) [(a22, frame p), (a21, p ++ words (strB s)), (a20, p ++ num n), (a', p), (a2, p), (a3, frame p), (a4, frame p)] [(8, a13, c13, p), (7, a12, c12, p), (6, a11, c11, frame p), (5, a10, c10, frame p), (4, a9, c9, p ++ words (strB s)), (2, a7, c7, p ++ num n)]) := hst
      clear HS
      have HS := HS'
      clear HS'
      clear hst
      go_wp2_with fail
      refine (HS.out.bytes (by omega) 5 (a := a10) (c := c10) (l := frame p) _ (by simp) (by omega) (by simp) [(8, a13, c13, p), (7, a12, c12, p), (6, a11, c11, frame p), (4, a9, c9, p ++ words (strB s)), (2, a7, c7, p ++ num n)] (by simp)).mono ?_
      rintro e w25 ⟨rfl, T25, hst⟩
      have HS' : Hid (St w T25 w25 K (8 * m + 1 + 1 + 1) [(a22, frame p), (a21, p ++ words (strB s)), (a20, p ++ num n), (a', p), (a2, p), (a3, frame p), (a4, frame p)] [(8, a13, c13, p), (7, a12, c12, p), (6, a11, c11, frame p), (4, a9, c9, p ++ words (strB s)), (2, a7, c7, p ++ num n)]) := hst
      clear HS
      have HS := HS'
      clear HS'
      clear hst
      go_wp2_with fail
      refine (HS.out.bytes (by omega) 7 (a := a12) (c := c12) (l := p) _ (by simp) (by omega) (by simp) [(8, a13, c13, p), (6, a11, c11, frame p), (4, a9, c9, p ++ words (strB s)), (2, a7, c7, p ++ num n)] (by simp)).mono ?_
      rintro e w26 ⟨rfl, T26, hst⟩
      have HS' : Hid (St w T26 w26 K (8 * m + 1 + 1 + 1 + 1) [(a22, frame p), (a21, p ++ words (strB s)), (a20, p ++ num n), (a', p), (a2, p), (a3, frame p), (a4, frame p)] [(8, a13, c13, p), (6, a11, c11, frame p), (4, a9, c9, p ++ words (strB s)), (2, a7, c7, p ++ num n)]) := hst
      clear HS
      have HS := HS'
      clear HS'
      clear hst
      go_wp2_with fail
      refine (same_any a7 a20 c7 c20 _ _ (p ++ num n) w26 (HS.out.live (2, a7, c7, p ++ num n) (by simp)).isB (HS.out.row (a20, p ++ num n) (by simp)).1 (by omega) (by simp) (by simp)).mono ?_
      rintro e w27 ⟨rfl, d27, rfl⟩
      have hb : Below w26.heap.size w26 (w26.drewN d27) := below_drewN (Below.refl _ _) _
      generalize w26.drewN d27 = w27 at *
      have HS' : Hid (St w T26 w27 K (8 * m + 1 + 1 + 1 + 1) [(a22, frame p), (a21, p ++ words (strB s)), (a20, p ++ num n), (a', p), (a2, p), (a3, frame p), (a4, frame p)] [(8, a13, c13, p), (6, a11, c11, frame p), (4, a9, c9, p ++ words (strB s)), (2, a7, c7, p ++ num n)]) := HS.out.below hb
      clear HS
      have HS := HS'
      clear HS'
      clear hb
      go_wp2_with fail
      refine (same_any a9 a21 c9 c21 _ _ (p ++ words (strB s)) w27 (HS.out.live (4, a9, c9, p ++ words (strB s)) (by simp)).isB (HS.out.row (a21, p ++ words (strB s)) (by simp)).1 (by omega) (by simp) (by simp)).mono ?_
      rintro e w28 ⟨rfl, d28, rfl⟩
      have hb : Below w27.heap.size w27 (w27.drewN d28) := below_drewN (Below.refl _ _) _
      generalize w27.drewN d28 = w28 at *
      have HS' : Hid (St w T26 w28 K (8 * m + 1 + 1 + 1 + 1) [(a22, frame p), (a21, p ++ words (strB s)), (a20, p ++ num n), (a', p), (a2, p), (a3, frame p), (a4, frame p)] [(8, a13, c13, p), (6, a11, c11, frame p), (4, a9, c9, p ++ words (strB s)), (2, a7, c7, p ++ num n)]) := HS.out.below hb
      clear HS
      have HS := HS'
      clear HS'
      clear hb
      go_wp2_with fail
      refine (same_any a11 a22 c11 c22 _ _ (frame p) w28 (HS.out.live (6, a11, c11, frame p) (by simp)).isB (HS.out.row (a22, frame p) (by simp)).1 (by omega) (by simp) (by simp)).mono ?_
      rintro e w29 ⟨rfl, d29, rfl⟩
      have hb : Below w28.heap.size w28 (w28.drewN d29) := below_drewN (Below.refl _ _) _
      generalize w28.drewN d29 = w29 at *
      have HS' : Hid (St w T26 w29 K (8 * m + 1 + 1 + 1 + 1) [(a22, frame p), (a21, p ++ words (strB s)), (a20, p ++ num n), (a', p), (a2, p), (a3, frame p), (a4, frame p)] [(8, a13, c13, p), (6, a11, c11, frame p), (4, a9, c9, p ++ words (strB s)), (2, a7, c7, p ++ num n)]) := HS.out.below hb
      clear HS
      have HS := HS'
      clear HS'
      clear hb
      go_wp2_with fail
      refine (same_any a13 a2 c13 c2 _ _ (p) w29 (HS.out.live (8, a13, c13, p) (by simp)).isB (HS.out.row (a2, p) (by simp)).1 (by omega) (by simp) (by simp)).mono ?_
      rintro e w30 ⟨rfl, d30, rfl⟩
      have hb : Below w29.heap.size w29 (w29.drewN d30) := below_drewN (Below.refl _ _) _
      generalize w29.drewN d30 = w30 at *
      have HS' : Hid (St w T26 w30 K (8 * m + 1 + 1 + 1 + 1) [(a22, frame p), (a21, p ++ words (strB s)), (a20, p ++ num n), (a', p), (a2, p), (a3, frame p), (a4, frame p)] [(8, a13, c13, p), (6, a11, c11, frame p), (4, a9, c9, p ++ words (strB s)), (2, a7, c7, p ++ num n)]) := HS.out.below hb
      clear HS
      have HS := HS'
      clear HS'
      clear hb
      go_wp2_with fail
      refine (same_any a a2 cap c2 _ _ (p) w30 (FX.out _ (HS.out.row (a', p) (by simp)).1) (HS.out.row (a2, p) (by simp)).1 (by omega) (by simp) (by simp)).mono ?_
      rintro e w31 ⟨rfl, d31, rfl⟩
      have hb : Below w30.heap.size w30 (w30.drewN d31) := below_drewN (Below.refl _ _) _
      generalize w30.drewN d31 = w31 at *
      have HS' : Hid (St w T26 w31 K (8 * m + 1 + 1 + 1 + 1) [(a22, frame p), (a21, p ++ words (strB s)), (a20, p ++ num n), (a', p), (a2, p), (a3, frame p), (a4, frame p)] [(8, a13, c13, p), (6, a11, c11, frame p), (4, a9, c9, p ++ words (strB s)), (2, a7, c7, p ++ num n)]) := HS.out.below hb
      clear HS
      have HS := HS'
      clear HS'
      clear hb
      go_wp2_with fail
      refine (same_any a3 a4 c3 c4 _ _ (frame p) w31 (HS.out.row (a3, frame p) (by simp)).1 (HS.out.row (a4, frame p) (by simp)).1 (by omega) (by simp) (by simp)).mono ?_
      rintro e w32 ⟨rfl, d32, rfl⟩
      have hb : Below w31.heap.size w31 (w31.drewN d32) := below_drewN (Below.refl _ _) _
      generalize w31.drewN d32 = w32 at *
      have HS' : Hid (St w T26 w32 K (8 * m + 1 + 1 + 1 + 1) [(a22, frame p), (a21, p ++ words (strB s)), (a20, p ++ num n), (a', p), (a2, p), (a3, frame p), (a4, frame p)] [(8, a13, c13, p), (6, a11, c11, frame p), (4, a9, c9, p ++ words (strB s)), (2, a7, c7, p ++ num n)]) := HS.out.below hb
      clear HS
      have HS := HS'
      clear HS'
      clear hb
      go_wp2_with fail
      refine (HS.out.kept.hold).mono ?_
      rintro e w33 ⟨rfl, hb⟩
      have HS' : Hid (St w T26 w33 K (8 * m + 1 + 1 + 1 + 1) [(a22, frame p), (a21, p ++ words (strB s)), (a20, p ++ num n), (a', p), (a2, p), (a3, frame p), (a4, frame p)] [(8, a13, c13, p), (6, a11, c11, frame p), (4, a9, c9, p ++ words (strB s)), (2, a7, c7, p ++ num n)]) := HS.out.below hb
      clear HS
      have HS := HS'
      clear HS'
      clear hb
      go_wp2_with fail
      refine (HS.out.bytes (by omega) 2 (a := a7) (c := c7) (l := p ++ num n) _ (by simp) (by omega) (by simp) [(8, a13, c13, p), (6, a11, c11, frame p), (4, a9, c9, p ++ words (strB s))] (by simp)).mono ?_
      rintro e w34 ⟨rfl, T34, hst⟩
      have HS' : Hid (St w T34 w34 K (8 * m + 1 + 1 + 1 + 1 + 1) [(a22, frame p), (a21, p ++ words (strB s)), (a20, p ++ num n), (a', p), (a2, p), (a3, frame p), (a4, frame p)] [(8, a13, c13, p), (6, a11, c11, frame p), (4, a9, c9, p ++ words (strB s))]) := hst
      clear HS
      have HS := HS'
      clear HS'
      clear hst
      go_wp2_with fail
      refine (HS.out.bytes (by omega) 4 (a := a9) (c := c9) (l := p ++ words (strB s)) _ (by simp) (by omega) (by simp) [(8, a13, c13, p), (6, a11, c11, frame p)] (by simp)).mono ?_
      rintro e w35 ⟨rfl, T35, hst⟩
      have HS' : Hid (St w T35 w35 K (8 * m + 1 + 1 + 1 + 1 + 1 + 1) [(a22, frame p), (a21, p ++ words (strB s)), (a20, p ++ num n), (a', p), (a2, p), (a3, frame p), (a4, frame p)] [(8, a13, c13, p), (6, a11, c11, frame p)]) := hst
      clear HS
      have HS := HS'
      clear HS'
      clear hst
      go_wp2_with fail
      refine (HS.out.bytes (by omega) 6 (a := a11) (c := c11) (l := frame p) _ (by simp) (by omega) (by simp) [(8, a13, c13, p)] (by simp)).mono ?_
      rintro e w36 ⟨rfl, T36, hst⟩
      have HS' : Hid (St w T36 w36 K (8 * m + 1 + 1 + 1 + 1 + 1 + 1 + 1) [(a22, frame p), (a21, p ++ words (strB s)), (a20, p ++ num n), (a', p), (a2, p), (a3, frame p), (a4, frame p)] [(8, a13, c13, p)]) := hst
      clear HS
      have HS := HS'
      clear HS'
      clear hst
      go_wp2_with fail
      refine (HS.out.bytes (by omega) 8 (a := a13) (c := c13) (l := p) _ (by simp) (by omega) (by simp) [] (by simp)).mono ?_
      rintro e w37 ⟨rfl, T37, hst⟩
      have HS' : Hid (St w T37 w37 K (8 * m + 1 + 1 + 1 + 1 + 1 + 1 + 1 + 1) [(a22, frame p), (a21, p ++ words (strB s)), (a20, p ++ num n), (a', p), (a2, p), (a3, frame p), (a4, frame p)] []) := hst
      clear HS
      have HS := HS'
      clear HS'
      clear hst
      go_wp2_with fail
      refine (same_any a a2 cap c2 _ _ (p) w37 (FX.out _ (HS.out.row (a', p) (by simp)).1) (HS.out.row (a2, p) (by simp)).1 (by omega) (by simp) (by simp)).mono ?_
      rintro e w38 ⟨rfl, d38, rfl⟩
      have hb : Below w37.heap.size w37 (w37.drewN d38) := below_drewN (Below.refl _ _) _
      generalize w37.drewN d38 = w38 at *
      have HS' : Hid (St w T37 w38 K (8 * m + 1 + 1 + 1 + 1 + 1 + 1 + 1 + 1) [(a22, frame p), (a21, p ++ words (strB s)), (a20, p ++ num n), (a', p), (a2, p), (a3, frame p), (a4, frame p)] []) := HS.out.below hb
      clear HS
      have HS := HS'
      clear HS'
      clear hb
      go_wp2_with fail
      refine (same_any a3 a4 c3 c4 _ _ (frame p) w38 (HS.out.row (a3, frame p) (by simp)).1 (HS.out.row (a4, frame p) (by simp)).1 (by omega) (by simp) (by simp)).mono ?_
      rintro e w39 ⟨rfl, d39, rfl⟩
      have hb : Below w38.heap.size w38 (w38.drewN d39) := below_drewN (Below.refl _ _) _
      generalize w38.drewN d39 = w39 at *
      have HS' : Hid (St w T37 w39 K (8 * m + 1 + 1 + 1 + 1 + 1 + 1 + 1 + 1) [(a22, frame p), (a21, p ++ words (strB s)), (a20, p ++ num n), (a', p), (a2, p), (a3, frame p), (a4, frame p)] []) := HS.out.below hb
      clear HS
      have HS := HS'
      clear HS'
      clear hb
      go_wp2_with fail
      refine (HS.out.kept.hold).mono ?_
      rintro e w40 ⟨rfl, hb⟩
      have HS' : Hid (St w T37 w40 K (8 * m + 1 + 1 + 1 + 1 + 1 + 1 + 1 + 1) [(a22, frame p), (a21, p ++ words (strB s)), (a20, p ++ num n), (a', p), (a2, p), (a3, frame p), (a4, frame p)] []) := HS.out.below hb
      clear HS
      have HS := HS'
      clear HS'
      clear hb
      go_wp2
      go_roundw
      case rel =>
        refine ⟨m + 1, by omega, by go_num, T37, ?_⟩
        rw [show 8 * (m + 1) = 8 * m + 1 + 1 + 1 + 1 + 1 + 1 + 1 + 1 by omega]
        exact ⟨HS.out.kept, HS.out.base, HS.out.low, fun r hr => HS.out.row r (by simp at hr ⊢; rcases hr with rfl | rfl | rfl | rfl <;> simp), HS.out.live⟩
      case measure => simp [intOf]; omega
    · have hm' : m = 3 := by omega
      subst hm'
      go_wp2
      go_ret
      exact ⟨rfl, HS.out.base⟩

end CodecFresh
end Go.Proofs.YtpgccpgbiippiaaGreatDoor
