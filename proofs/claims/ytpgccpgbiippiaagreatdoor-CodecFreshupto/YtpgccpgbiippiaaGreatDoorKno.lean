import Derived.Test.YtpgccpgbiippiaaGreatDoorProg
import Derived.Test.YtpgccpgbiippiaaGreatDoorUnf
import Derived.Test.YtpgccpgbiippiaaGreatDoorTxp
import Derived.Lib.SlBytesConst
import Derived.Lib.Strings
import Derived.WalkKit
import Derived.WalkSpells
import Derived.WalkLawsBesides
namespace Go.Proofs.YtpgccpgbiippiaaGreatDoor
namespace Cod
open Go.RowKit CMath Byt
set_option linter.unusedVariables false
set_option maxRecDepth 20000

theorem isB_lit (w : World) (l : List Nat) (T : TypeId) (h : ∀ x ∈ l, x < 256) : IsB (w.alloc (.cells (cellsB l).toArray T)) (some ⟨w.heap.size, 0, none⟩) l := by
  refine IsB.some ⟨by simp, fun i z hz => ?_⟩ h
  rw [World.cell?_alloc_at _ _ _ _ rfl, Nat.zero_add]
  simpa using cellsB_get hz
theorem isB_mark (w : World) (l : List Nat) (T : TypeId) (m : Nat × Nat) (h : ∀ x ∈ l, x < 256) : IsB (w.alloc (.cells (cellsB l).toArray T m)) (some ⟨w.heap.size, 0, none⟩) l := by
  refine IsB.some ⟨by simp, fun i z hz => ?_⟩ h
  rw [World.cell?_alloc_mark, Nat.zero_add]
  simpa using cellsB_get hz

theorem rd_ex : rd [172, 2, 9] 0 0 = (300, 2, 0) := by decide
theorem text_ex : text [2, 97, 98, 99] 2 = ([97, 98], 3, 0) := by decide
theorem frame_ex : frame [97] = [1, 97, 196, 255, 110, 113] := by
  unfold frame
  rw [show [97].length = 1 from rfl, num_small (by omega)]
  decide +kernel
theorem crc_ex : crc [49, 50, 51, 52, 53, 54, 55, 56, 57] = 3808858755 := by decide +kernel

set_option maxHeartbeats 1000000 in
theorem known_any (w : World) (ht : Tab w) :
    Calls Tryz.prog 4 #[] w fun e w' => e = .returned (.bool true) ∧ Below w.heap.size w w' := by
  have HT : Hid (Tab w) := ht
  have hpos := ht.lt
  clear ht
  have kc := fun (w : World) (C : Array Value) (n c : Nat) => Lib.run_convert_bytes_const (P := Tryz.prog) w 22 5 C n c Tryz.underlying22 Tryz.underlying5
  have hs : ((ofB [97, 98]).toList == [97, 98]) = true := by rw [Lib.toList_data]; rfl
  go_enter Tryz.func4, Tryz.ntmps4
  go_wp2_with fail
  have hb1 : Below w.heap.size w (w.alloc (.cells #[.int .u8 172, .int .u8 2, .int .u8 9] 5)) := (Below.refl _ _).alloc (Nat.le_refl _) _
  have c1 := uint_any (some ⟨w.heap.size, 0, none⟩) 3 3 [172, 2, 9] (w.alloc (.cells #[.int .u8 172, .int .u8 2, .int .u8 9] 5)) (isB_lit w [172, 2, 9] 5 (by decide)) (by decide) (by decide) rfl
  rw [rd_ex] at c1
  have HB1 : Hid (Below w.heap.size w (w.alloc (.cells #[.int .u8 172, .int .u8 2, .int .u8 9] 5))) := hb1
  clear hb1
  generalize w.alloc (.cells #[.int .u8 172, .int .u8 2, .int .u8 9] 5) = w1 at *
  refine c1.mono ?_
  rintro e w' ⟨rfl, hw⟩
  have hw2 := hw.symm
  clear hw
  subst hw2
  clear c1
  go_wp2_with fail
  have c2 := text_any (some ⟨w1.heap.size, 0, none⟩) 4 4 [2, 97, 98, 99] 2 (w1.alloc (.cells #[.int .u8 2, .int .u8 97, .int .u8 98, .int .u8 99] 5)) (isB_lit w1 [2, 97, 98, 99] 5 (by decide)) (by decide) (by decide) (by decide) rfl
  unfold txt at c2
  rw [text_ex] at c2
  have HB2 : Hid (Below w.heap.size w (w1.alloc (.cells #[.int .u8 2, .int .u8 97, .int .u8 98, .int .u8 99] 5))) := HB1.out.alloc HB1.out.size _
  generalize w1.alloc (.cells #[.int .u8 2, .int .u8 97, .int .u8 98, .int .u8 99] 5) = w2 at *
  refine c2.mono ?_
  rintro e w' ⟨rfl, hw⟩
  have hw2 := hw.symm
  clear hw
  subst hw2
  clear c2
  go_wp2_with fail
  have hbA : Below w.heap.size w (w2.alloc (.cells #[.int .u8 97] 5)) := HB2.out.alloc HB2.out.size _
  have c3 := frame_any (some ⟨w2.heap.size, 0, none⟩) 1 1 [97] (w2.alloc (.cells #[.int .u8 97] 5)) (isB_lit w2 [97] 5 (by decide)) (HT.out.below hbA hpos) (by simp) (by decide) rfl
  rw [frame_ex] at c3
  have HB3 : Hid (Below w.heap.size w (w2.alloc (.cells #[.int .u8 97] 5))) := hbA
  clear hbA
  generalize w2.alloc (.cells #[.int .u8 97] 5) = w3 at *
  refine c3.mono ?_
  rintro e w4 ⟨v4, rfl, ho, hb⟩
  obtain ⟨a4, k4, rfl, hn4⟩ := New.ofOwn ho
  have H4 : Hid (New 5 w3.heap.size w4 a4 k4 [1, 97, 196, 255, 110, 113]) := hn4
  have HB4 : Hid (Below w.heap.size w w4) := HB3.out.trans (hb.mono HB3.out.size)
  clear c3 ho hb hn4
  go_wp2_with fail
  have hb5 : Below w4.heap.size w4 (w4.alloc (.cells #[.int .u8 1, .int .u8 97, .int .u8 196, .int .u8 255, .int .u8 110, .int .u8 113] 5)) := (Below.refl _ _).alloc (Nat.le_refl _) _
  have c5 := same_any a4 (some ⟨w4.heap.size, 0, none⟩) k4 6 6 6 [1, 97, 196, 255, 110, 113] (w4.alloc (.cells #[.int .u8 1, .int .u8 97, .int .u8 196, .int .u8 255, .int .u8 110, .int .u8 113] 5)) (H4.out.isB.below hb5) (isB_lit w4 [1, 97, 196, 255, 110, 113] 5 (by decide)) (by decide) rfl rfl
  have HB5 : Hid (Below w.heap.size w (w4.alloc (.cells #[.int .u8 1, .int .u8 97, .int .u8 196, .int .u8 255, .int .u8 110, .int .u8 113] 5))) := HB4.out.alloc HB4.out.size _
  clear hb5
  generalize w4.alloc (.cells #[.int .u8 1, .int .u8 97, .int .u8 196, .int .u8 255, .int .u8 110, .int .u8 113] 5) = w5 at *
  refine c5.mono ?_
  rintro e w6 ⟨rfl, d6, rfl⟩
  have HB6 : Hid (Below w.heap.size w (w5.drewN d6)) := below_drewN HB5.out d6
  generalize w5.drewN d6 = w6 at *
  clear c5
  go_wp2_with fail
  have c6 := sum_any (some ⟨w6.heap.size, 0, none⟩) 9 9 [49, 50, 51, 52, 53, 54, 55, 56, 57] (w6.alloc (.cells #[.int .u8 49, .int .u8 50, .int .u8 51, .int .u8 52, .int .u8 53, .int .u8 54, .int .u8 55, .int .u8 56, .int .u8 57] 5 (9, 10))) (isB_mark w6 [49, 50, 51, 52, 53, 54, 55, 56, 57] 5 (9, 10) (by decide)) (HT.out.below (HB6.out.alloc HB6.out.size _) hpos) (by decide) rfl
  rw [crc_ex] at c6
  have HB7 : Hid (Below w.heap.size w (w6.alloc (.cells #[.int .u8 49, .int .u8 50, .int .u8 51, .int .u8 52, .int .u8 53, .int .u8 54, .int .u8 55, .int .u8 56, .int .u8 57] 5 (9, 10)))) := HB6.out.alloc HB6.out.size _
  refine c6.mono ?_
  rintro e w' ⟨rfl, hw⟩
  have hw2 := hw.symm
  clear hw
  subst hw2
  clear c6
  go_wp2_with fail
  go_ret
  exact ⟨by simp, HB7.out⟩

theorem part_any (a : Option Addr) (cap n : Nat) (l : List Nat) (w : World) (ha : IsB w a l) (hc : a = none → cap = 0) (hcap : l.length ≤ cap) (hlen : cap ≤ 9223372036854775807) (hn : n = l.length) :
    Calls Tryz.prog 5 #[.slice a n cap] w fun e w' => e = .returned (.slice a (l.take 262144).length cap) ∧ w' = w := by
  subst hn
  by_cases h : l.length ≤ 262144
  · have e : (l.take 262144).length = l.length := by simp; omega
    rw [e]
    clear e
    go_enter Tryz.func5, Tryz.ntmps5
    go_wp2
    go_ret
    exact ⟨rfl, rfl⟩
  · have e : (l.take 262144).length = 262144 := by simp; omega
    rw [e]
    clear e
    go_enter Tryz.func5, Tryz.ntmps5
    go_wp2
    go_ret
    exact ⟨rfl, rfl⟩

end Cod
end Go.Proofs.YtpgccpgbiippiaaGreatDoor
