import Derived.Test.YtakgakjkemphlaaDoorRl1
import Derived.Test.YtakgakjkemphlaaDoorLa3
namespace Go.Proofs.YtakgakjkemphlaaDoor
namespace LogAppends
open Go.RowKit CMath Byt Cod Laws Rom Rl Lg Lga
set_option linter.unusedVariables false
set_option maxRecDepth 20000

set_option maxHeartbeats 1000000 in
theorem walk (at' : Int) (a : Option Addr) (cap : Nat) (l : List Nat) (w : World) (hat : -9223372036854775808 ≤ at' ∧ at' ≤ 9223372036854775807) (h : IsB w a l) (hc : a = none → cap = 0) (hcap : l.length ≤ cap) (hmx : cap ≤ 9223372036854775807) (ht : Tab w) (hlen : l.length + 4096 ≤ 140737488355328) :
    Calls Tryd.prog 3 #[.int .i64 at', .slice a l.length cap] w fun e w' => e = .returned (.bool true) ∧ Below w.heap.size w w' := by
  have HI : Hid (IsB w a l) := h
  have HN : Hid (a = none → cap = 0) := hc
  have HT : Hid (Tab w) := ht
  clear h hc ht
  by_cases hl : l.length ≤ 65536
  · have q1 : ¬ (65536 : Int) < (l.length : Int) := by omega
    go_enter Tryd.func3, Tryd.ntmps3
    go_wp2_with fail
    refine (bytes_any w.heap.size w.heap.size (.slice none 0 0) (.slice none 0 0) [] a cap l _ (room_new w w.heap.size (Nat.le_refl _)) (by simp) HN.out (HI.out.below ((Below.refl _ _).alloc (Nat.le_refl _) _)) (by omega)).mono ?_
    rintro e w2 ⟨g, c, v0, v1, rfl, hrm, hrow, hg, _, _, hkeep⟩
    have HS : Hid (Sl w w2 w.heap.size g c v0 v1 l) := Sl.first hrm hrow HI.out.2 hkeep
    clear hrm hrow hg hkeep
    go_wp2_with fail
    refine (append_any at' (some ⟨g, 0, none⟩) (l.length + 600) _ l w2 HS.out.isB (by simp) (by omega) (by omega) (HT.out.below HS.out.bel HT.out.lt) rfl (by omega) hat).mono ?_
    rintro e w3 ⟨v3, rfl, ho, hb⟩
    have hsz := app_length at'.toNat l
    obtain ⟨a3, c3, rfl, hn3⟩ := New.ofOwn ho
    have HA : Hid (IsB w3 a3 (app at'.toNat l)) := hn3.isB
    have HS3 : Hid (Sl w w3 w.heap.size g c v0 v1 l) := HS.out.below hb
    clear ho hb hn3 HS
    go_wp2_with fail
    refine (refAppend_any at' a cap _ l w3 (HI.out.below HS3.out.bel) HN.out hcap hmx rfl (by omega) hat).mono ?_
    rintro e w4 ⟨v4, rfl, ho, hb⟩
    obtain ⟨a4, c4, rfl, hn4⟩ := New.of ho (app_byte HI.out.2)
    have HA4 : Hid (IsB w4 a4 (app at'.toNat l)) := hn4.isB
    have HA3 : Hid (IsB w4 a3 (app at'.toNat l)) := HA.out.below hb
    have HS4 : Hid (Sl w w4 w.heap.size g c v0 v1 l) := HS3.out.below hb
    clear ho hb hn4 HS3 HA
    go_wp2_with fail
    refine (same_any a3 a4 c3 c4 _ _ (app at'.toNat l) w4 HA3.out HA4.out (by omega) rfl rfl).mono ?_
    rintro e w' ⟨rfl, d5, rfl⟩
    have HS5 : Hid (Sl w (w4.drewN d5) w.heap.size g c v0 v1 l) := HS4.out.below (below_drewN (Below.refl _ _) _)
    generalize w4.drewN d5 = w5 at *
    clear HS4 HA3 HA4
    go_wp2_with fail
    refine (same_any (some ⟨g, 0, none⟩) a (l.length + 600) cap _ _ l w5 HS5.out.isB (HI.out.below HS5.out.bel) (by omega) rfl rfl).mono ?_
    rintro e w' ⟨rfl, d6, rfl⟩
    have HS6 : Hid (Sl w (w5.drewN d6) w.heap.size g c v0 v1 l) := HS5.out.below (below_drewN (Below.refl _ _) _)
    generalize w5.drewN d6 = w6 at *
    clear HS5
    go_wp2_with fail
    refine (hold_any _ _ v0 v1 _ w6 HS6.out.rm (by simp)).mono ?_
    rintro e w' ⟨rfl, hw⟩
    obtain rfl := hw.symm
    go_wp2_with fail
    go_ret
    exact ⟨rfl, HS6.out.bel⟩
  · have q1 : (65536 : Int) < (l.length : Int) := by omega
    go_enter Tryd.func3, Tryd.ntmps3
    go_wp2
    go_ret
    exact ⟨rfl, Below.refl _ _⟩

end LogAppends
end Go.Proofs.YtakgakjkemphlaaDoor
