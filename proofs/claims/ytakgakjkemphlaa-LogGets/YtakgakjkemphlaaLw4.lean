import Derived.Test.YtakgakjkemphlaaRl1
import Derived.Test.YtakgakjkemphlaaRg8
import Derived.Test.YtakgakjkemphlaaSam
import Derived.Test.YtakgakjkemphlaaSg1
namespace Go.Proofs.Ytakgakjkemphlaa
namespace LogGets
open Go.RowKit CMath Byt Cod Lg Laws Grp Lgg Crw Rfw Rfg Rom Rl
set_option linter.unusedVariables false
set_option linter.unusedSimpArgs false
set_option maxRecDepth 20000

theorem num_any (n : Int) (w : World) :
    Calls Try.prog 15 #[.int .i64 n] w fun e w' => e = .returned (.int .i64 n) ∧ w' = w := by
  go_enter Try.func15, Try.ntmps15
  go_wp2
  go_ret
  exact ⟨rfl, rfl⟩
theorem IsG.under {w w' : World} {a : Option Addr} {gs : List (List W3)} (h : IsG w a gs) (hb : Below w.heap.size w w') : IsG w' a gs := h.below hb

set_option maxHeartbeats 1000000 in
theorem walk (a : Option Addr) (cap : Nat) (l : List Nat) (w : World) (h : IsB w a l) (hc : a = none → cap = 0) (hcap : l.length ≤ cap) (hmx : cap ≤ 9223372036854775807) (hlen : l.length + 4096 ≤ 140737488355328) :
    Calls Try.prog 4 #[.slice a l.length cap] w fun e w' => e = .returned (.bool true) ∧ Below w.heap.size w w' := by
  have HI : Hid (IsB w a l) := h
  have HN : Hid (a = none → cap = 0) := hc
  clear h hc
  by_cases hl : l.length ≤ 65536
  · have q1 : ¬ (65536 : Int) < (l.length : Int) := by omega
    go_enter Try.func4, Try.ntmps4
    go_wp2_with fail
    refine (bytes_any w.heap.size w.heap.size (.slice none 0 0) (.slice none 0 0) [] a cap l _ (room_new w w.heap.size (Nat.le_refl _)) (by simp) HN.out (HI.out.below ((Below.refl _ _).alloc (Nat.le_refl _) _)) (by omega)).mono ?_
    rintro e w2 ⟨g, c, v0, v1, rfl, hrm, hrow, hg, _, _, hkeep⟩
    have HS : Hid (Sl w w2 w.heap.size g c v0 v1 l) := Sl.first hrm hrow HI.out.2 hkeep
    clear hrm hrow hg hkeep
    go_wp2_with fail
    refine (get_any (some ⟨g, 0, none⟩) (l.length + 600) _ l w2 HS.out.isB rfl (by omega) (by omega) (.inr ⟨g, 0, rfl, HS.out.row.1⟩) (by omega)).mono ?_
    rintro e w3 ⟨v3, rfl, hb, a3, c3, rfl, hG3, h40⟩
    have HG : Hid (IsG w3 a3 (getGs l)) := hG3
    have HS3 : Hid (Sl w w3 w.heap.size g c v0 v1 l) := HS.out.below hb
    clear hb hG3 HS
    go_wp2_with fail
    refine (refGet_any a cap _ l w3 (HI.out.below HS3.out.bel) rfl hcap hmx (by omega)).mono ?_
    rintro e w4 ⟨v4, rfl, hb, a4, c4, rfl, hG4, _⟩
    have HG4 : Hid (IsG w4 a4 (getGs l)) := hG4
    have HG3 : Hid (IsG w4 a3 (getGs l)) := HG.out.below hb
    have HS4 : Hid (Sl w w4 w.heap.size g c v0 v1 l) := HS3.out.below hb
    clear hb hG4 HS3 HG
    have HGL : Hid ((getGs l).length ≤ 1000000000000) := h40
    clear h40
    generalize getN l = N at *
    generalize getErr l = E at *
    go_wp2_with fail
    refine (sameGroups_any a3 a4 c3 c4 _ _ (getGs l) w4 HG3.out HG4.out rfl rfl HGL.out).mono ?_
    rintro e w' ⟨rfl, d5, rfl⟩
    have HS5 : Hid (Sl w (w4.drewN d5) w.heap.size g c v0 v1 l) := HS4.out.below (below_drewN (Below.refl _ _) _)
    generalize w4.drewN d5 = w5 at *
    clear HS4 HG3 HG4
    go_wp2_with fail
    refine (num_any _ w5).mono ?_
    rintro e w' ⟨rfl, hw⟩
    obtain rfl := hw.symm
    go_wp2_with fail
    refine (same_any (some ⟨g, 0, none⟩) a (l.length + 600) cap _ _ l w5 HS5.out.isB (HI.out.below HS5.out.bel) (by omega) rfl rfl).mono ?_
    rintro e w' ⟨rfl, d6, rfl⟩
    have HS6 : Hid (Sl w (w5.drewN d6) w.heap.size g c v0 v1 l) := HS5.out.below (below_drewN (Below.refl _ _) _)
    generalize w5.drewN d6 = w6 at *
    clear HS5
    go_wp2_with fail
    refine (hold_any _ _ v0 v1 _ w6 HS6.out.rm (by simp)).mono ?_
    rintro e w' ⟨rfl, hw⟩
    obtain rfl := hw.symm
    go_wp2_with fail
    go_ret
    exact ⟨rfl, HS6.out.bel⟩
  · have q1 : (65536 : Int) < (l.length : Int) := by omega
    go_enter Try.func4, Try.ntmps4
    go_wp2
    go_ret
    exact ⟨rfl, Below.refl _ _⟩

end LogGets
end Go.Proofs.Ytakgakjkemphlaa
