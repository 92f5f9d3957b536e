import Derived.Test.YtcmbogogakdeoaaDoorProg
import Derived.Test.YtcmbogogakdeoaaDoorMea
import Derived.WalkKit
import Derived.WalkSpells
import Derived.WalkLawsBesides
namespace Go.Proofs.YtcmbogogakdeoaaDoor
namespace Cod
open Go.RowKit CMath Byt
set_option linter.unusedVariables false
set_option maxRecDepth 20000

set_option maxHeartbeats 1000000 in
theorem putText_any (a : Option Addr) (cap m : Nat) (l : List Nat) (s : ByteArray) (w : World) (h : IsB w a l) (hc : a = none → cap = 0) (hk : l.length + 10 + s.size ≤ 140737488355328) (hm : m = l.length) :
    Calls Tryd.prog 37 #[.slice a m cap, .string s] w fun e w' => ∃ v, e = .returned v ∧ Own 5 w.heap.size w' v (l ++ words (strB s)) ∧ Below w.heap.size w w' := by
  subst hm
  obtain ⟨i8, hi, hz0, hz1, hz2⟩ := info_parts info8
  have HI : Hid (IsB w a l) := h
  have HN : Hid (a = none → cap = 0) := hc
  have hs18 : s.size < 18446744073709551616 := by omega
  have h10 := num_le10 hs18
  clear h hc
  go_enter Tryd.func37, Tryd.ntmps37
  go_wp2_with (first | (go_at_call 29; refine (grown_int a cap (10 + s.size) _ l w (by omega) HI.out HN.out (by omega)).mono ?_; rintro e w1 ⟨v1, rfl, ho1, hb1⟩; have HO1 : Hid (Own 5 w.heap.size w1 v1 l) := ho1; have HB1 : Hid (Below w.heap.size w w1) := hb1; clear ho1 hb1) | (go_at_call 28; refine (appendUint_any w.heap.size v1 l s.size w1 HO1.out.row HO1.out.byte hs18 HB1.out.size (by omega)).mono ?_; rintro e w2 ⟨v2, rfl, ho2, hb2⟩; have HO2 : Hid (Own 5 w.heap.size w2 v2 (l ++ num s.size)) := ho2; have HB2 : Hid (Below w.heap.size w1 w2) := hb2; clear ho2 hb2) | (at_builtin; refine Lib.wpList_append_own_string _ (by rfl) (.tmp 15) (.tmp 16) 23 9 (by rfl) w.heap.size 5 i8 Tryd.underlying23 Tryd.underlying9 hi hz0 hz1 hz2 _ (l ++ num s.size).length (cellsB (l ++ num s.size)) (by rfl) HO2.out.row s (by rfl) (by unfold maxLen; simp; omega) (by simp; omega) (by have := HB1.out.size; have := HB2.out.size; omega) ?_; intro v3 w3 hown3 hgr3 hnn3; have HG3 : Hid (w2.grownBy w3 _) := hgr3; have HO3 : Hid (w3.ownsRow w.heap.size 5 1 v3 ((l ++ num s.size).length + s.size) (cellsB (l ++ num s.size) ++ Lib.strCells s)) := hown3; clear hgr3 hown3 hnn3))
  go_ret
  have e1 : l ++ words (strB s) = (l ++ num s.size) ++ strB s := by unfold words; rw [strB_length, List.append_assoc]
  have h3 := HO3.out
  rw [strCells_eq, ← cellsB_append] at h3
  refine ⟨v3, rfl, ?_, (HB1.out.trans HB2.out).trans (below_of (Below.refl _ _) HG3.out (Nat.le_trans HB1.out.size HB2.out.size) (fun j hj => (HO2.out.row.lt j hj).1))⟩
  rw [e1]
  refine Own.pos h3 ?_ (by have := num_pos s.size; simp; omega)
  intro x hx
  rcases List.mem_append.1 hx with hx | hx
  · exact HO2.out.byte x hx
  · exact strB_byte s x hx

end Cod
end Go.Proofs.YtcmbogogakdeoaaDoor
