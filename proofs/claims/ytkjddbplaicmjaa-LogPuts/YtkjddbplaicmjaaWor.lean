import Derived.Test.YtkjddbplaicmjaaProg
import Derived.Test.YtkjddbplaicmjaaTxt
import Derived.WalkKit
import Derived.WalkSpells
import Derived.WalkLawsBesides
namespace Go.Proofs.Ytkjddbplaicmjaa
namespace Cod
open Go.RowKit CMath Byt
set_option linter.unusedVariables false
set_option maxRecDepth 20000

theorem strB_take (s : ByteArray) (k : Nat) (h : k < s.size) : (strB s).take (k + 1) = (strB s).take k ++ [s[k].toNat] := by
  rw [List.take_succ_eq_append_getElem (by rw [strB_length]; exact h)]
  congr 2
  simp [strB]
  rfl

set_option maxHeartbeats 1000000 in
theorem words_any (s : ByteArray) (w : World) (hk : 10 + s.size ≤ 140737488355328) :
    Calls Try.prog 24 #[.string s] w fun e w' => ∃ v, e = .returned v ∧ Own 5 w.heap.size w' v (words (strB s)) ∧ Below w.heap.size w w' := by
  obtain ⟨i8, hi, hz0, hz1, hz2⟩ := info_parts info8
  have hs18 : s.size < 18446744073709551616 := by omega
  have h10 := num_le10 hs18
  have hp := num_pos s.size
  go_enter Try.func24, Try.ntmps24
  go_wp2_with (go_at_call 23; refine (number_any s.size w hs18).mono ?_; rintro e w1 ⟨v1, rfl, ho1, hb1⟩; have HO1 : Hid (Own 5 w.heap.size w1 v1 (num s.size)) := ho1; have HB1 : Hid (Below w.heap.size w w1) := hb1; clear ho1 hb1)
  go_loopw [3, 4] (fun v i wr => ∃ k : Nat, k ≤ s.size ∧ i = .int .i64 k ∧ wr.ownsRow w.heap.size 5 1 v ((num s.size).length + k) (cellsB (num s.size ++ (strB s).take k)) ∧ Below w.heap.size w wr) (fun _ i _ => s.size - (intOf i).toNat)
  case atStart => exact ⟨0, Nat.zero_le _, rfl, by simpa using HO1.out.row, HB1.out⟩
  case round =>
    obtain ⟨k, hk', rfl, hown, hbe⟩ := hrel
    have hsz := hbe.size
    have HW : Hid (wr.ownsRow w.heap.size 5 1 _ ((num s.size).length + k) (cellsB (num s.size ++ (strB s).take k))) := hown
    have HB : Hid (Below w.heap.size w wr) := hbe
    clear hown hbe
    by_cases hlt : k < s.size
    · have q1 : (k : Int) < (s.size : Int) := by omega
      go_wp2_with (at_builtin; refine wpList_appB (by rfl) (.tmp 15) (.tmp 19) 44 (by rfl) w.heap.size 5 i8 Try.underlying44 hi hz0 hz1 hz2 _ (num s.size ++ (strB s).take k) _ (by rfl) (HW.out.alloc _) (some ⟨wr.heap.size, 0, none⟩) 1 1 [s[k].toNat] (by rfl) rfl (by simp) (isB_new rfl (UInt8.toNat_lt _)) (by omega) (by simp; omega) ?_; intro v2 w2 hown2 hgr2 hnn2; have HG2 : Hid ((wr.alloc _).grownBy w2 _) := hgr2; have HO2 : Hid (w2.ownsRow w.heap.size 5 1 v2 ((num s.size).length + k + 1) (cellsB (num s.size ++ (strB s).take k ++ [s[k].toNat]))) := hown2; clear hgr2 hown2 hnn2)
      have HB2 : Hid (Below w.heap.size w w2) := below_of (HB.out.alloc (by omega) _) HG2.out (Nat.le_refl _) (fun j hj => (HW.out.lt j hj).1)
      refine ⟨⟨k + 1, by omega, by go_num, ?_, HB2.out⟩, by simp [intOf]; omega⟩
      have h2 := HO2.out
      rw [List.append_assoc, ← strB_take s k hlt] at h2
      exact h2
    · obtain rfl : k = s.size := by omega
      go_wp2
      go_ret
      have h2 := HW.out
      rw [List.take_of_length_le (by rw [strB_length]; exact Nat.le_refl _)] at h2
      refine ⟨_, rfl, ?_, HB.out⟩
      unfold words
      rw [strB_length]
      refine Own.pos h2 ?_ (by omega)
      intro x hx
      rcases List.mem_append.1 hx with hx | hx
      · exact num_byte _ x hx
      · exact strB_byte s x hx

end Cod
end Go.Proofs.Ytkjddbplaicmjaa
