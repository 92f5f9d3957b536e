import Derived.Test.YtcioaoanhmpdkaaProg
import Derived.Test.YtcioaoanhmpdkaaChk
import Derived.WalkKit
import Derived.WalkSpells
import Derived.WalkLawsBesides
namespace Go.Proofs.Ytcioaoanhmpdkaa
namespace Bat
open Go.RowKit KMath Cmp Ent Chk
set_option linter.unusedVariables false

set_option maxHeartbeats 1000000 in
theorem checkBatch_any (a : Option Addr) (cap : Nat) (ws : List Wr) (w : World) (h : IsWr w a ws) :
    Calls Try.prog 68 #[.slice a ws.length cap] w fun e w' => e = .returned (.int .i64 (errB ws)) ∧ Below w.heap.size w w' := by
  obtain ⟨hrow, hlen, hstr⟩ := h
  unfold maxLen at hlen
  have HROW : Hid (ws ≠ [] → ∃ b off, a = some ⟨b, off, none⟩ ∧ WrRow w b off ws) := hrow
  have HSTR : Hid (∀ x ∈ ws, x.1.size ≤ maxLen ∧ x.2.2.size ≤ maxLen) := hstr
  clear hrow hstr
  by_cases h16 : 16 < ws.length
  · have hr : errB ws = 13 := by simp [errB, h16]
    rw [hr]; clear hr
    go_enter Try.func68, Try.ntmps68
    go_wp2
    go_ret
    exact ⟨rfl, Below.refl _ _⟩
  · have hr : errB ws = errL ws := by simp [errB, h16]
    rw [hr]; clear hr
    go_enter Try.func68, Try.ntmps68
    go_wp2
    go_loopw [11] (fun i wr => ∃ k : Nat, k ≤ ws.length ∧ i = .int .i64 k ∧ errL (ws.drop k) = errL ws ∧ Below w.heap.size w wr) (fun i _ => ws.length - (intOf i).toNat)
    case atStart => exact ⟨0, Nat.zero_le _, rfl, rfl, Below.refl _ _⟩
    case round =>
      obtain ⟨k, hk, rfl, hel, hbe⟩ := hrel
      have HEL : Hid (errL (ws.drop k) = errL ws) := hel
      clear hel
      by_cases hlt : k < ws.length
      · obtain ⟨b, off, rfl, hr⟩ := HROW.out (by intro e; rw [e] at hlt; simp at hlt)
        obtain ⟨kk, dd, vv, hx⟩ : ∃ kk dd vv, ws[k]? = some (kk, dd, vv) := ⟨_, _, _, List.getElem?_eq_getElem hlt⟩
        obtain ⟨c0, c1, c2⟩ := (hr.below hbe hr.1).2 k _ hx
        obtain ⟨s1, s2⟩ := HSTR.out _ (List.mem_of_getElem? hx)
        have HX : Hid (ws[k]? = some (kk, dd, vv)) := hx
        clear hx
        dsimp only at c0 c1 c2 s1 s2
        have hB1 : Below w.heap.size w (wr.alloc (.cells #[.string kk, .bool dd, .string vv] 73)) := hbe.alloc hbe.size _
        by_cases he : errW kk dd vv = 0
        · have HD : Hid (errL (ws.drop k) = errL (ws.drop (k + 1))) := errL_ok HX.out he
          have g0 : (errW kk dd vv != 0) = false := by simp [he]
          clear he
          go_wp2_with fail
          refine (checkWrite_any kk dd vv _ s1 s2).mono ?_
          rintro e w1 ⟨rfl, hb1⟩
          go_wp2
          go_roundw
          case rel => exact ⟨k + 1, by omega, by go_num, by rw [← HD.out, HEL.out], hB1.trans (hb1.mono hB1.size)⟩
          case measure => simp [intOf]; omega
        · have HD : Hid (errL (ws.drop k) = errW kk dd vv) := errL_no HX.out he
          have g0 : (errW kk dd vv != 0) = true := by simp [he]
          clear he
          go_wp2_with fail
          refine (checkWrite_any kk dd vv _ s1 s2).mono ?_
          rintro e w1 ⟨rfl, hb1⟩
          go_wp2
          go_ret
          exact ⟨ret_int (by rw [← HEL.out, HD.out]), hB1.trans (hb1.mono hB1.size)⟩
      · go_wp2
        go_ret
        refine ⟨ret_int ?_, hbe⟩
        rw [← HEL.out, List.drop_of_length_le (by omega)]
        rfl

end Bat
end Go.Proofs.Ytcioaoanhmpdkaa
