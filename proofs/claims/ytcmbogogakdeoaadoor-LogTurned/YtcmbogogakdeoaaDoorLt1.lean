import Derived.Test.YtcmbogogakdeoaaDoorKw1
import Derived.Test.YtcmbogogakdeoaaDoorLgY
import Derived.BigQuiet
namespace Go.Proofs.YtcmbogogakdeoaaDoor
namespace Lgu
open Go.RowKit CMath Byt Cod Lg Laws
set_option linter.unusedVariables false
set_option linter.unusedSimpArgs false
set_option maxRecDepth 20000
/-- what 'piece' answers -/
def pcE (l : List Nat) (n : Nat) : Nat := if 512 - n % 512 < 8 then n - n % 512 + 512 else n + 7 + hl (l.drop n)
def pcI (n : Nat) : Bool := decide (8 ≤ 512 - n % 512)
theorem hl_at (l : List Nat) (n : Nat) : hl (l.drop n) = l.getD (n + 4) 0 + 256 * l.getD (n + 5) 0 := by simp [hl, List.getD]
set_option maxHeartbeats 1000000 in
theorem piece_any (a : Option Addr) (cap L n : Nat) (l : List Nat) (w : World) (h : IsB w a l) (hL : L = l.length) (hm : L ≤ 1000000000) (hn : n ≤ L) (h7 : 8 ≤ 512 - n % 512 → n + 7 ≤ L) :
    Calls Tryd.prog 10 #[.slice a L cap, .int .i64 (n : Int)] w fun e w' => e = .returned (.tuple #[.int .i64 ((pcE l n : Nat) : Int), .bool (pcI n)]) ∧ ∃ k, w' = w.drewN k := by
  by_cases h8 : 512 - n % 512 < 8
  · have e1 : ((pcE l n : Nat) : Int) = (n : Int) - (n : Int) % 512 + 512 := by unfold pcE; rw [if_pos h8]; omega
    have e2 : pcI n = false := by unfold pcI; rw [decide_eq_false (by omega)]
    rw [e1, e2]
    have q1 : (512 : Int) - (n : Int) % 512 < 8 := by omega
    clear h h7 e1 e2
    go_enter Tryd.func10, Tryd.ntmps10
    go_wp2
    go_ret2
    exact ⟨rfl, 0, rfl⟩
  · have hn7 := h7 (by omega)
    obtain ⟨b, off, rfl, hr⟩ := h.1 (by intro z; rw [z] at hL; simp at hL; omega)
    obtain ⟨x4, h4⟩ : ∃ x, l[n + 4]? = some x := ⟨_, List.getElem?_eq_getElem (by omega)⟩
    obtain ⟨x5, h5⟩ : ∃ x, l[n + 5]? = some x := ⟨_, List.getElem?_eq_getElem (by omega)⟩
    have c4 := hr.2 _ _ h4
    have c5 := hr.2 _ _ h5
    have b4 : x4 < 256 := h.2 _ (List.mem_of_getElem? h4)
    have b5 : x5 < 256 := h.2 _ (List.mem_of_getElem? h5)
    have e1 : ((pcE l n : Nat) : Int) = (n : Int) + 7 + (x4 : Int) + 256 * (x5 : Int) := by unfold pcE; rw [if_neg h8, hl_at]; simp [List.getD, h4, h5]; omega
    have e2 : pcI n = true := by unfold pcI; rw [decide_eq_true (by omega)]
    rw [e1, e2]
    have q1 : ¬ (512 : Int) - (n : Int) % 512 < 8 := by omega
    have q2 : (n : Int) + 4 < (L : Int) := by omega
    have q3 : (n : Int) + 5 < (L : Int) := by omega
    have q4 : ¬ (L : Int) < (n : Int) + 7 := by omega
    clear h hL hr h4 h5 h7 e1 e2
    go_enter Tryd.func10, Tryd.ntmps10
    go_upto_region 5 with (fail)
    go_quiet (fail)
    go_wp2
    go_ret2
    exact ⟨rfl, _, rfl⟩
end Lgu
end Go.Proofs.YtcmbogogakdeoaaDoor
