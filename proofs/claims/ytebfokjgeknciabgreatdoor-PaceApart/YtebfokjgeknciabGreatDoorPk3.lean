import Derived.Test.YtebfokjgeknciabGreatDoorLp5
namespace Go.Proofs.YtebfokjgeknciabGreatDoor
namespace Lin
open Go.RowKit Go.Shelf Laws Irw
set_option linter.unusedVariables false
set_option maxRecDepth 100000

set_option maxHeartbeats 1000000 in
theorem sameInts_true (a b : Option Addr) (ca cb n : Nat) (l : List Int) (w : World) (ha : IsI w a l) (hb : IsI w b l) (hn : l.length = n) (hl : n ≤ 1000000000000) :
    Calls Tryz.prog 10 #[.slice a n ca, .slice b n cb] w fun e w' => e = .returned (.bool true) ∧ ∃ n, w' = w.drewN n := by
  have HA : Hid (IsI w a l) := ha
  have HB : Hid (IsI w b l) := hb
  have HNN : Hid (l.length = n) := hn
  clear ha hb hn
  go_enter Tryz.func10, Tryz.ntmps10
  go_wp2
  go_loopw [5] (fun i wr => ∃ k m : Nat, k ≤ n ∧ i = .int .i64 k ∧ wr = w.drewN m) (fun i _ => n - (intOf i).toNat)
  case atStart => exact ⟨0, 0, Nat.zero_le _, rfl, rfl⟩
  case round =>
    obtain ⟨k, m, hk, rfl, rfl⟩ := hrel
    by_cases hlt : k < n
    · have hlt' : k < l.length := by rw [HNN.out]; exact hlt
      have hne : l ≠ [] := by intro e; rw [e] at hlt'; simp at hlt'
      obtain ⟨b1, o1, rfl, hr1⟩ := HA.out hne
      obtain ⟨b2, o2, rfl, hr2⟩ := HB.out hne
      have c0 := hr1.cell hlt'
      have e0 := hr2.cell hlt'
      have q1 : (k : Int) < (n : Int) := by omega
      generalize l.getD k 0 = y at *
      clear hne hlt' hr1 hr2
      go_wp2
      go_quiet (fail)
      go_wp2
      go_roundw
      case rel => exact ⟨k + 1, _, by omega, by go_num, rfl⟩
      case measure => simp [intOf]; omega
    · go_wp2
      go_ret
      exact ⟨rfl, _, rfl⟩

end Lin
end Go.Proofs.YtebfokjgeknciabGreatDoor
