import Derived.Test.YtkknpcpioodhaaaGreatDoorProg
import Derived.Test.YtkknpcpioodhaaaGreatDoorChk
import Derived.WalkKit
import Derived.WalkSpells
import Derived.WalkLawsBesides
import Derived.Deep.QuietTactic
import Derived.BigQuiet
namespace Go.Proofs.YtkknpcpioodhaaaGreatDoor
namespace Same
open Go.RowKit KMath Cmp Ent Chk
set_option linter.unusedVariables false

set_option maxHeartbeats 1000000 in
theorem sameWrites_any (a b : Option Addr) (ca cb : Nat) (ws : List Wr) (w : World) (ha : IsWr w a ws) (hb : IsWr w b ws) :
    Calls Tryz.prog 5 #[.slice a ws.length ca, .slice b ws.length cb] w fun e w' => e = .returned (.bool true) ∧ ∃ n, w' = w.drewN n := by
  obtain ⟨hrowa, hlen, _⟩ := ha
  obtain ⟨hrowb, _, _⟩ := hb
  unfold maxLen at hlen
  have HA : Hid (ws ≠ [] → ∃ b off, a = some ⟨b, off, none⟩ ∧ WrRow w b off ws) := hrowa
  have HB : Hid (ws ≠ [] → ∃ b' off, b = some ⟨b', off, none⟩ ∧ WrRow w b' off ws) := hrowb
  clear hrowa hrowb
  go_enter Tryz.func5, Tryz.ntmps5
  go_wp2
  go_loopw [5] (fun i wr => ∃ k n : Nat, k ≤ ws.length ∧ i = .int .i64 k ∧ wr = w.drewN n) (fun i _ => ws.length - (intOf i).toNat)
  case atStart => exact ⟨0, 0, Nat.zero_le _, rfl, rfl⟩
  case round =>
    obtain ⟨k, n, hk, rfl, rfl⟩ := hrel
    by_cases hlt : k < ws.length
    · have hne : ws ≠ [] := by intro e; rw [e] at hlt; simp at hlt
      obtain ⟨b1, o1, rfl, hr1⟩ := HA.out hne
      obtain ⟨b2, o2, rfl, hr2⟩ := HB.out hne
      obtain ⟨kk, dd, vv, hx⟩ : ∃ kk dd vv, ws[k]? = some (kk, dd, vv) := ⟨_, _, _, List.getElem?_eq_getElem hlt⟩
      obtain ⟨c0, c1, c2⟩ := hr1.2 k _ hx
      obtain ⟨e0, e1, e2⟩ := hr2.2 k _ hx
      dsimp only at c0 c1 c2 e0 e1 e2
      have q1 : (k : Int) < (ws.length : Int) := by omega
      clear hx hne
      go_wp2
      go_quiet (fail)
      go_wp2
      go_roundw
      case rel => exact ⟨k + 1, _, by omega, by go_num, rfl⟩
      case measure => simp [intOf]; omega
    · go_wp2
      go_ret
      exact ⟨rfl, _, rfl⟩

end Same
end Go.Proofs.YtkknpcpioodhaaaGreatDoor
