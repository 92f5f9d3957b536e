import Derived.Test.YtcmbogogakdeoaaDoorGr1
import Derived.Test.YtcmbogogakdeoaaDoorByt
import Derived.Deep.QuietTactic
import Derived.BigQuiet
namespace Go.Proofs.YtcmbogogakdeoaaDoor
namespace Grp
open Go.RowKit Laws Irw Crw Lg
set_option linter.unusedVariables false
set_option maxRecDepth 20000
set_option linter.unusedSimpArgs false

set_option maxHeartbeats 1000000 in
theorem sameGroups_any (a b : Option Addr) (ca cb n m : Nat) (gs : List (List Chk.Wr)) (w : World) (ha : IsG w a gs) (hb : IsG w b gs) (hn : n = gs.length) (hm : m = gs.length) (h40 : gs.length ≤ 1000000000000) :
    Calls Tryd.prog 15 #[.slice a n ca, .slice b m cb] w fun e w' => e = .returned (.bool true) ∧ ∃ k, w' = w.drewN k := by
  obtain rfl : m = n := by omega
  have HA : Hid (IsG w a gs) := ha
  have HB : Hid (IsG w b gs) := hb
  have HN : Hid (m = gs.length) := hm
  have hm40 : m ≤ 1000000000000 := by omega
  clear ha hb hn hm h40
  go_enter Tryd.func15, Tryd.ntmps15
  go_wp2
  go_loopw [5] (fun i wr => ∃ k n : Nat, k ≤ m ∧ i = .int .i64 k ∧ wr = w.drewN n) (fun i _ => m - (intOf i).toNat)
  case atStart => exact ⟨0, 0, Nat.zero_le _, rfl, rfl⟩
  case round =>
    obtain ⟨k, d, hk, rfl, rfl⟩ := hrel
    by_cases hlt : k < m
    · have hkl : k < gs.length := by rw [← HN.out]; exact hlt
      obtain ⟨b1, o1, ad1, c1, rfl, hs1, x1, hw1⟩ := HA.out.rd hkl
      obtain ⟨b2, o2, ad2, c2, rfl, hs2, x2, hw2⟩ := HB.out.rd hkl
      have q1 : (k : Int) < (m : Int) := by omega
      have HW1 : Hid (Chk.IsWr w ad1 (gs.getD k [])) := hw1
      have HW2 : Hid (Chk.IsWr w ad2 (gs.getD k [])) := hw2
      have hwl := hw1.2.1
      unfold maxLen at hwl
      clear hw1 hw2 hkl
      generalize gs.getD k [] = ws at *
      go_wp2
      go_quiet (fail)
      go_wp2
      go_loopw [6] (fun i wr => ∃ j n : Nat, j ≤ ws.length ∧ i = .int .i64 j ∧ wr = w.drewN n) (fun i _ => ws.length - (intOf i).toNat)
      case atStart => exact ⟨0, d + nq, Nat.zero_le _, rfl, by first | rfl | (simp; done) | (rw [World.drewN_drewN])⟩
      case round =>
        obtain ⟨j, d2, hj, rfl, rfl⟩ := hrel
        by_cases hlt2 : j < ws.length
        · have hne : ws ≠ [] := by intro e; rw [e] at hlt2; simp at hlt2
          obtain ⟨g1, p1, rfl, hr1⟩ := HW1.out.1 hne
          obtain ⟨g2, p2, rfl, hr2⟩ := HW2.out.1 hne
          obtain ⟨kk, dd, vv, hx⟩ : ∃ kk dd vv, ws[j]? = some (kk, dd, vv) := ⟨_, _, _, List.getElem?_eq_getElem hlt2⟩
          obtain ⟨y0, y1, y2⟩ := hr1.2 j _ hx
          obtain ⟨z0, z1, z2⟩ := hr2.2 j _ hx
          dsimp only at y0 y1 y2 z0 z1 z2
          have q2 : (j : Int) < (ws.length : Int) := by omega
          clear hx hne hr1 hr2
          go_wp2
          go_quiet (fail)
          go_wp2
          go_roundw
          case rel => exact ⟨j + 1, _, by omega, by go_num, rfl⟩
          case measure => simp [intOf]; omega
        · go_wp2
          go_roundw
          case rel => exact ⟨k + 1, _, by omega, by go_num, rfl⟩
          case measure => simp [intOf]; omega
    · go_wp2
      go_ret
      exact ⟨rfl, _, rfl⟩

end Grp
end Go.Proofs.YtcmbogogakdeoaaDoor
