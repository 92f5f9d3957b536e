import Derived.Test.YtanpbknjnpmmnaaMs4
import Derived.Deep.QuietTactic
import Derived.BigQuiet
namespace Go.Proofs.Ytanpbknjnpmmnaa
namespace Mnf
open Go.RowKit CMath Byt Cod Crw Irw Laws
set_option linter.unusedVariables false
set_option linter.unusedSimpArgs false
set_option maxRecDepth 20000

set_option maxHeartbeats 1000000 in
theorem sameBytes_true (a b : Option Addr) (ca cb n m : Nat) (l : List Nat) (w : World) (ha : IsB w a l) (hb : IsB w b l) (hlen : l.length ≤ 9223372036854775807) (hn : n = l.length) (hm : m = l.length) :
    Calls Try.prog 20 #[.slice a n ca, .slice b m cb] w fun e w' => e = .returned (.bool true) ∧ ∃ q, w' = w.drewN q := by
  obtain rfl : m = n := by omega
  clear hm
  have HA : Hid (IsB w a l) := ha
  have HB : Hid (IsB w b l) := hb
  have HN : Hid (m = l.length) := hn
  have hmm : m ≤ 9223372036854775807 := by omega
  clear ha hb hn hlen
  go_enter Try.func20, Try.ntmps20
  go_wp2
  go_loopw [5] (fun i wr => ∃ k q : Nat, k ≤ m ∧ i = .int .i64 (k : Int) ∧ wr = w.drewN q) (fun i _ => m - (intOf i).toNat)
  case atStart => exact ⟨0, 0, Nat.zero_le _, rfl, rfl⟩
  case round =>
    obtain ⟨k, q, hk, rfl, rfl⟩ := hrel
    by_cases hlt : k < m
    · have hlt' : k < l.length := by rw [← HN.out]; exact hlt
      obtain ⟨b1, o1, rfl, r1⟩ := HA.out.1 (by rintro rfl; simp at hlt')
      obtain ⟨b2, o2, rfl, r2⟩ := HB.out.1 (by rintro rfl; simp at hlt')
      obtain ⟨x, hx⟩ : ∃ x, l[k]? = some x := ⟨_, List.getElem?_eq_getElem hlt'⟩
      have c1 := r1.2 k x hx
      have c2 := r2.2 k x hx
      have q1 : (k : Int) < (m : Int) := by omega
      clear hlt' hx r1 r2
      go_wp2
      go_quiet (fail)
      go_wp2
      go_roundw
      case rel => exact ⟨k + 1, _, by omega, by go_num, rfl⟩
      case measure => simp [intOf]; omega
    · go_wp2
      go_ret
      exact ⟨rfl, _, rfl⟩
set_option maxHeartbeats 1000000 in
theorem sameTexts_true (a b : Option Addr) (ca cb n m : Nat) (l : List ByteArray) (w : World) (ha : IsK kT w a l) (hb : IsK kT w b l) (hlen : l.length ≤ 9223372036854775807) (hn : n = l.length) (hm : m = l.length) :
    Calls Try.prog 51 #[.slice a n ca, .slice b m cb] w fun e w' => e = .returned (.bool true) ∧ Below w.heap.size w w' := by
  obtain rfl : m = n := by omega
  clear hm
  have HA : Hid (IsK kT w a l) := ha
  have HB : Hid (IsK kT w b l) := hb
  have HN : Hid (m = l.length) := hn
  have hmm : m ≤ 9223372036854775807 := by omega
  clear ha hb hn hlen
  go_enter Try.func51, Try.ntmps51
  go_wp2
  go_loopw [5] (fun i wr => ∃ k q : Nat, k ≤ m ∧ i = .int .i64 (k : Int) ∧ wr = w.drewN q) (fun i _ => m - (intOf i).toNat)
  case atStart => exact ⟨0, 0, Nat.zero_le _, rfl, rfl⟩
  case round =>
    obtain ⟨k, q, hk, rfl, rfl⟩ := hrel
    by_cases hlt : k < m
    · have hlt' : k < l.length := by rw [← HN.out]; exact hlt
      obtain ⟨b1, o1, rfl, r1⟩ := HA.out (by rintro rfl; simp at hlt')
      obtain ⟨b2, o2, rfl, r2⟩ := HB.out (by rintro rfl; simp at hlt')
      obtain ⟨x, hx⟩ : ∃ x, l[k]? = some x := ⟨_, List.getElem?_eq_getElem hlt'⟩
      have c1 := r1.2 k x hx 0 _ rfl
      have c2 := r2.2 k x hx 0 _ rfl
      have e1 : o1 + k * kT.size + 0 = o1 + k := by show o1 + k * 1 + 0 = _; omega
      have e2 : o2 + k * kT.size + 0 = o2 + k := by show o2 + k * 1 + 0 = _; omega
      rw [e1] at c1
      rw [e2] at c2
      have q1 : (k : Int) < (m : Int) := by omega
      clear hlt' hx r1 r2 e1 e2
      go_wp2
      go_quiet (fail)
      go_wp2
      go_roundw
      case rel => exact ⟨k + 1, _, by omega, by go_num, rfl⟩
      case measure => simp [intOf]; omega
    · go_wp2
      go_ret
      exact ⟨rfl, below_drewN (Below.refl _ _) _⟩
end Mnf
end Go.Proofs.Ytanpbknjnpmmnaa
