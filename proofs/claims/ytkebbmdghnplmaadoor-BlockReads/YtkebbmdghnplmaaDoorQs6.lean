import Derived.Test.YtkebbmdghnplmaaDoorQs4
import Derived.Test.YtkebbmdghnplmaaDoorQs5
namespace Go.Proofs.YtkebbmdghnplmaaDoor
namespace Qb
open Go.RowKit CMath Byt Laws Irw Crw Cod
set_option linter.unusedVariables false
set_option linter.unusedSimpArgs false
set_option maxRecDepth 100000

set_option maxHeartbeats 1000000 in
theorem refSame_any (a b : Option Addr) (ca cb n m : Nat) (l : List Nat) (w : World) (ha : IsB w a l) (hb : IsB w b l) (hlen : l.length ≤ 9223372036854775807) (hn : n = l.length) (hm : m = l.length) :
    Calls Tryd.prog 42 #[.slice a n ca, .slice b m cb] w fun e w' => e = .returned (.bool true) ∧ ∃ n, w' = w.drewN n := by
  subst hn
  subst hm
  have HA : Hid (l ≠ [] → ∃ b off, a = some ⟨b, off, none⟩ ∧ BRow w b off l) := ha.1
  have HB : Hid (l ≠ [] → ∃ b' off, b = some ⟨b', off, none⟩ ∧ BRow w b' off l) := hb.1
  clear ha hb
  go_enter Tryd.func42, Tryd.ntmps42
  go_wp2
  go_loopw [5] (fun i wr => ∃ k n : Nat, k ≤ l.length ∧ i = .int .i64 k ∧ wr = w.drewN n) (fun i _ => l.length - (intOf i).toNat)
  case atStart => exact ⟨0, 0, Nat.zero_le _, rfl, rfl⟩
  case round =>
    obtain ⟨k, n, hk, rfl, rfl⟩ := hrel
    by_cases hlt : k < l.length
    · have hne : l ≠ [] := by intro e; rw [e] at hlt; simp at hlt
      obtain ⟨b1, o1, rfl, hr1⟩ := HA.out hne
      obtain ⟨b2, o2, rfl, hr2⟩ := HB.out hne
      obtain ⟨x, hx⟩ : ∃ x, l[k]? = some x := ⟨_, List.getElem?_eq_getElem hlt⟩
      have c0 := hr1.2 k _ hx
      have e0 := hr2.2 k _ hx
      have q1 : (k : Int) < (l.length : Int) := by omega
      clear hx hne
      go_wp2
      go_quiet (fail)
      go_wp2
      go_roundw
      case rel => exact ⟨k + 1, _, by omega, by go_num, rfl⟩
      case measure => simp [intOf]; omega
    · go_wp2
      go_ret
      exact ⟨rfl, _, rfl⟩

theorem refSame_ne (a b : Option Addr) (ca cb n m : Nat) (l l' : List Nat) (w : World) (ha : IsB w a l) (hb : IsB w b l') (hlen : l.length ≤ 9223372036854775807) (hll : l'.length = l.length) (hne0 : l ≠ l') (hn : n = l.length) (hm : m = l.length) :
    Calls Tryd.prog 42 #[.slice a n ca, .slice b m cb] w fun e w' => e = .returned (.bool false) ∧ ∃ n, w' = w.drewN n := by
  obtain rfl : m = n := by omega
  have HA : Hid (l ≠ [] → ∃ b off, a = some ⟨b, off, none⟩ ∧ BRow w b off l) := ha.1
  have HB : Hid (l' ≠ [] → ∃ b' off, b = some ⟨b', off, none⟩ ∧ BRow w b' off l') := hb.1
  have HN : Hid (m = l.length ∧ l'.length = l.length ∧ l ≠ l') := ⟨hn, hll, hne0⟩
  have hmx : (m : Int) ≤ 9223372036854775807 := by omega
  clear ha hb hn hm hll hne0 hlen
  go_enter Tryd.func42, Tryd.ntmps42
  go_wp2
  go_loopw [5] (fun i wr => ∃ k n : Nat, k ≤ m ∧ i = .int .i64 k ∧ wr = w.drewN n ∧ Hid (l.take k = l'.take k)) (fun i _ => m - (intOf i).toNat)
  case atStart => exact ⟨0, 0, Nat.zero_le _, rfl, rfl, rfl⟩
  case round =>
    obtain ⟨k, n, hk, rfl, rfl, HTK⟩ := hrel
    by_cases hlt : k < m
    · have h1 : k < l.length := by have := HN.out.1; omega
      have h2 : k < l'.length := by have := HN.out; omega
      obtain ⟨b1, o1, rfl, hr1⟩ := HA.out (by intro e; rw [e] at h1; simp at h1)
      obtain ⟨b2, o2, rfl, hr2⟩ := HB.out (by intro e; rw [e] at h2; simp at h2)
      obtain ⟨x, hx⟩ : ∃ x, l[k]? = some x := ⟨_, List.getElem?_eq_getElem h1⟩
      obtain ⟨y, hy⟩ : ∃ y, l'[k]? = some y := ⟨_, List.getElem?_eq_getElem h2⟩
      have c0 := hr1.2 k _ hx
      have e0 := hr2.2 k _ hy
      have q1 : (k : Int) < (m : Int) := by omega
      by_cases hxy : x = y
      · subst hxy
        have HT2 : Hid (l.take (k + 1) = l'.take (k + 1)) := by show _ = _; rw [List.take_add_one, List.take_add_one, hx, hy, HTK.out]
        clear hx hy h1 h2
        go_wp2
        go_quiet (fail)
        go_wp2
        go_roundw
        case rel => exact ⟨k + 1, _, by omega, by go_num, rfl, HT2.out⟩
        case measure => simp [intOf]; omega
      · have hxy1 : ¬ ((x : Int) = (y : Int)) := by omega
        have hxy2 : (((x : Int)) == ((y : Int))) = false := by simpa using hxy1
        clear hx hy h1 h2 hxy
        go_wp2
        go_quiet (fail)
        go_wp2
        go_ret
        exact ⟨rfl, _, World.drewN_drewN _ _ _⟩
    · exfalso
      have h9 := HN.out
      have hkm : k = m := by omega
      have := HTK.out
      rw [hkm, List.take_of_length_le (by omega), List.take_of_length_le (by omega)] at this
      exact h9.2.2 this
theorem refSame_dec (a b : Option Addr) (ca cb n m : Nat) (l l' : List Nat) (w : World) (ha : IsB w a l) (hb : IsB w b l') (hlen : l.length ≤ 9223372036854775807) (hlen' : l'.length ≤ 9223372036854775807) (hn : n = l.length) (hm : m = l'.length) :
    Calls Tryd.prog 42 #[.slice a n ca, .slice b m cb] w fun e w' => e = .returned (.bool (decide (l = l'))) ∧ Below w.heap.size w w' := by
  by_cases he : l = l'
  · subst he
    rw [decide_eq_true rfl]
    exact (refSame_any a b ca cb n m l w ha hb hlen hn hm).mono fun e w' ⟨h1, q, h2⟩ => ⟨h1, by rw [h2]; exact below_drewN (Below.refl _ _) _⟩
  · rw [decide_eq_false he]
    by_cases hl : l'.length = l.length
    · exact (refSame_ne a b ca cb n m l l' w ha hb hlen hl he hn (by omega)).mono fun e w' ⟨h1, q, h2⟩ => ⟨h1, by rw [h2]; exact below_drewN (Below.refl _ _) _⟩
    · have h1 : ¬ ((n : Int) = (m : Int)) := by omega
      have h2 : (((n : Int)) == ((m : Int))) = false := by simpa using h1
      have h3 : ¬ n = m := by omega
      clear ha hb hlen hlen' he hl hn hm
      go_enter Tryd.func42, Tryd.ntmps42
      go_wp2
      go_ret
      exact ⟨rfl, Below.refl _ _⟩
end Qb
end Go.Proofs.YtkebbmdghnplmaaDoor
