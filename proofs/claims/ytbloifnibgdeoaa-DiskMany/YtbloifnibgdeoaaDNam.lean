import Derived.Test.YtbloifnibgdeoaaProg
import Derived.Test.YtbloifnibgdeoaaByt
import Derived.WalkKit
import Derived.WalkSpells
import Derived.WalkLawsBesides
import Derived.Below
namespace Go.Proofs.Ytbloifnibgdeoaa
namespace Dsk
open Go.RowKit Byt
set_option linter.unusedVariables false

/-- A byte that a name may have. -/
def okC (c : Nat) : Bool := decide (97 ≤ c ∧ c ≤ 122) || decide (48 ≤ c ∧ c ≤ 57) || decide (c = 45)
theorem okC_false {c : Nat} (h : (c < 97 ∨ 122 < c) ∧ (c < 48 ∨ 57 < c) ∧ c ≠ 45) : okC c = false := by
  simp [okC]; omega
theorem okC_true {c : Nat} (h : (97 ≤ c ∧ c ≤ 122) ∨ (48 ≤ c ∧ c ≤ 57) ∨ c = 45) : okC c = true := by
  simp [okC]; omega
/-- A name that may be. -/
def okN (s : ByteArray) : Bool := decide (1 ≤ s.size ∧ s.size ≤ 24) && (strB s).all okC

theorem strB_get {s : ByteArray} {i : Nat} (h : i < s.size) : (strB s)[i]? = some (s.get i h).toNat := by
  have h' : i < s.data.toList.length := h
  unfold strB
  rw [List.getElem?_map, List.getElem?_eq_getElem h']
  rfl

theorem okN_bad {s : ByteArray} {k : Nat} (h : k < s.size) (hc : okC (s.get k h).toNat = false) : okN s = false := by
  have hm : (s.get k h).toNat ∈ strB s := List.mem_of_getElem? (strB_get h)
  simp only [okN, Bool.and_eq_false_iff]
  right
  rw [Bool.eq_false_iff]
  intro ha
  have := List.all_eq_true.1 ha _ hm
  rw [hc] at this; cases this
theorem okN_good {s : ByteArray} (h1 : 1 ≤ s.size) (h2 : s.size ≤ 24) (h : ∀ x ∈ strB s, okC x = true) : okN s = true := by
  simp only [okN, Bool.and_eq_true, decide_eq_true_eq]
  exact ⟨⟨h1, h2⟩, List.all_eq_true.2 h⟩
theorem strB_take {s : ByteArray} {k : Nat} (h : k < s.size) {P : Nat → Prop} (hp : ∀ x ∈ (strB s).take k, P x) (hc : P (s.get k h).toNat) : ∀ x ∈ (strB s).take (k + 1), P x := by
  intro x hx
  rw [List.take_add_one, strB_get h] at hx
  simp at hx
  rcases hx with hx | rfl
  · exact hp x hx
  · exact hc

set_option maxHeartbeats 1000000 in
theorem mayBe_any (s : ByteArray) (w : World) (hs : s.size ≤ 9223372036854775807) :
    Calls Try.prog 72 #[.string s] w fun e w' => e = .returned (.bool (okN s)) ∧ w' = w := by
  by_cases h1 : s.size < 1
  · have hr : okN s = false := by simp [okN]; omega
    rw [hr]; clear hr
    go_enter Try.func72, Try.ntmps72
    go_wp2
    go_ret
    exact ⟨rfl, rfl⟩
  by_cases h2 : 24 < s.size
  · have hr : okN s = false := by simp [okN]; omega
    rw [hr]; clear hr
    go_enter Try.func72, Try.ntmps72
    go_wp2
    go_ret
    exact ⟨rfl, rfl⟩
  go_enter Try.func72, Try.ntmps72
  go_wp2
  go_loop [3, 4, 15, 16, 17, 18, 19, 20, 21, 22, 23, 24, 25, 26, 27, 28, 29, 30, 31, 32, 33, 34, 35, 36, 37, 38, 39] (fun _ _ i _ _ _ _ _ _ _ _ _ _ _ _ _ _ _ _ _ _ _ _ _ _ _ _ => ∃ k : Nat, i = .int .i64 k ∧ k ≤ s.size ∧ ∀ x ∈ (strB s).take k, okC x = true) (fun _ _ i _ _ _ _ _ _ _ _ _ _ _ _ _ _ _ _ _ _ _ _ _ _ _ _ => s.size - (intOf i).toNat)
  case atStart => exact ⟨0, rfl, Nat.zero_le _, by simp⟩
  case round =>
    obtain ⟨k, rfl, hk, hp⟩ := hrel
    by_cases hlt : k < s.size
    · have hlt' : (k : Int) < (s.size : Int) := by omega
      go_wp2
      all_goals (simp only [bne_iff_ne, ne_eq, bne_eq_false_iff_eq] at *)
      all_goals first
        | (go_ret; exact ⟨by rw [okN_bad hlt (okC_false (by show (s[k].toNat < 97 ∨ 122 < s[k].toNat) ∧ (s[k].toNat < 48 ∨ 57 < s[k].toNat) ∧ s[k].toNat ≠ 45; omega))]; rfl, rfl⟩)
        | (go_round
           case rel => exact ⟨k + 1, by go_num, hlt, strB_take hlt hp (okC_true (by show (97 ≤ s[k].toNat ∧ s[k].toNat ≤ 122) ∨ (48 ≤ s[k].toNat ∧ s[k].toNat ≤ 57) ∨ s[k].toNat = 45; omega))⟩
           case measure => simp [intOf]; omega)
        | (exfalso; omega)
    · have hk' : k = s.size := by omega
      subst hk'
      go_wp2
      go_ret
      refine ⟨?_, rfl⟩
      rw [okN_good (by omega) (by omega) (fun x hx => hp x (by rw [List.take_of_length_le (by rw [strB_length]; omega)]; exact hx))]; rfl
end Dsk
end Go.Proofs.Ytbloifnibgdeoaa
