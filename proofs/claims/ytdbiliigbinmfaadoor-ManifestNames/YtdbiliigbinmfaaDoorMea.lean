import Derived.Test.YtdbiliigbinmfaaDoorProg
import Derived.Test.YtdbiliigbinmfaaDoorUin
import Derived.Laws.IdiomStrings
import Derived.WalkKit
import Derived.WalkSpells
import Derived.WalkLawsBesides
namespace Go.Proofs.YtdbiliigbinmfaaDoor
namespace Cod
open Go.RowKit CMath Byt
set_option linter.unusedVariables false
set_option maxRecDepth 20000

/-- What a length measures: the error. -/
def meaErr (l : List Nat) (most : Int) (tail : Nat) : Nat :=
  if (rd l 0 0).2.2 ≠ 0 then (rd l 0 0).2.2
  else if most < ((rd l 0 0).1 : Int) then 22
  else if l.length < (rd l 0 0).2.1 + (rd l 0 0).1 + tail then 20
  else 0

theorem rd_err0 (l : List Nat) {n k f : Nat} (hr : rd l 0 0 = (n, k, f)) (hf : f ≠ 0) : n = 0 ∧ k = 0 ∧ (f = 20 ∨ f = 21) := by
  rcases rd_err l 0 0 with h | h | h
  · rw [hr] at h; exact absurd h hf
  · rw [hr] at h; simp at h; omega
  · rw [hr] at h; simp at h; omega

set_option maxHeartbeats 1000000 in
theorem measured_err (a : Option Addr) (cap n' : Nat) (l : List Nat) (most : Int) (tail : Nat) (w : World) (ha : IsB w a l) (hcap : l.length ≤ cap) (hlen : cap ≤ 9223372036854775807) (hm : -9223372036854775808 ≤ most ∧ most ≤ 9223372036854775807) (ht : tail ≤ 1000) (hn : n' = l.length) (he : meaErr l most tail ≠ 0) :
    Calls Tryd.prog 55 #[.slice a n' cap, .int .i64 most, .int .i64 tail] w fun e w' => e = .returned (.tuple #[.slice none 0 0, .int .i64 0, .int .i64 (meaErr l most tail)]) ∧ w' = w := by
  subst hn
  have c1 := uint_any a cap l.length l w ha hcap hlen rfl
  have hby := ha.2
  obtain ⟨n, k, f, hr⟩ : ∃ n k f, rd l 0 0 = (n, k, f) := ⟨_, _, _, rfl⟩
  unfold meaErr at he ⊢
  rw [hr] at c1 he ⊢
  simp only [] at c1 he ⊢
  have C1 : Hid (Calls Tryd.prog 75 #[.slice a l.length cap] w fun e w' => e = .returned (.tuple #[.int .u64 n, .int .i64 k, .int .i64 f]) ∧ w' = w) := c1
  clear c1 ha
  by_cases hf : f = 0
  · subst hf
    obtain ⟨h1, h2, h3⟩ := rd_bytes hby hr
    have h4 := (rd_ok0 hby hr).1
    clear hby hr
    rw [if_neg (by simp)] at he ⊢
    by_cases hmo : most < (n : Int)
    · rw [if_pos hmo]
      clear he
      by_cases hm0 : most < 0
      · go_enter Tryd.func55, Tryd.ntmps55
        go_wp2_with (go_at_call 75; refine C1.out.mono ?_; rintro e w' ⟨rfl, hw⟩; have hw2 := hw.symm; clear hw; subst hw2)
        go_ret3
        exact ⟨rfl, rfl⟩
      · go_enter Tryd.func55, Tryd.ntmps55
        go_wp2_with (go_at_call 75; refine C1.out.mono ?_; rintro e w' ⟨rfl, hw⟩; have hw2 := hw.symm; clear hw; subst hw2)
        go_ret3
        exact ⟨rfl, rfl⟩
    · rw [if_neg hmo] at he ⊢
      by_cases hsh : l.length < k + n + tail
      · rw [if_pos hsh]
        clear he
        go_enter Tryd.func55, Tryd.ntmps55
        go_wp2_with (go_at_call 75; refine C1.out.mono ?_; rintro e w' ⟨rfl, hw⟩; have hw2 := hw.symm; clear hw; subst hw2)
        go_ret3
        exact ⟨rfl, rfl⟩
      · rw [if_neg hsh] at he
        exact absurd rfl he
  · obtain ⟨rfl, rfl, hf2⟩ := rd_err0 l hr hf
    rw [if_pos (by simpa using hf)]
    have g : ((f : Int) != 0) = true := by simp; omega
    clear he hr hby hf2
    go_enter Tryd.func55, Tryd.ntmps55
    go_wp2_with (go_at_call 75; refine C1.out.mono ?_; rintro e w' ⟨rfl, hw⟩; have hw2 := hw.symm; clear hw; subst hw2)
    go_ret3
    exact ⟨rfl, rfl⟩

set_option maxHeartbeats 1000000 in
theorem measured_ok (a : Option Addr) (cap n' : Nat) (l : List Nat) (most : Int) (tail : Nat) (w : World) (ha : IsB w a l) (hcap : l.length ≤ cap) (hlen : cap ≤ 9223372036854775807) (hm : -9223372036854775808 ≤ most ∧ most ≤ 9223372036854775807) (ht : tail ≤ 1000) (hn : n' = l.length) (he : meaErr l most tail = 0) :
    Calls Tryd.prog 55 #[.slice a n' cap, .int .i64 most, .int .i64 tail] w fun e w' => (∃ a', e = .returned (.tuple #[.slice (some a') (rd l 0 0).1 (rd l 0 0).1, .int .i64 (rd l 0 0).2.1, .int .i64 0]) ∧ IsB w (some a') ((l.drop (rd l 0 0).2.1).take (rd l 0 0).1)) ∧ w' = w := by
  subst hn
  have c1 := uint_any a cap l.length l w ha hcap hlen rfl
  have hby := ha.2
  obtain ⟨n, k, f, hr⟩ : ∃ n k f, rd l 0 0 = (n, k, f) := ⟨_, _, _, rfl⟩
  unfold meaErr at he
  rw [hr] at c1 he ⊢
  simp only [] at c1 he ⊢
  have C1 : Hid (Calls Tryd.prog 75 #[.slice a l.length cap] w fun e w' => e = .returned (.tuple #[.int .u64 n, .int .i64 k, .int .i64 f]) ∧ w' = w) := c1
  clear c1
  have hf : f = 0 := by
    by_cases hf : f = 0
    · exact hf
    · rw [if_pos (by simpa using hf)] at he; exact he
  subst hf
  rw [if_neg (by simp)] at he
  obtain ⟨h1, h2, h3⟩ := rd_bytes hby hr
  have h4 := (rd_ok0 hby hr).1
  have hmo : ¬ most < (n : Int) := by intro h; rw [if_pos h] at he; omega
  rw [if_neg hmo] at he
  have hsh : ¬ l.length < k + n + tail := by intro h; rw [if_pos h] at he; omega
  clear he hr
  obtain ⟨b, off, rfl, hrow⟩ := ha.1 (by intro e; subst e; simp at h2; omega)
  have HROW : Hid (BRow w b off l) := hrow
  have HBY : Hid (∀ x ∈ l, x < 256) := hby
  clear hrow hby ha
  go_enter Tryd.func55, Tryd.ntmps55
  go_wp2_with (go_at_call 75; refine C1.out.mono ?_; rintro e w' ⟨rfl, hw⟩; have hw2 := hw.symm; clear hw; subst hw2)
  · obtain rfl : n = 0 := by omega
    go_ret3
    refine ⟨⟨⟨b, off, none⟩, rfl, ?_⟩, rfl⟩
    rw [List.take_zero]
    exact IsB.nil _ _
  · go_ret3
    exact ⟨⟨⟨b, off + k, none⟩, rfl, IsB.some ((HROW.out.drop k).take n) (mem_take (mem_drop HBY.out))⟩, rfl⟩

theorem conv_back (w : World) (a : Addr) (cap n : Nat) (l : List Nat) (h : IsB w (some a) l) (hn : n = l.length) : (convert 23 9 (.slice (some a) n cap)).run Tryd.prog w = .ok (.string (ofB l)) w := by
  subst hn
  have e : l.length = (l.map UInt8.ofNat).length := by simp
  rw [e]
  refine run_convert_bytes_back (P := Tryd.prog) w 23 9 5 a cap (l.map UInt8.ofNat) Tryd.underlying23 Tryd.underlying5 Tryd.underlying9 (fun j hj => ?_)
  have hj' : j < l.length := by simpa using hj
  obtain ⟨b, off, e1, hr⟩ := h.1 (by intro e; rw [e] at hj'; simp at hj')
  cases e1
  rw [add_plain', hr.2 j _ (List.getElem?_eq_getElem hj')]
  have := h.2 _ (List.getElem_mem hj')
  simp
  omega


end Cod
end Go.Proofs.YtdbiliigbinmfaaDoor
