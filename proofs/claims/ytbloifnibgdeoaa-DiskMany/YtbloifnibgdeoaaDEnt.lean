import Derived.Test.YtbloifnibgdeoaaProg
import Derived.Test.YtbloifnibgdeoaaDInv
import Derived.WalkKit
import Derived.WalkSpells
import Derived.WalkLawsBesides
namespace Go.Proofs.Ytbloifnibgdeoaa
namespace Dsk
open Go.RowKit Go.Maps Go.Sort Byt Laws
set_option linter.unusedVariables false

/-- Places 1 to 3 of P3.2. -/
def enterR (down : Bool) (r : Rig) (ok : Bool) : Int × Rig := if down then (30, r) else if ok then (if r.fails.1 then 31 else 0, r.fails.2) else (33, r)

set_option maxHeartbeats 1000000 in
theorem enter_any (d : Nat) (t : Top) (a : Option Addr) (n c : Nat) (ss : List ByteArray) (w : World) (h : IsTop w d t)
    (hs : ∀ i s, ss[i]? = some s → ∃ nb, a = some ⟨nb, 0, none⟩ ∧ w.cell? ⟨nb, i, none⟩ = some (.string s)) (hn : n = ss.length) (hc : n ≤ c) (hc2 : c ≤ 9223372036854775807) (hl : ∀ s ∈ ss, s.size ≤ 9223372036854775807) :
    Calls Try.prog 59 #[.pointer (some ⟨d, 0, none⟩), .slice a n c] w fun e w' => e = .returned (.int .i64 (enterR t.down t.rig (ss.all okN)).1) ∧ IsTop w' d { t with rig := (enterR t.down t.rig (ss.all okN)).2 } ∧ Keep [d] w w' := by
  have c8 := (h.1.2 8 (by omega)).1
  simp only [Top.cell] at c8
  have HH : Hid (IsTop w d t) := h
  have HS : Hid (∀ i s, ss[i]? = some s → ∃ nb, a = some ⟨nb, 0, none⟩ ∧ w.cell? ⟨nb, i, none⟩ = some (.string s)) := hs
  have HL : Hid (∀ s ∈ ss, s.size ≤ 9223372036854775807) := hl
  have HN : Hid (n = ss.length) := hn
  clear h hs hl hn
  by_cases hd : t.down = true
  · rw [hd] at c8
    have e : enterR t.down t.rig (ss.all okN) = (30, t.rig) := by simp [enterR, hd]
    rw [e]
    go_enter Try.func59, Try.ntmps59
    go_wp2
    go_ret
    exact ⟨rfl, HH.out, Keep.refl _ _⟩
  · have hd' : t.down = false := by simpa using hd
    rw [hd'] at c8
    go_enter Try.func59, Try.ntmps59
    go_wp2
    go_loop [6, 13, 14, 15, 16, 17, 18, 19, 20] (fun _ i _ _ _ _ _ _ _ => ∃ k : Nat, i = .int .i64 k ∧ k ≤ n ∧ (ss.take k).all okN = true) (fun _ i _ _ _ _ _ _ _ => n - (intOf i).toNat)
    case atStart => exact ⟨0, rfl, Nat.zero_le _, by simp⟩
    case round =>
      obtain ⟨k, rfl, hk, hp⟩ := hrel
      by_cases hlt : k < n
      · have hlt' : (k : Int) < (n : Int) := by omega
        have hks : k < ss.length := by have := HN.out; omega
        obtain ⟨nb, rfl, hcell⟩ := HS.out k ss[k] (List.getElem?_eq_getElem hks)
        have hsz := HL.out ss[k] (List.getElem_mem hks)
        by_cases ho : okN ss[k] = true
        · go_wp2_with (first | (go_at_call 72; refine (mayBe_any _ _ hsz).mono ?_; rintro e w' ⟨rfl, rfl⟩; rw [ho]))
          go_round
          case rel => exact ⟨k + 1, by go_num, by omega, by rw [List.take_add_one, List.getElem?_eq_getElem hks]; simp only [Option.toList_some, List.all_append, hp, List.all_cons, List.all_nil, ho]; rfl⟩
          case measure => simp [intOf]; omega
        · have ho' : okN ss[k] = false := by simpa using ho
          go_wp2_with (first | (go_at_call 72; refine (mayBe_any _ _ hsz).mono ?_; rintro e w' ⟨rfl, rfl⟩; rw [ho']))
          go_ret
          have e : enterR t.down t.rig (ss.all okN) = (33, t.rig) := by
            have : ss.all okN = false := by
              rw [Bool.eq_false_iff]; intro ha
              have := List.all_eq_true.1 ha _ (List.getElem_mem hks)
              rw [ho'] at this; cases this
            simp [enterR, hd', this]
          rw [e]
          exact ⟨rfl, HH.out, Keep.refl _ _⟩
      · have hk' : k = n := by omega
        subst hk'
        have hall : ss.all okN = true := by rw [HN.out, List.take_length] at hp; exact hp
        have HE : Hid (enterR t.down t.rig (ss.all okN) = (if t.rig.fails.1 then 31 else 0, t.rig.fails.2)) := by show _ = _; simp [enterR, hd', hall]
        cases hf : t.rig.fails.1
        · go_wp2_with (first | (go_at_call 81; refine (fails_any d t _ HH.out).mono ?_; rintro e w' ⟨rfl, h1, h2⟩; rw [hf]))
          go_ret
          rw [HE.out, hf]
          exact ⟨rfl, h1, h2⟩
        · go_wp2_with (first | (go_at_call 81; refine (fails_any d t _ HH.out).mono ?_; rintro e w' ⟨rfl, h1, h2⟩; rw [hf]))
          go_ret
          rw [HE.out, hf]
          exact ⟨rfl, h1, h2⟩
end Dsk
end Go.Proofs.Ytbloifnibgdeoaa
