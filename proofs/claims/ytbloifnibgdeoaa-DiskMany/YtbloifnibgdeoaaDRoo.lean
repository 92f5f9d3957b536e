import Derived.Test.YtbloifnibgdeoaaProg
import Derived.Test.YtbloifnibgdeoaaDLay
import Derived.WalkKit
import Derived.WalkSpells
import Derived.WalkLawsBesides
import Derived.Deep.QuietTactic
import Derived.BigQuiet
namespace Go.Proofs.Ytbloifnibgdeoaa
namespace Dsk
open Go.RowKit Go.Maps Go.Sort Byt Laws
set_option linter.unusedVariables false
set_option maxRecDepth 100000

/-- Place 5 of P3.2, for an Append. -/
def roomR (room used len more : Nat) : Bool := (decide (room = 0) || decide (used + more ≤ room)) && decide (len + more ≤ 2147483648)

set_option maxHeartbeats 1000000 in
theorem hasRoom_any (d b : Nat) (t : Top) (a : Option Addr) (c : Nat) (f : Fl) (n : Nat) (w : World) (h : IsTop w d t) (hf : Fld 2 w b (fcell a c f)) (hu : t.used + n ≤ 9223372036854775807) (hl : f.data.length + n ≤ 9223372036854775807) (hr : t.room ≤ 9223372036854775807) :
    Calls Try.prog 69 #[.pointer (some ⟨d, 0, none⟩), .pointer (some ⟨b, 0, none⟩), .int .i64 n] w fun e w' => e = .returned (.bool (roomR t.room t.used f.data.length n)) ∧ ∃ k, w' = w.drewN k := by
  have c4 := (h.1.2 4 (by omega)).1
  have c5 := (h.1.2 5 (by omega)).1
  have cf := (hf.2 0 (by omega)).1
  simp only [Top.cell, fcell, if_true] at c4 c5 cf
  clear h hf
  generalize t.room = room at *
  generalize t.used = used at *
  generalize hlen : f.data.length = len at *
  clear hlen
  by_cases h1 : room = 0
  · subst h1
    by_cases h3 : len + n ≤ 2147483648
    · have h3' : (len : Int) + (n : Int) ≤ 2147483648 := by omega
      have HE : Hid (roomR 0 used len n = true) := by show _ = _; simp [roomR, h3]
      go_enter Try.func69, Try.ntmps69
      go_wp2
      go_quiet (fail)
      go_wp2
      go_ret
      exact ⟨by rw [HE.out]; rfl, _, rfl⟩
    · have h3' : ¬ (len : Int) + (n : Int) ≤ 2147483648 := by omega
      have HE : Hid (roomR 0 used len n = false) := by show _ = _; simp [roomR, h3]
      go_enter Try.func69, Try.ntmps69
      go_wp2
      go_quiet (fail)
      go_wp2
      go_ret
      refine ⟨?_, _, rfl⟩; rw [HE.out]; show Ending.returned (Value.bool (decide ((len : Int) + (n : Int) ≤ 2147483648))) = _; rw [decide_eq_false (by omega)]
  · have h1' : ((room : Int) == 0) = false := by simp; omega
    by_cases h2 : used + n ≤ room
    · have h2' : (used : Int) + (n : Int) ≤ room := by omega
      by_cases h3 : len + n ≤ 2147483648
      · have h3' : (len : Int) + (n : Int) ≤ 2147483648 := by omega
        have HE : Hid (roomR room used len n = true) := by show _ = _; simp [roomR, h1, h2, h3]
        go_enter Try.func69, Try.ntmps69
        go_wp2
        go_quiet (fail)
        go_wp2
        go_ret
        exact ⟨by rw [HE.out]; rfl, _, rfl⟩
      · have h3' : ¬ (len : Int) + (n : Int) ≤ 2147483648 := by omega
        have HE : Hid (roomR room used len n = false) := by show _ = _; simp [roomR, h3]
        go_enter Try.func69, Try.ntmps69
        go_wp2
        go_quiet (fail)
        go_wp2
        go_ret
        refine ⟨?_, _, rfl⟩; rw [HE.out]; show Ending.returned (Value.bool (decide ((len : Int) + (n : Int) ≤ 2147483648))) = _; rw [decide_eq_false (by omega)]
    · have h2' : ¬ (used : Int) + (n : Int) ≤ room := by omega
      have HE : Hid (roomR room used len n = false) := by show _ = _; simp [roomR, h1, h2]
      go_enter Try.func69, Try.ntmps69
      go_wp2
      have hd2 : decide ((used : Int) + (n : Int) ≤ (room : Int)) = false := decide_eq_false (by omega)
      go_quiet (fail)
      go_wp2
      go_ret
      exact ⟨by rw [HE.out]; rfl, _, rfl⟩
end Dsk
end Go.Proofs.Ytbloifnibgdeoaa
