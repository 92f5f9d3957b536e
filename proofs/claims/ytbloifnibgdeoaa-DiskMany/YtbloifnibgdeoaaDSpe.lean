import Derived.Test.YtbloifnibgdeoaaProg
import Derived.Test.YtbloifnibgdeoaaDEnt
import Derived.WalkKit
import Derived.WalkSpells
import Derived.WalkLawsBesides
namespace Go.Proofs.Ytbloifnibgdeoaa
namespace Dsk
open Go.RowKit Go.Maps Go.Sort Byt Laws
set_option linter.unusedVariables false

/-- Place 6 of P3.2: the unit at which it falls, what is rigged then, and whether it is down. -/
def spendR (r : Rig) (down : Bool) (n : Nat) : Nat × Rig × Bool := if 0 < (r.charge n).1 then ((r.charge n).1, Rig.zero, true) else (0, (r.charge n).2, down)

set_option maxHeartbeats 1000000 in
theorem spend_any (d : Nat) (t : Top) (n : Nat) (w : World) (h : IsTop w d t) (hn : n ≤ 9223372036854775807) :
    Calls Try.prog 60 #[.pointer (some ⟨d, 0, none⟩), .int .i64 n] w fun e w' => e = .returned (.int .i64 (spendR t.rig t.down n).1) ∧ IsTop w' d { t with rig := (spendR t.rig t.down n).2.1, down := (spendR t.rig t.down n).2.2 } ∧ Keep [d] w w' := by
  have HH : Hid (IsTop w d t) := h
  clear h
  by_cases hc : 0 < (t.rig.charge n).1
  · have hc' : (0 : Int) < ((t.rig.charge n).1 : Int) := by omega
    have HE : Hid (spendR t.rig t.down n = ((t.rig.charge n).1, Rig.zero, true)) := by show _ = _; simp [spendR, hc]
    go_enter Try.func60, Try.ntmps60
    go_wp2_with fail
    refine (charge_any d t n w HH.out hn).mono ?_
    rintro e w' ⟨rfl, h1, h2⟩
    have HH1 := h1
    have HK : Hid (Keep [d] w w') := h2
    have c0 := (h1.1.2 0 (by omega)).1
    have c1 := (h1.1.2 1 (by omega)).1
    have c2 := (h1.1.2 2 (by omega)).1
    have c3 := (h1.1.2 3 (by omega)).1
    have c8 := (h1.1.2 8 (by omega)).1
    have f0 := (h1.1.2 0 (by omega)).2
    have f1 := (h1.1.2 1 (by omega)).2
    have f2 := (h1.1.2 2 (by omega)).2
    have f3 := (h1.1.2 3 (by omega)).2
    have f8 := (h1.1.2 8 (by omega)).2
    have HH' : Hid (IsTop w' d { t with rig := (t.rig.charge n).2 }) := h1
    clear h1 h2 HH1
    simp only [Top.cell] at c0 c1 c2 c3 c8
    go_wp2
    go_ret
    rw [HE.out]
    refine ⟨rfl, ⟨?_, ?_⟩, ?_⟩
    · refine (((((HH'.out.1.set 8 (by omega) _).set 0 (by omega) _).set 1 (by omega) _).set 2 (by omega) _).set 3 (by omega) _).eq (nine rfl rfl rfl rfl rfl rfl rfl rfl rfl)
    · exact ⟨Nat.zero_le _, Nat.zero_le _, Nat.zero_le _, Nat.zero_le _⟩
    · exact ((((HK.out.trans (Keep.set _ _ _ _)).trans (Keep.set _ _ _ _)).trans (Keep.set _ _ _ _)).trans (Keep.set _ _ _ _)).trans (Keep.set _ _ _ _)
  · have hc' : ¬ (0 : Int) < ((t.rig.charge n).1 : Int) := by omega
    have hz : (t.rig.charge n).1 = 0 := by omega
    have HE : Hid (spendR t.rig t.down n = (0, (t.rig.charge n).2, t.down)) := by show _ = _; simp [spendR, hc]
    go_enter Try.func60, Try.ntmps60
    go_wp2_with fail
    refine (charge_any d t n w HH.out hn).mono ?_
    rintro e w' ⟨rfl, h1, h2⟩
    rw [hz]
    go_wp2
    go_ret
    rw [HE.out]
    exact ⟨rfl, h1, h2⟩
end Dsk
end Go.Proofs.Ytbloifnibgdeoaa
