import Derived.Test.YtpefacgdkgediaaDoorProg
import Derived.Test.YtpefacgdkgediaaDoorForL
import Derived.WalkKit
import Derived.WalkSpells
import Derived.WalkLawsBesides
import Derived.Deep.RegionHeld3
namespace Go.Proofs.YtpefacgdkgediaaDoor
namespace CodecForm
open Go.RowKit CMath Byt Cod
set_option linter.unusedVariables false
set_option maxRecDepth 20000

set_option maxHeartbeats 2000000 in
theorem walk_X (a : Option Addr) (cap : Nat) (l : List Nat) (most : Int) (w : World) (hx : IsB w a l) (nx : a = none → cap = 0) (cx : l.length ≤ cap) (mx : cap ≤ 9223372036854775807) (ht : Tab w) (hm : -9223372036854775808 ≤ most ∧ most ≤ 9223372036854775807) (hlen : l.length + 4096 ≤ 140737488355328) (f0 : Nat) (hr : rd l 0 0 = (0, 0, f0)) (hf0 : f0 ≠ 0) (s : List Nat) (k2 f2 : Nat) (hr2 : text l most = (s, k2, f2)) (hf2 : f2 ≠ 0) (f3 : Nat) (hr3 : unframe l = ([], 0, f3)) (hf3 : f3 ≠ 0) :
    Calls Tryd.prog 6 #[.slice a l.length cap, .int .i64 most] w fun e w' => e = .returned (.bool true) ∧ Below w.heap.size w w' := by
  have g0 : ((f0 : Int) == 0) = false := beq_eq_false_iff_ne.2 (by omega)
  have g2 : ((f2 : Int) == 0) = false := beq_eq_false_iff_ne.2 (by omega)
  have g3 : ((f3 : Int) != 0) = true := by simp; omega
  have HR : Hid (_ = _) := hr
  have HR2 : Hid (_ = _) := hr2
  have HR3 : Hid (_ = _) := hr3
  have HX : Hid (IsB w a l) := hx
  have NX : Hid (a = none → cap = 0) := nx
  have HT : Hid (Tab w) := ht
  have HB : Hid (Below w.heap.size w w) := Below.refl _ _
  have HU : Hid (∀ w', Below w.heap.size w w' → Calls Tryd.prog 19 #[.slice a l.length cap] w' fun e w'' => e = .returned (.tuple #[.int .u64 0, .int .i64 0, .int .i64 f0]) ∧ w'' = w') := fun w' hb => by
    have h := uint_any a cap _ l w' (hx.below hb) cx mx rfl
    rw [hr] at h
    exact h
  have HTX : Hid (∀ w', Below w.heap.size w w' → Calls Tryd.prog 21 #[.slice a l.length cap, .int .i64 most] w' fun e w'' => e = .returned (.tuple #[.string (ofB s), .int .i64 k2, .int .i64 f2]) ∧ w'' = w') := fun w' hb => by
    have h := text_any a cap _ l most w' (hx.below hb) cx mx hm rfl
    unfold txt at h
    rw [hr2] at h
    exact h
  have HUN : Hid (∀ w', Below w.heap.size w w' → Calls Tryd.prog 22 #[.slice a l.length cap] w' fun e w'' => ∃ a' c', e = .returned (.tuple #[.slice a' 0 c', .int .i64 0, .int .i64 f3]) ∧ New 5 w'.heap.size w'' a' c' ([] : List Nat) ∧ Below w'.heap.size w' w'') := fun w' hb => by
    have h := unframe_any a cap _ l w' (hx.below hb) (ht.below hb ht.lt) cx mx rfl
    unfold unfV at h
    rw [hr3] at h
    exact h
  clear hx nx ht hr hr2 hr3
  go_enter Tryd.func6, Tryd.ntmps6
  go_wp2_with fail
  refine (known_any w HT.out).mono ?_
  rintro e w1 ⟨rfl, hb⟩
  have HB' : Hid (Below w.heap.size w w1) := HB.out.trans (hb.mono HB.out.size)
  clear HB
  have HB := HB'
  clear HB'
  clear hb
  go_wp2_with fail
  refine (HU.out _ HB.out).mono ?_
  rintro e w' ⟨rfl, hw⟩
  have hw2 := hw.symm
  clear hw
  subst hw2
  go_wp2_with fail
  refine (HTX.out _ HB.out).mono ?_
  rintro e w' ⟨rfl, hw⟩
  have hw2 := hw.symm
  clear hw
  subst hw2
  go_wp2_with fail
  refine (HUN.out _ HB.out).mono ?_
  rintro e w6 ⟨a6, c6, rfl, _, hb⟩
  have HB6 : Hid (Below w.heap.size w w6) := HB.out.trans (hb.mono HB.out.size)
  clear hb
  go_wp2_with fail
  go_ret
  exact ⟨by simp, HB6.out⟩

end CodecForm
end Go.Proofs.YtpefacgdkgediaaDoor
