import Derived.Test.YtdflepndhemfgaaGreatDoorProg
import Derived.Test.YtdflepndhemfgaaGreatDoorCmp
import Derived.WalkKit
import Derived.WalkSpells
import Derived.WalkLawsBesides
import Derived.Deep.RegionWith
namespace Go.Proofs.YtdflepndhemfgaaGreatDoor
namespace Ent
open Go.RowKit KMath Cmp
set_option linter.unusedVariables false

theorem bcell {W w1 : World} (hb : Below W.heap.size W w1) : (∀ b o, b < W.heap.size → w1.cell? ⟨b, o, none⟩ = W.cell? ⟨b, o, none⟩) ∧ (∀ b o, b < W.heap.size → w1.frozen? ⟨b, o, none⟩ = W.frozen? ⟨b, o, none⟩) :=
  ⟨fun b o h => hb.cell (p := ⟨b, o, none⟩) h, fun b o h => hb.frozen (p := ⟨b, o, none⟩) h⟩

theorem ret_int {k : IntKind} {a b : Int} (h : a = b) : Ending.returned (.int k a) = .returned (.int k b) := by rw [h]

/-- An entry as a value. -/
abbrev entV (k : ByteArray) (s : Int) (d : Bool) (v : ByteArray) : Value := .agg #[.string k, .int .u64 s, .bool d, .string v]

set_option maxHeartbeats 1000000 in
theorem compare_any (k1 : ByteArray) (s1 : Int) (d1 : Bool) (v1 : ByteArray) (k2 : ByteArray) (s2 : Int) (d2 : Bool) (v2 : ByteArray) (w : World) :
    Calls Tryz.prog 44 #[entV k1 s1 d1 v1, entV k2 s2 d2 v2] w fun e w' => e = .returned (.int .i64 (cmpE k1 k2 s1 s2)) ∧ Below w.heap.size w w' := by
  by_cases h1 : cmpS k1 k2 = 0
  · have g1 : (cmpS k1 k2 != 0) = false := by simp [h1]
    rw [cmpE_eq h1]
    clear h1
    go_enter Tryz.func44, Tryz.ntmps44
    go_wp2_with (first | (go_at_call 68; refine (cmpS_any _ _ _).mono ?_; rintro e w' ⟨rfl, rfl⟩) | (go_at_call 69; refine (cmpU_any _ _ _).mono ?_; rintro e w' ⟨rfl, rfl⟩))
    go_ret
    exact ⟨rfl, ((Below.refl _ _).alloc (Nat.le_refl _) _).alloc (by simp) _⟩
  · have g1 : (cmpS k1 k2 != 0) = true := by simp [h1]
    rw [cmpE_ne h1]
    clear h1
    go_enter Tryz.func44, Tryz.ntmps44
    go_wp2_with (first | (go_at_call 68; refine (cmpS_any _ _ _).mono ?_; rintro e w' ⟨rfl, rfl⟩) | (go_at_call 69; refine (cmpU_any _ _ _).mono ?_; rintro e w' ⟨rfl, rfl⟩))
    go_ret
    exact ⟨rfl, ((Below.refl _ _).alloc (Nat.le_refl _) _).alloc (by simp) _⟩

/-- What holds behind two boxes and some draws. -/
theorem below2 (w : World) (o1 o2 : Obj) (n : Nat) : Below w.heap.size w (((w.alloc o1).alloc o2).drewN n) := by
  have h := ((Below.refl w.heap.size w).alloc (Nat.le_refl _) o1).alloc (by simp) o2
  exact below_drewN h n

end Ent
end Go.Proofs.YtdflepndhemfgaaGreatDoor
