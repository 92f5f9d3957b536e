import Derived.Test.YtdflepndhemfgaaGreatDoorProg
import Derived.Test.YtdflepndhemfgaaGreatDoorMath
import Derived.WalkKit
import Derived.WalkSpells
import Derived.WalkLawsBesides
import Derived.Deep.QuietTactic
import Derived.BigQuiet
import Derived.Lib.Strings
namespace Go.Proofs.YtdflepndhemfgaaGreatDoor
namespace Cmp
open Go.RowKit KMath
set_option linter.unusedVariables false

theorem ret_bool {a b : Bool} (h : a = b) : Ending.returned (.bool a) = .returned (.bool b) := by rw [h]

theorem step_ne (a b : ByteArray) (k : Nat) (h1 : k < a.size) (h2 : k < b.size) (h : ((a[k].toNat : Int) != (b[k].toNat : Int)) = true) :
    Op.bytesLess (a.data.toList.drop k) (b.data.toList.drop k) = decide (a[k].toNat < b[k].toNat) := by
  have e1 : a.data.toList[k]'(by simpa using h1) = a[k] := by simp; rfl
  have e2 : b.data.toList[k]'(by simpa using h2) = b[k] := by simp; rfl
  rw [bl_drop_ne _ _ k (by simpa using h1) (by simpa using h2) (by
    rw [e1, e2]
    intro e
    rw [e] at h
    simp at h), e1, e2]
  simp [UInt8.lt_iff_toNat_lt]

theorem step_eq (a b : ByteArray) (k : Nat) (h1 : k < a.size) (h2 : k < b.size) (h : ((a[k].toNat : Int) != (b[k].toNat : Int)) = false) :
    Op.bytesLess (a.data.toList.drop k) (b.data.toList.drop k) = Op.bytesLess (a.data.toList.drop (k + 1)) (b.data.toList.drop (k + 1)) := by
  have e1 : a.data.toList[k]'(by simpa using h1) = a[k] := by simp; rfl
  have e2 : b.data.toList[k]'(by simpa using h2) = b[k] := by simp; rfl
  refine bl_drop_eq _ _ k (by simpa using h1) (by simpa using h2) ?_
  rw [e1, e2]
  simp at h
  exact UInt8.toNat_inj.1 (by omega)

set_option maxHeartbeats 400000 in
theorem nanS_any (a : ByteArray) (w : World) :
    Calls Tryz.prog 109 #[.string a] w fun e w' => e = .returned (.bool false) ∧ w' = w := by
  go_enter Tryz.func109, Tryz.ntmps109
  go_wp2
  go_ret
  exact ⟨by simp, rfl⟩

set_option maxHeartbeats 400000 in
theorem nanU_any (a : Int) (w : World) :
    Calls Tryz.prog 110 #[.int .u64 a] w fun e w' => e = .returned (.bool false) ∧ w' = w := by
  go_enter Tryz.func110, Tryz.ntmps110
  go_wp2
  go_ret
  exact ⟨by simp, rfl⟩

theorem cmpS_any (a b : ByteArray) (w : World) :
    Calls Tryz.prog 68 #[.string a, .string b] w fun e w' => e = .returned (.int .i64 (cmpS a b)) ∧ w' = w := by
  unfold cmpS
  cases h1 : Op.bytesLess a.toList b.toList
  · cases h2 : Op.bytesLess b.toList a.toList
    · have h3 : (a.toList == b.toList) = true := by rw [bl_tri _ _ h1 h2]; simp
      clear h2
      go_enter Tryz.func68, Tryz.ntmps68
      go_wp2_with (go_at_call 109; refine (nanS_any _ _).mono ?_; rintro e w' ⟨rfl, rfl⟩)
      go_ret
      exact ⟨rfl, rfl⟩
    · have h3 : (a.toList == b.toList) = false := by
        rw [beq_eq_false_iff_ne]
        intro e
        rw [e, bl_irrefl] at h2
        cases h2
      clear h2
      go_enter Tryz.func68, Tryz.ntmps68
      go_wp2_with (go_at_call 109; refine (nanS_any _ _).mono ?_; rintro e w' ⟨rfl, rfl⟩)
      go_ret
      exact ⟨rfl, rfl⟩
  · go_enter Tryz.func68, Tryz.ntmps68
    go_wp2_with (go_at_call 109; refine (nanS_any _ _).mono ?_; rintro e w' ⟨rfl, rfl⟩)
    go_ret
    exact ⟨rfl, rfl⟩

theorem cmpU_any (a b : Int) (w : World) :
    Calls Tryz.prog 69 #[.int .u64 a, .int .u64 b] w fun e w' => e = .returned (.int .i64 (cmpN a b)) ∧ w' = w := by
  unfold cmpN
  by_cases h1 : a < b
  · rw [if_pos h1]
    go_enter Tryz.func69, Tryz.ntmps69
    go_wp2_with (go_at_call 110; refine (nanU_any _ _).mono ?_; rintro e w' ⟨rfl, rfl⟩)
    go_ret
    exact ⟨rfl, rfl⟩
  · rw [if_neg h1]
    by_cases h2 : b < a
    · rw [if_pos h2]
      go_enter Tryz.func69, Tryz.ntmps69
      go_wp2_with (go_at_call 110; refine (nanU_any _ _).mono ?_; rintro e w' ⟨rfl, rfl⟩)
      go_ret
      exact ⟨rfl, rfl⟩
    · rw [if_neg h2]
      go_enter Tryz.func69, Tryz.ntmps69
      go_wp2_with (go_at_call 110; refine (nanU_any _ _).mono ?_; rintro e w' ⟨rfl, rfl⟩)
      go_ret
      exact ⟨rfl, rfl⟩

end Cmp
end Go.Proofs.YtdflepndhemfgaaGreatDoor
