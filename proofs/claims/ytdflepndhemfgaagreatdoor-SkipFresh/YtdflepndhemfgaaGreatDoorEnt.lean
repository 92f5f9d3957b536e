import Derived.Test.YtdflepndhemfgaaGreatDoorProg
import Derived.Test.YtdflepndhemfgaaGreatDoorMath
import Derived.WalkKit
import Derived.WalkSpells
import Derived.WalkLawsBesides
import Derived.Deep.QuietTactic
import Derived.BigQuiet
import Derived.Lib.Strings
import Derived.Deep.RegionWith
namespace Go.Proofs.YtdflepndhemfgaaGreatDoor
namespace Cmp
open Go.RowKit KMath
set_option linter.unusedVariables false

theorem ret_bool {a b : Bool} (h : a = b) : Ending.returned (.bool a) = .returned (.bool b) := by rw [h]

theorem step_ne (a b : ByteArray) (k : Nat) (h1 : k < a.size) (h2 : k < b.size) (h : ((a[k].toNat : Int) != (b[k].toNat : Int)) = true) :
    Op.bytesLess (a.data.toList.drop k) (b.data.toList.drop k) = decide (a[k].toNat < b[k].toNat) := by
  have e1 : a.data.toList[k]'(by simpa using h1) = a[k] := by simp; rfl
  have e2 : b.data.toList[k]'(by simpa using h2) = b[k] := by simp; rfl
  rw [bl_drop_ne _ _ k (by simpa using h1) (by simpa using h2) (by
    rw [e1, e2]
    intro e
    rw [e] at h
    simp at h), e1, e2]
  simp [UInt8.lt_iff_toNat_lt]

theorem step_eq (a b : ByteArray) (k : Nat) (h1 : k < a.size) (h2 : k < b.size) (h : ((a[k].toNat : Int) != (b[k].toNat : Int)) = false) :
    Op.bytesLess (a.data.toList.drop k) (b.data.toList.drop k) = Op.bytesLess (a.data.toList.drop (k + 1)) (b.data.toList.drop (k + 1)) := by
  have e1 : a.data.toList[k]'(by simpa using h1) = a[k] := by simp; rfl
  have e2 : b.data.toList[k]'(by simpa using h2) = b[k] := by simp; rfl
  refine bl_drop_eq _ _ k (by simpa using h1) (by simpa using h2) ?_
  rw [e1, e2]
  simp at h
  exact UInt8.toNat_inj.1 (by omega)

set_option maxHeartbeats 400000 in
theorem nanS_any (a : ByteArray) (w : World) :
    Calls Tryz.prog 109 #[.string a] w fun e w' => e = .returned (.bool false) ∧ w' = w := by
  go_enter Tryz.func109, Tryz.ntmps109
  go_wp2
  go_ret
  exact ⟨by simp, rfl⟩

set_option maxHeartbeats 400000 in
theorem nanU_any (a : Int) (w : World) :
    Calls Tryz.prog 110 #[.int .u64 a] w fun e w' => e = .returned (.bool false) ∧ w' = w := by
  go_enter Tryz.func110, Tryz.ntmps110
  go_wp2
  go_ret
  exact ⟨by simp, rfl⟩

theorem cmpS_any (a b : ByteArray) (w : World) :
    Calls Tryz.prog 68 #[.string a, .string b] w fun e w' => e = .returned (.int .i64 (cmpS a b)) ∧ w' = w := by
  unfold cmpS
  cases h1 : Op.bytesLess a.toList b.toList
  · cases h2 : Op.bytesLess b.toList a.toList
    · have h3 : (a.toList == b.toList) = true := by rw [bl_tri _ _ h1 h2]; simp
      clear h2
      go_enter Tryz.func68, Tryz.ntmps68
      go_wp2_with (go_at_call 109; refine (nanS_any _ _).mono ?_; rintro e w' ⟨rfl, rfl⟩)
      go_ret
      exact ⟨rfl, rfl⟩
    · have h3 : (a.toList == b.toList) = false := by
        rw [beq_eq_false_iff_ne]
        intro e
        rw [e, bl_irrefl] at h2
        cases h2
      clear h2
      go_enter Tryz.func68, Tryz.ntmps68
      go_wp2_with (go_at_call 109; refine (nanS_any _ _).mono ?_; rintro e w' ⟨rfl, rfl⟩)
      go_ret
      exact ⟨rfl, rfl⟩
  · go_enter Tryz.func68, Tryz.ntmps68
    go_wp2_with (go_at_call 109; refine (nanS_any _ _).mono ?_; rintro e w' ⟨rfl, rfl⟩)
    go_ret
    exact ⟨rfl, rfl⟩

theorem cmpU_any (a b : Int) (w : World) :
    Calls Tryz.prog 69 #[.int .u64 a, .int .u64 b] w fun e w' => e = .returned (.int .i64 (cmpN a b)) ∧ w' = w := by
  unfold cmpN
  by_cases h1 : a < b
  · rw [if_pos h1]
    go_enter Tryz.func69, Tryz.ntmps69
    go_wp2_with (go_at_call 110; refine (nanU_any _ _).mono ?_; rintro e w' ⟨rfl, rfl⟩)
    go_ret
    exact ⟨rfl, rfl⟩
  · rw [if_neg h1]
    by_cases h2 : b < a
    · rw [if_pos h2]
      go_enter Tryz.func69, Tryz.ntmps69
      go_wp2_with (go_at_call 110; refine (nanU_any _ _).mono ?_; rintro e w' ⟨rfl, rfl⟩)
      go_ret
      exact ⟨rfl, rfl⟩
    · rw [if_neg h2]
      go_enter Tryz.func69, Tryz.ntmps69
      go_wp2_with (go_at_call 110; refine (nanU_any _ _).mono ?_; rintro e w' ⟨rfl, rfl⟩)
      go_ret
      exact ⟨rfl, rfl⟩

end Cmp
end Go.Proofs.YtdflepndhemfgaaGreatDoor
namespace Go.Proofs.YtdflepndhemfgaaGreatDoor
namespace Ent
open Go.RowKit KMath Cmp
set_option linter.unusedVariables false

theorem bcell {W w1 : World} (hb : Below W.heap.size W w1) : (∀ b o, b < W.heap.size → w1.cell? ⟨b, o, none⟩ = W.cell? ⟨b, o, none⟩) ∧ (∀ b o, b < W.heap.size → w1.frozen? ⟨b, o, none⟩ = W.frozen? ⟨b, o, none⟩) :=
  ⟨fun b o h => hb.cell (p := ⟨b, o, none⟩) h, fun b o h => hb.frozen (p := ⟨b, o, none⟩) h⟩

theorem ret_int {k : IntKind} {a b : Int} (h : a = b) : Ending.returned (.int k a) = .returned (.int k b) := by rw [h]

/-- An entry as a value. -/
abbrev entV (k : ByteArray) (s : Int) (d : Bool) (v : ByteArray) : Value := .agg #[.string k, .int .u64 s, .bool d, .string v]

set_option maxHeartbeats 1000000 in
theorem compare_any (k1 : ByteArray) (s1 : Int) (d1 : Bool) (v1 : ByteArray) (k2 : ByteArray) (s2 : Int) (d2 : Bool) (v2 : ByteArray) (w : World) :
    Calls Tryz.prog 44 #[entV k1 s1 d1 v1, entV k2 s2 d2 v2] w fun e w' => e = .returned (.int .i64 (cmpE k1 k2 s1 s2)) ∧ Below w.heap.size w w' := by
  by_cases h1 : cmpS k1 k2 = 0
  · have g1 : (cmpS k1 k2 != 0) = false := by simp [h1]
    rw [cmpE_eq h1]
    clear h1
    go_enter Tryz.func44, Tryz.ntmps44
    go_wp2_with (first | (go_at_call 68; refine (cmpS_any _ _ _).mono ?_; rintro e w' ⟨rfl, rfl⟩) | (go_at_call 69; refine (cmpU_any _ _ _).mono ?_; rintro e w' ⟨rfl, rfl⟩))
    go_ret
    exact ⟨rfl, ((Below.refl _ _).alloc (Nat.le_refl _) _).alloc (by simp) _⟩
  · have g1 : (cmpS k1 k2 != 0) = true := by simp [h1]
    rw [cmpE_ne h1]
    clear h1
    go_enter Tryz.func44, Tryz.ntmps44
    go_wp2_with (first | (go_at_call 68; refine (cmpS_any _ _ _).mono ?_; rintro e w' ⟨rfl, rfl⟩) | (go_at_call 69; refine (cmpU_any _ _ _).mono ?_; rintro e w' ⟨rfl, rfl⟩))
    go_ret
    exact ⟨rfl, ((Below.refl _ _).alloc (Nat.le_refl _) _).alloc (by simp) _⟩

/-- What holds behind two boxes and some draws. -/
theorem below2 (w : World) (o1 o2 : Obj) (n : Nat) : Below w.heap.size w (((w.alloc o1).alloc o2).drewN n) := by
  have h := ((Below.refl w.heap.size w).alloc (Nat.le_refl _) o1).alloc (by simp) o2
  exact below_drewN h n

end Ent
end Go.Proofs.YtdflepndhemfgaaGreatDoor
