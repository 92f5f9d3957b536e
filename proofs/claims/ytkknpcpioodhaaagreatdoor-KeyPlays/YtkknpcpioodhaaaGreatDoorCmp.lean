import Derived.Test.YtkknpcpioodhaaaGreatDoorProg
import Derived.Test.YtkknpcpioodhaaaGreatDoorMath
import Derived.WalkKit
import Derived.WalkSpells
import Derived.WalkLawsBesides
import Derived.Deep.QuietTactic
import Derived.BigQuiet
import Derived.Lib.Strings
namespace Go.Proofs.YtkknpcpioodhaaaGreatDoor
namespace Cmp
open Go.RowKit KMath
set_option linter.unusedVariables false

theorem ret_bool {a b : Bool} (h : a = b) : Ending.returned (.bool a) = .returned (.bool b) := by rw [h]

theorem step_ne (a b : ByteArray) (k : Nat) (h1 : k < a.size) (h2 : k < b.size) (h : ((a[k].toNat : Int) != (b[k].toNat : Int)) = true) :
    Op.bytesLess (a.data.toList.drop k) (b.data.toList.drop k) = decide (a[k].toNat < b[k].toNat) := by
  have e1 : a.data.toList[k]'(by simpa using h1) = a[k] := by simp; rfl
  have e2 : b.data.toList[k]'(by simpa using h2) = b[k] := by simp; rfl
  rw [bl_drop_ne _ _ k (by simpa using h1) (by simpa using h2) (by
    rw [e1, e2]
    intro e
    rw [e] at h
    simp at h), e1, e2]
  simp [UInt8.lt_iff_toNat_lt]

theorem step_eq (a b : ByteArray) (k : Nat) (h1 : k < a.size) (h2 : k < b.size) (h : ((a[k].toNat : Int) != (b[k].toNat : Int)) = false) :
    Op.bytesLess (a.data.toList.drop k) (b.data.toList.drop k) = Op.bytesLess (a.data.toList.drop (k + 1)) (b.data.toList.drop (k + 1)) := by
  have e1 : a.data.toList[k]'(by simpa using h1) = a[k] := by simp; rfl
  have e2 : b.data.toList[k]'(by simpa using h2) = b[k] := by simp; rfl
  refine bl_drop_eq _ _ k (by simpa using h1) (by simpa using h2) ?_
  rw [e1, e2]
  simp at h
  exact UInt8.toNat_inj.1 (by omega)

set_option maxHeartbeats 1000000 in
theorem below_any (a b : ByteArray) (w : World) (ha : a.size ≤ maxLen) (hb : b.size ≤ maxLen) :
    Calls Tryz.prog 44 #[.string a, .string b] w fun e w' => e = .returned (.bool (Op.bytesLess a.toList b.toList)) ∧ ∃ n, w' = w.drewN n := by
  unfold maxLen at ha hb
  have hla : a.data.toList.length = a.size := by simp
  have hlb : b.data.toList.length = b.size := by simp
  rw [Lib.toList_data, Lib.toList_data]
  have HLA : Hid (a.data.toList.length = a.size) := hla
  have HLB : Hid (b.data.toList.length = b.size) := hlb
  clear hla hlb
  go_enter Tryz.func44, Tryz.ntmps44
  go_wp2
  go_loopw [5] (fun i wr => ∃ k n : Nat, k ≤ a.size ∧ k ≤ b.size ∧ i = .int .i64 k ∧ Op.bytesLess (a.data.toList.drop k) (b.data.toList.drop k) = Op.bytesLess a.data.toList b.data.toList ∧ wr = w.drewN n) (fun i _ => a.size - (intOf i).toNat)
  case atStart => exact ⟨0, 0, Nat.zero_le _, Nat.zero_le _, rfl, rfl, rfl⟩
  case round =>
    obtain ⟨k, n, hka, hkb, rfl, hbl, rfl⟩ := hrel
    have HBL : Hid (Op.bytesLess (a.data.toList.drop k) (b.data.toList.drop k) = Op.bytesLess a.data.toList b.data.toList) := hbl
    clear hbl
    by_cases h1 : k < a.size
    · by_cases h2 : k < b.size
      · have g1 : decide ((k : Int) < (a.size : Int)) = true := by simpa using h1
        have g2 : decide ((k : Int) < (b.size : Int)) = true := by simpa using h2
        have q1 : (k : Int) < (a.size : Int) := by omega
        have q2 : (k : Int) < (b.size : Int) := by omega
        go_wp2
        go_quiet (fail)
        go_wp2
        · have hne : ((a[k].toNat : Int) != (b[k].toNat : Int)) = true := by assumption
          have HS : Hid (Op.bytesLess (a.data.toList.drop k) (b.data.toList.drop k) = decide (a[k].toNat < b[k].toNat)) := step_ne a b k h1 h2 hne
          go_quiet (fail)
          go_wp2
          go_ret
          exact ⟨ret_bool (by rw [← HBL.out, HS.out]), by simp only [World.drewN_drewN]; exact ⟨_, rfl⟩⟩
        · have heq : ((a[k].toNat : Int) != (b[k].toNat : Int)) = false := by assumption
          have hs := step_eq a b k h1 h2 heq
          refine ⟨⟨k + 1, _, by omega, by omega, by go_num, by rw [← hs, HBL.out], rfl⟩, by simp [intOf]; omega⟩
      · have g2 : decide ((k : Int) < (b.size : Int)) = false := by simpa using h2
        go_wp2
        go_ret
        refine ⟨ret_bool ?_, n, rfl⟩
        rw [← HBL.out, bl_drop_end _ _ _ (by rw [HLA.out]; exact hka) (by rw [HLB.out]; exact hkb) (by rw [HLA.out, HLB.out]; omega), HLA.out, HLB.out]
    · have g1 : decide ((k : Int) < (a.size : Int)) = false := by simpa using h1
      go_wp2
      go_ret
      refine ⟨ret_bool ?_, n, rfl⟩
      rw [← HBL.out, bl_drop_end _ _ _ (by rw [HLA.out]; exact hka) (by rw [HLB.out]; exact hkb) (by rw [HLA.out, HLB.out]; omega), HLA.out, HLB.out]

set_option maxHeartbeats 400000 in
theorem nanS_any (a : ByteArray) (w : World) :
    Calls Tryz.prog 68 #[.string a] w fun e w' => e = .returned (.bool false) ∧ w' = w := by
  go_enter Tryz.func68, Tryz.ntmps68
  go_wp2
  go_ret
  exact ⟨by simp, rfl⟩

set_option maxHeartbeats 400000 in
theorem nanU_any (a : Int) (w : World) :
    Calls Tryz.prog 69 #[.int .u64 a] w fun e w' => e = .returned (.bool false) ∧ w' = w := by
  go_enter Tryz.func69, Tryz.ntmps69
  go_wp2
  go_ret
  exact ⟨by simp, rfl⟩

theorem cmpS_any (a b : ByteArray) (w : World) :
    Calls Tryz.prog 42 #[.string a, .string b] w fun e w' => e = .returned (.int .i64 (cmpS a b)) ∧ w' = w := by
  unfold cmpS
  cases h1 : Op.bytesLess a.toList b.toList
  · cases h2 : Op.bytesLess b.toList a.toList
    · have h3 : (a.toList == b.toList) = true := by rw [bl_tri _ _ h1 h2]; simp
      clear h2
      go_enter Tryz.func42, Tryz.ntmps42
      go_wp2_with (go_at_call 68; refine (nanS_any _ _).mono ?_; rintro e w' ⟨rfl, rfl⟩)
      go_ret
      exact ⟨rfl, rfl⟩
    · have h3 : (a.toList == b.toList) = false := by
        rw [beq_eq_false_iff_ne]
        intro e
        rw [e, bl_irrefl] at h2
        cases h2
      clear h2
      go_enter Tryz.func42, Tryz.ntmps42
      go_wp2_with (go_at_call 68; refine (nanS_any _ _).mono ?_; rintro e w' ⟨rfl, rfl⟩)
      go_ret
      exact ⟨rfl, rfl⟩
  · go_enter Tryz.func42, Tryz.ntmps42
    go_wp2_with (go_at_call 68; refine (nanS_any _ _).mono ?_; rintro e w' ⟨rfl, rfl⟩)
    go_ret
    exact ⟨rfl, rfl⟩

theorem cmpU_any (a b : Int) (w : World) :
    Calls Tryz.prog 43 #[.int .u64 a, .int .u64 b] w fun e w' => e = .returned (.int .i64 (cmpN a b)) ∧ w' = w := by
  unfold cmpN
  by_cases h1 : a < b
  · rw [if_pos h1]
    go_enter Tryz.func43, Tryz.ntmps43
    go_wp2_with (go_at_call 69; refine (nanU_any _ _).mono ?_; rintro e w' ⟨rfl, rfl⟩)
    go_ret
    exact ⟨rfl, rfl⟩
  · rw [if_neg h1]
    by_cases h2 : b < a
    · rw [if_pos h2]
      go_enter Tryz.func43, Tryz.ntmps43
      go_wp2_with (go_at_call 69; refine (nanU_any _ _).mono ?_; rintro e w' ⟨rfl, rfl⟩)
      go_ret
      exact ⟨rfl, rfl⟩
    · rw [if_neg h2]
      go_enter Tryz.func43, Tryz.ntmps43
      go_wp2_with (go_at_call 69; refine (nanU_any _ _).mono ?_; rintro e w' ⟨rfl, rfl⟩)
      go_ret
      exact ⟨rfl, rfl⟩

end Cmp
end Go.Proofs.YtkknpcpioodhaaaGreatDoor
