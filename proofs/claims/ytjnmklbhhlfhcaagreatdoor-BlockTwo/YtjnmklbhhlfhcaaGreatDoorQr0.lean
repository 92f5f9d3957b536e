import Derived.Test.YtjnmklbhhlfhcaaGreatDoorProg
import Derived.Test.YtjnmklbhhlfhcaaGreatDoorMath
import Derived.Test.YtjnmklbhhlfhcaaGreatDoorPut
import Derived.WalkKit
import Derived.WalkSpells
import Derived.WalkLawsBesides
import Derived.Deep.QuietTactic
import Derived.BigQuiet
import Derived.Lib.Strings
import Derived.Deep.RegionWith
namespace Go.Proofs.YtjnmklbhhlfhcaaGreatDoor
namespace Cmp
open Go.RowKit KMath
set_option linter.unusedVariables false

theorem ret_bool {a b : Bool} (h : a = b) : Ending.returned (.bool a) = .returned (.bool b) := by rw [h]

theorem step_ne (a b : ByteArray) (k : Nat) (h1 : k < a.size) (h2 : k < b.size) (h : ((a[k].toNat : Int) != (b[k].toNat : Int)) = true) :
    Op.bytesLess (a.data.toList.drop k) (b.data.toList.drop k) = decide (a[k].toNat < b[k].toNat) := by
  have e1 : a.data.toList[k]'(by simpa using h1) = a[k] := by simp; rfl
  have e2 : b.data.toList[k]'(by simpa using h2) = b[k] := by simp; rfl
  rw [bl_drop_ne _ _ k (by simpa using h1) (by simpa using h2) (by
    rw [e1, e2]
    intro e
    rw [e] at h
    simp at h), e1, e2]
  simp [UInt8.lt_iff_toNat_lt]

theorem step_eq (a b : ByteArray) (k : Nat) (h1 : k < a.size) (h2 : k < b.size) (h : ((a[k].toNat : Int) != (b[k].toNat : Int)) = false) :
    Op.bytesLess (a.data.toList.drop k) (b.data.toList.drop k) = Op.bytesLess (a.data.toList.drop (k + 1)) (b.data.toList.drop (k + 1)) := by
  have e1 : a.data.toList[k]'(by simpa using h1) = a[k] := by simp; rfl
  have e2 : b.data.toList[k]'(by simpa using h2) = b[k] := by simp; rfl
  refine bl_drop_eq _ _ k (by simpa using h1) (by simpa using h2) ?_
  rw [e1, e2]
  simp at h
  exact UInt8.toNat_inj.1 (by omega)

set_option maxHeartbeats 1000000 in
theorem below_any (a b : ByteArray) (w : World) (ha : a.size ≤ maxLen) (hb : b.size ≤ maxLen) :
    Calls Tryz.prog 97 #[.string a, .string b] w fun e w' => e = .returned (.bool (Op.bytesLess a.toList b.toList)) ∧ ∃ n, w' = w.drewN n := by
  unfold maxLen at ha hb
  have hla : a.data.toList.length = a.size := by simp
  have hlb : b.data.toList.length = b.size := by simp
  rw [Lib.toList_data, Lib.toList_data]
  have HLA : Hid (a.data.toList.length = a.size) := hla
  have HLB : Hid (b.data.toList.length = b.size) := hlb
  clear hla hlb
  go_enter Tryz.func97, Tryz.ntmps97
  go_wp2
  go_loopw [5] (fun i wr => ∃ k n : Nat, k ≤ a.size ∧ k ≤ b.size ∧ i = .int .i64 k ∧ Op.bytesLess (a.data.toList.drop k) (b.data.toList.drop k) = Op.bytesLess a.data.toList b.data.toList ∧ wr = w.drewN n) (fun i _ => a.size - (intOf i).toNat)
  case atStart => exact ⟨0, 0, Nat.zero_le _, Nat.zero_le _, rfl, rfl, rfl⟩
  case round =>
    obtain ⟨k, n, hka, hkb, rfl, hbl, rfl⟩ := hrel
    have HBL : Hid (Op.bytesLess (a.data.toList.drop k) (b.data.toList.drop k) = Op.bytesLess a.data.toList b.data.toList) := hbl
    clear hbl
    by_cases h1 : k < a.size
    · by_cases h2 : k < b.size
      · have g1 : decide ((k : Int) < (a.size : Int)) = true := by simpa using h1
        have g2 : decide ((k : Int) < (b.size : Int)) = true := by simpa using h2
        have q1 : (k : Int) < (a.size : Int) := by omega
        have q2 : (k : Int) < (b.size : Int) := by omega
        go_wp2
        go_quiet (fail)
        go_wp2
        · have hne : ((a[k].toNat : Int) != (b[k].toNat : Int)) = true := by assumption
          have HS : Hid (Op.bytesLess (a.data.toList.drop k) (b.data.toList.drop k) = decide (a[k].toNat < b[k].toNat)) := step_ne a b k h1 h2 hne
          go_quiet (fail)
          go_wp2
          go_ret
          exact ⟨ret_bool (by rw [← HBL.out, HS.out]), by simp only [World.drewN_drewN]; exact ⟨_, rfl⟩⟩
        · have heq : ((a[k].toNat : Int) != (b[k].toNat : Int)) = false := by assumption
          have hs := step_eq a b k h1 h2 heq
          refine ⟨⟨k + 1, _, by omega, by omega, by go_num, by rw [← hs, HBL.out], rfl⟩, by simp [intOf]; omega⟩
      · have g2 : decide ((k : Int) < (b.size : Int)) = false := by simpa using h2
        go_wp2
        go_ret
        refine ⟨ret_bool ?_, n, rfl⟩
        rw [← HBL.out, bl_drop_end _ _ _ (by rw [HLA.out]; exact hka) (by rw [HLB.out]; exact hkb) (by rw [HLA.out, HLB.out]; omega), HLA.out, HLB.out]
    · have g1 : decide ((k : Int) < (a.size : Int)) = false := by simpa using h1
      go_wp2
      go_ret
      refine ⟨ret_bool ?_, n, rfl⟩
      rw [← HBL.out, bl_drop_end _ _ _ (by rw [HLA.out]; exact hka) (by rw [HLB.out]; exact hkb) (by rw [HLA.out, HLB.out]; omega), HLA.out, HLB.out]

end Cmp
namespace Ent
open Go.RowKit KMath Cmp
set_option linter.unusedVariables false

theorem bcell {W w1 : World} (hb : Below W.heap.size W w1) : (∀ b o, b < W.heap.size → w1.cell? ⟨b, o, none⟩ = W.cell? ⟨b, o, none⟩) ∧ (∀ b o, b < W.heap.size → w1.frozen? ⟨b, o, none⟩ = W.frozen? ⟨b, o, none⟩) :=
  ⟨fun b o h => hb.cell (p := ⟨b, o, none⟩) h, fun b o h => hb.frozen (p := ⟨b, o, none⟩) h⟩

theorem ret_int {k : IntKind} {a b : Int} (h : a = b) : Ending.returned (.int k a) = .returned (.int k b) := by rw [h]

/-- An entry as a value. -/
abbrev entV (k : ByteArray) (s : Int) (d : Bool) (v : ByteArray) : Value := .agg #[.string k, .int .u64 s, .bool d, .string v]

theorem below2 (w : World) (o1 o2 : Obj) (n : Nat) : Below w.heap.size w (((w.alloc o1).alloc o2).drewN n) := by
  have h := ((Below.refl w.heap.size w).alloc (Nat.le_refl _) o1).alloc (by simp) o2
  exact below_drewN h n

set_option maxHeartbeats 1000000 in
theorem refCompare_any (k1 : ByteArray) (s1 : Int) (d1 : Bool) (v1 : ByteArray) (k2 : ByteArray) (s2 : Int) (d2 : Bool) (v2 : ByteArray) (w : World) (hk1 : k1.size ≤ maxLen) (hk2 : k2.size ≤ maxLen) :
    Calls Tryz.prog 62 #[entV k1 s1 d1 v1, entV k2 s2 d2 v2] w fun e w' => e = .returned (.int .i64 (cmpE k1 k2 s1 s2)) ∧ Below w.heap.size w w' := by
  cases h1 : Op.bytesLess k1.toList k2.toList
  · cases h2 : Op.bytesLess k2.toList k1.toList
    · rw [cmpE_eq (cmpS_eq h1 h2)]
      unfold cmpN
      by_cases h3 : s2 < s1
      · rw [if_pos h3]
        go_enter Tryz.func62, Tryz.ntmps62
        go_wp2_with fail
        refine (below_any k1 k2 _ hk1 hk2).mono ?_
        rintro e w' ⟨rfl, n, rfl⟩
        go_wp2_with fail
        refine (below_any k2 k1 _ hk2 hk1).mono ?_
        rintro e w' ⟨rfl, m, rfl⟩
        go_wp2_with fail
        go_ret
        refine ⟨rfl, ?_⟩
        exact below2 _ _ _ _
      · rw [if_neg h3]
        by_cases h4 : s1 < s2
        · rw [if_pos h4]
          go_enter Tryz.func62, Tryz.ntmps62
          go_wp2_with fail
          refine (below_any k1 k2 _ hk1 hk2).mono ?_
          rintro e w' ⟨rfl, n, rfl⟩
          go_wp2_with fail
          refine (below_any k2 k1 _ hk2 hk1).mono ?_
          rintro e w' ⟨rfl, m, rfl⟩
          go_wp2_with fail
          go_ret
          refine ⟨rfl, ?_⟩
          exact below2 _ _ _ _
        · rw [if_neg h4]
          go_enter Tryz.func62, Tryz.ntmps62
          go_wp2_with fail
          refine (below_any k1 k2 _ hk1 hk2).mono ?_
          rintro e w' ⟨rfl, n, rfl⟩
          go_wp2_with fail
          refine (below_any k2 k1 _ hk2 hk1).mono ?_
          rintro e w' ⟨rfl, m, rfl⟩
          go_wp2_with fail
          go_ret
          refine ⟨rfl, ?_⟩
          exact below2 _ _ _ _
    · have hz : cmpS k1 k2 = 1 := cmpS_gt h2
      rw [cmpE_ne (by rw [hz]; decide), hz]
      clear hz
      go_enter Tryz.func62, Tryz.ntmps62
      go_wp2_with fail
      refine (below_any k1 k2 _ hk1 hk2).mono ?_
      rintro e w' ⟨rfl, n, rfl⟩
      go_wp2_with fail
      refine (below_any k2 k1 _ hk2 hk1).mono ?_
      rintro e w' ⟨rfl, m, rfl⟩
      go_wp2_with fail
      go_ret
      refine ⟨rfl, ?_⟩
      exact below2 _ _ _ _
  · have hz : cmpS k1 k2 = -1 := cmpS_lt h1
    rw [cmpE_ne (by rw [hz]; decide), hz]
    clear hz
    go_enter Tryz.func62, Tryz.ntmps62
    go_wp2_with fail
    refine (below_any k1 k2 _ hk1 hk2).mono ?_
    rintro e w' ⟨rfl, n, rfl⟩
    go_wp2_with fail
    go_ret
    exact ⟨rfl, below2 _ _ _ _⟩

end Ent
namespace Cod
open Go.RowKit CMath Byt
set_option linter.unusedVariables false
set_option maxRecDepth 20000

theorem strB_take (s : ByteArray) (k : Nat) (h : k < s.size) : (strB s).take (k + 1) = (strB s).take k ++ [s[k].toNat] := by
  rw [List.take_succ_eq_append_getElem (by rw [strB_length]; exact h)]
  congr 2
  simp [strB]
  rfl

set_option maxHeartbeats 1000000 in
theorem words_any (s : ByteArray) (w : World) (hk : 10 + s.size ≤ 140737488355328) :
    Calls Tryz.prog 69 #[.string s] w fun e w' => ∃ v, e = .returned v ∧ Own 5 w.heap.size w' v (words (strB s)) ∧ Below w.heap.size w w' := by
  obtain ⟨i8, hi, hz0, hz1, hz2⟩ := info_parts info8
  have hs18 : s.size < 18446744073709551616 := by omega
  have h10 := num_le10 hs18
  have hp := num_pos s.size
  go_enter Tryz.func69, Tryz.ntmps69
  go_wp2_with (go_at_call 68; refine (number_any s.size w hs18).mono ?_; rintro e w1 ⟨v1, rfl, ho1, hb1⟩; have HO1 : Hid (Own 5 w.heap.size w1 v1 (num s.size)) := ho1; have HB1 : Hid (Below w.heap.size w w1) := hb1; clear ho1 hb1)
  go_loopw [3, 4] (fun v i wr => ∃ k : Nat, k ≤ s.size ∧ i = .int .i64 k ∧ wr.ownsRow w.heap.size 5 1 v ((num s.size).length + k) (cellsB (num s.size ++ (strB s).take k)) ∧ Below w.heap.size w wr) (fun _ i _ => s.size - (intOf i).toNat)
  case atStart => exact ⟨0, Nat.zero_le _, rfl, by simpa using HO1.out.row, HB1.out⟩
  case round =>
    obtain ⟨k, hk', rfl, hown, hbe⟩ := hrel
    have hsz := hbe.size
    have HW : Hid (wr.ownsRow w.heap.size 5 1 _ ((num s.size).length + k) (cellsB (num s.size ++ (strB s).take k))) := hown
    have HB : Hid (Below w.heap.size w wr) := hbe
    clear hown hbe
    by_cases hlt : k < s.size
    · have q1 : (k : Int) < (s.size : Int) := by omega
      go_wp2_with (at_builtin; refine wpList_appB (by rfl) (.tmp 15) (.tmp 19) 63 (by rfl) w.heap.size 5 i8 Tryz.underlying63 hi hz0 hz1 hz2 _ (num s.size ++ (strB s).take k) _ (by rfl) (HW.out.alloc _) (some ⟨wr.heap.size, 0, none⟩) 1 1 [s[k].toNat] (by rfl) rfl (by simp) (isB_new rfl (UInt8.toNat_lt _)) (by omega) (by simp; omega) ?_; intro v2 w2 hown2 hgr2 hnn2; have HG2 : Hid ((wr.alloc _).grownBy w2 _) := hgr2; have HO2 : Hid (w2.ownsRow w.heap.size 5 1 v2 ((num s.size).length + k + 1) (cellsB (num s.size ++ (strB s).take k ++ [s[k].toNat]))) := hown2; clear hgr2 hown2 hnn2)
      have HB2 : Hid (Below w.heap.size w w2) := below_of (HB.out.alloc (by omega) _) HG2.out (Nat.le_refl _) (fun j hj => (HW.out.lt j hj).1)
      refine ⟨⟨k + 1, by omega, by go_num, ?_, HB2.out⟩, by simp [intOf]; omega⟩
      have h2 := HO2.out
      rw [List.append_assoc, ← strB_take s k hlt] at h2
      exact h2
    · obtain rfl : k = s.size := by omega
      go_wp2
      go_ret
      have h2 := HW.out
      rw [List.take_of_length_le (by rw [strB_length]; exact Nat.le_refl _)] at h2
      refine ⟨_, rfl, ?_, HB.out⟩
      unfold words
      rw [strB_length]
      refine Own.pos h2 ?_ (by omega)
      intro x hx
      rcases List.mem_append.1 hx with hx | hx
      · exact num_byte _ x hx
      · exact strB_byte s x hx

end Cod
end Go.Proofs.YtjnmklbhhlfhcaaGreatDoor
