import Derived.Test.YtdbiliigbinmfaaDoorNm1
namespace Go.Proofs.YtdbiliigbinmfaaDoor
namespace Nms
open Go.RowKit CMath Byt Cod Laws
set_option linter.unusedVariables false
set_option linter.unusedSimpArgs false
set_option maxRecDepth 20000
theorem ofB_size (l : List Nat) : (ofB l).size = l.length := by simp [ofB, ByteArray.size]
theorem tl_length (i n : Nat) : (tl i n).length = i := by
  induction i with
  | zero => rfl
  | succ i ih => simp [tl, ih]
theorem add_ofB (a b : List Nat) (D S Z : ByteArray) (hD : D = ofB a) (hS : S = ofB b) (hZ : Z = ofB (a ++ b)) (ha : a.length ≤ 1000000) (hb : b.length ≤ 1000000) (w : World) : (Op.stringOp .add D S).run Tryd.prog w = .ok (.string Z) w := by
  rw [run_string_add w D S (by rw [hD, ofB_size]; omega) (by rw [hS, ofB_size]; omega), hD, hS, ofB_app, hZ]
set_option maxHeartbeats 1000000 in
theorem rname_yes (k n : Nat) (hk : kindOk k = true) (hn : n < 1000000000000) (w : World) : Calls Tryd.prog 7 #[.int .u8 (k : Int), .int .u64 (n : Int)] w fun e w' => e = .returned (.string (ofB (k :: 45 :: tl 12 n))) ∧ RowKit.Below w.heap.size w w' := by
  have hk2 : k = 108 ∨ k = 109 ∨ k = 116 := by
    simp [kindOk] at hk; omega
  have k256 : k < 256 := by omega
  have q0 : ¬ (n : Int) ≥ 1000000000000 := by omega
  have HN : Hid (n < 1000000000000) := hn
  clear hn
  have a1 : ((k : Int) != 108 && (k : Int) != 109 && (k : Int) != 116) = false := by
    rcases hk2 with rfl | rfl | rfl <;> decide
  rcases hk2 with hk2 | hk2 | hk2
  · subst hk2
    go_enter Tryd.func7, Tryd.ntmps7
    go_wp2
    go_loopw [1, 5, 6] (fun m o i wr => ∃ j : Nat, j ≤ 12 ∧ m = .int .u64 ((n / 10 ^ j : Nat) : Int) ∧ o = .string (ofB (tl j n)) ∧ i = .int .i64 (j : Int) ∧ Hid (RowKit.Below w.heap.size w wr)) (fun _ _ i _ => 12 - (intOf i).toNat)
    case atStart => exact ⟨0, Nat.zero_le _, by simp, rfl, rfl, RowKit.Below.refl _ _⟩
    case round =>
      rename_i wr
      obtain ⟨j, hj, rfl, rfl, rfl, HB⟩ := hrel
      by_cases hlt : j < 12
      · have q1 : (j : Int) < 12 := by omega
        obtain ⟨m, hm⟩ : ∃ m, m = n / 10 ^ j := ⟨_, rfl⟩
        have hm2 : m < 1000000000000 := by rw [hm]; exact Nat.lt_of_le_of_lt (Nat.div_le_self _ _) HN.out
        have HS : Hid (n / 10 ^ (j + 1) = m / 10) := by show _ = _; rw [hm, Nat.pow_succ, Nat.div_div_eq_div_mul]
        have HT : Hid (tl (j + 1) n = (48 + m % 10) :: tl j n) := by show _ = _; rw [hm]; rfl
        rw [← hm]
        obtain ⟨T, hT⟩ : ∃ T, T = tl j n := ⟨_, rfl⟩
        have hTl : T.length = j := by rw [hT, tl_length]
        rw [← hT] at HT ⊢
        clear hm hT
        obtain ⟨S, hS⟩ : ∃ S, S = ofB T := ⟨_, rfl⟩
        obtain ⟨D, hD⟩ : ∃ D, D = ofB [48 + m % 10] := ⟨_, rfl⟩
        obtain ⟨Z, hZ⟩ : ∃ Z, Z = ofB ((48 + m % 10) :: T) := ⟨_, rfl⟩
        have hadd : ∀ w, (Op.stringOp .add D S).run Tryd.prog w = .ok (.string Z) w := add_ofB [48 + m % 10] T D S Z hD hS hZ (by simp) (by rw [hTl]; omega)
        have HZ : Hid (Z = ofB ((48 + m % 10) :: T)) := hZ
        rw [← hS]
        have r1 : ((m : Int)).tmod 10 = ((m % 10 : Nat) : Int) := by rw [Int.tmod_eq_emod_of_nonneg (by omega)]; rfl
        have r2 : ((m : Int)).tdiv 10 = ((m / 10 : Nat) : Int) := by rw [Int.tdiv_eq_ediv_of_nonneg (by omega)]; rfl
        have w1 : IntKind.u64.wrap ((m % 10 : Nat) : Int) = ((m % 10 : Nat) : Int) := IntWalk.u64_in _ (by omega)
        have w2 : IntKind.u8.wrap ((m % 10 : Nat) : Int) = ((m % 10 : Nat) : Int) := IntWalk.u8_in _ (by omega)
        have w3 : IntKind.u8.wrap (48 + ((m % 10 : Nat) : Int)) = ((48 + m % 10 : Nat) : Int) := by rw [IntWalk.u8_in _ (by omega)]; omega
        have w4 : IntKind.u64.wrap ((m / 10 : Nat) : Int) = ((m / 10 : Nat) : Int) := IntWalk.u64_in _ (by omega)
        have w5 : IntKind.u64.wrap ((m : Int) / 10) = (m : Int) / 10 := IntWalk.u64_in _ (by omega)
        have hc := conv_one wr (48 + m % 10) (by omega)
        rw [show ((48 + m % 10 : Nat) : Int) = 48 + (m : Int) % 10 by omega, ← hD] at hc
        clear hD hS hm2 hZ hTl
        go_wp2
        go_roundw
        case rel =>
          refine ⟨j + 1, by omega, ?_, ?_, by go_num, ?_⟩
          · rw [HS.out]; simp [w5]
          · rw [HT.out, ← HZ.out]
          · exact HB.out.alloc HB.out.size _
        case measure => simp [intOf]; omega
      · have q1 : ¬ (j : Int) < 12 := by omega
        obtain rfl : j = 12 := by omega
        obtain ⟨T, hT⟩ : ∃ T, T = tl 12 n := ⟨_, rfl⟩
        rw [← hT]
        obtain ⟨S, hS⟩ : ∃ S, S = ofB T := ⟨_, rfl⟩
        obtain ⟨D, hD⟩ : ∃ D, D = ofB [108, 45] := ⟨_, rfl⟩
        obtain ⟨Z, hZ⟩ : ∃ Z, Z = ofB (108 :: 45 :: T) := ⟨_, rfl⟩
        have hadd : ∀ w, (Op.stringOp .add D S).run Tryd.prog w = .ok (.string Z) w := add_ofB [108, 45] T D S Z hD hS hZ (by simp) (by rw [hT, tl_length]; omega)
        have HZ : Hid (Z = ofB (108 :: 45 :: tl 12 n)) := by show _ = _; rw [hZ, hT]
        rw [← hS]
        have hc : (convert 23 9 (.slice (some ⟨wr.heap.size, 0, none⟩) 2 2)).run Tryd.prog (wr.alloc (.cells #[.int .u8 108, .int .u8 45] 5)) = .ok (.string D) (wr.alloc (.cells #[.int .u8 108, .int .u8 45] 5)) := by
          rw [hD]; exact conv_two wr 108 45 (by omega) (by omega)
        clear hT hS hD hZ
        go_wp2
        go_ret
        exact ⟨by rw [HZ.out]; rfl, HB.out.alloc HB.out.size _⟩
  · subst hk2
    go_enter Tryd.func7, Tryd.ntmps7
    go_wp2
    go_loopw [1, 5, 6] (fun m o i wr => ∃ j : Nat, j ≤ 12 ∧ m = .int .u64 ((n / 10 ^ j : Nat) : Int) ∧ o = .string (ofB (tl j n)) ∧ i = .int .i64 (j : Int) ∧ Hid (RowKit.Below w.heap.size w wr)) (fun _ _ i _ => 12 - (intOf i).toNat)
    case atStart => exact ⟨0, Nat.zero_le _, by simp, rfl, rfl, RowKit.Below.refl _ _⟩
    case round =>
      rename_i wr
      obtain ⟨j, hj, rfl, rfl, rfl, HB⟩ := hrel
      by_cases hlt : j < 12
      · have q1 : (j : Int) < 12 := by omega
        obtain ⟨m, hm⟩ : ∃ m, m = n / 10 ^ j := ⟨_, rfl⟩
        have hm2 : m < 1000000000000 := by rw [hm]; exact Nat.lt_of_le_of_lt (Nat.div_le_self _ _) HN.out
        have HS : Hid (n / 10 ^ (j + 1) = m / 10) := by show _ = _; rw [hm, Nat.pow_succ, Nat.div_div_eq_div_mul]
        have HT : Hid (tl (j + 1) n = (48 + m % 10) :: tl j n) := by show _ = _; rw [hm]; rfl
        rw [← hm]
        obtain ⟨T, hT⟩ : ∃ T, T = tl j n := ⟨_, rfl⟩
        have hTl : T.length = j := by rw [hT, tl_length]
        rw [← hT] at HT ⊢
        clear hm hT
        obtain ⟨S, hS⟩ : ∃ S, S = ofB T := ⟨_, rfl⟩
        obtain ⟨D, hD⟩ : ∃ D, D = ofB [48 + m % 10] := ⟨_, rfl⟩
        obtain ⟨Z, hZ⟩ : ∃ Z, Z = ofB ((48 + m % 10) :: T) := ⟨_, rfl⟩
        have hadd : ∀ w, (Op.stringOp .add D S).run Tryd.prog w = .ok (.string Z) w := add_ofB [48 + m % 10] T D S Z hD hS hZ (by simp) (by rw [hTl]; omega)
        have HZ : Hid (Z = ofB ((48 + m % 10) :: T)) := hZ
        rw [← hS]
        have r1 : ((m : Int)).tmod 10 = ((m % 10 : Nat) : Int) := by rw [Int.tmod_eq_emod_of_nonneg (by omega)]; rfl
        have r2 : ((m : Int)).tdiv 10 = ((m / 10 : Nat) : Int) := by rw [Int.tdiv_eq_ediv_of_nonneg (by omega)]; rfl
        have w1 : IntKind.u64.wrap ((m % 10 : Nat) : Int) = ((m % 10 : Nat) : Int) := IntWalk.u64_in _ (by omega)
        have w2 : IntKind.u8.wrap ((m % 10 : Nat) : Int) = ((m % 10 : Nat) : Int) := IntWalk.u8_in _ (by omega)
        have w3 : IntKind.u8.wrap (48 + ((m % 10 : Nat) : Int)) = ((48 + m % 10 : Nat) : Int) := by rw [IntWalk.u8_in _ (by omega)]; omega
        have w4 : IntKind.u64.wrap ((m / 10 : Nat) : Int) = ((m / 10 : Nat) : Int) := IntWalk.u64_in _ (by omega)
        have w5 : IntKind.u64.wrap ((m : Int) / 10) = (m : Int) / 10 := IntWalk.u64_in _ (by omega)
        have hc := conv_one wr (48 + m % 10) (by omega)
        rw [show ((48 + m % 10 : Nat) : Int) = 48 + (m : Int) % 10 by omega, ← hD] at hc
        clear hD hS hm2 hZ hTl
        go_wp2
        go_roundw
        case rel =>
          refine ⟨j + 1, by omega, ?_, ?_, by go_num, ?_⟩
          · rw [HS.out]; simp [w5]
          · rw [HT.out, ← HZ.out]
          · exact HB.out.alloc HB.out.size _
        case measure => simp [intOf]; omega
      · have q1 : ¬ (j : Int) < 12 := by omega
        obtain rfl : j = 12 := by omega
        obtain ⟨T, hT⟩ : ∃ T, T = tl 12 n := ⟨_, rfl⟩
        rw [← hT]
        obtain ⟨S, hS⟩ : ∃ S, S = ofB T := ⟨_, rfl⟩
        obtain ⟨D, hD⟩ : ∃ D, D = ofB [109, 45] := ⟨_, rfl⟩
        obtain ⟨Z, hZ⟩ : ∃ Z, Z = ofB (109 :: 45 :: T) := ⟨_, rfl⟩
        have hadd : ∀ w, (Op.stringOp .add D S).run Tryd.prog w = .ok (.string Z) w := add_ofB [109, 45] T D S Z hD hS hZ (by simp) (by rw [hT, tl_length]; omega)
        have HZ : Hid (Z = ofB (109 :: 45 :: tl 12 n)) := by show _ = _; rw [hZ, hT]
        rw [← hS]
        have hc : (convert 23 9 (.slice (some ⟨wr.heap.size, 0, none⟩) 2 2)).run Tryd.prog (wr.alloc (.cells #[.int .u8 109, .int .u8 45] 5)) = .ok (.string D) (wr.alloc (.cells #[.int .u8 109, .int .u8 45] 5)) := by
          rw [hD]; exact conv_two wr 109 45 (by omega) (by omega)
        clear hT hS hD hZ
        go_wp2
        go_ret
        exact ⟨by rw [HZ.out]; rfl, HB.out.alloc HB.out.size _⟩
  · subst hk2
    go_enter Tryd.func7, Tryd.ntmps7
    go_wp2
    go_loopw [1, 5, 6] (fun m o i wr => ∃ j : Nat, j ≤ 12 ∧ m = .int .u64 ((n / 10 ^ j : Nat) : Int) ∧ o = .string (ofB (tl j n)) ∧ i = .int .i64 (j : Int) ∧ Hid (RowKit.Below w.heap.size w wr)) (fun _ _ i _ => 12 - (intOf i).toNat)
    case atStart => exact ⟨0, Nat.zero_le _, by simp, rfl, rfl, RowKit.Below.refl _ _⟩
    case round =>
      rename_i wr
      obtain ⟨j, hj, rfl, rfl, rfl, HB⟩ := hrel
      by_cases hlt : j < 12
      · have q1 : (j : Int) < 12 := by omega
        obtain ⟨m, hm⟩ : ∃ m, m = n / 10 ^ j := ⟨_, rfl⟩
        have hm2 : m < 1000000000000 := by rw [hm]; exact Nat.lt_of_le_of_lt (Nat.div_le_self _ _) HN.out
        have HS : Hid (n / 10 ^ (j + 1) = m / 10) := by show _ = _; rw [hm, Nat.pow_succ, Nat.div_div_eq_div_mul]
        have HT : Hid (tl (j + 1) n = (48 + m % 10) :: tl j n) := by show _ = _; rw [hm]; rfl
        rw [← hm]
        obtain ⟨T, hT⟩ : ∃ T, T = tl j n := ⟨_, rfl⟩
        have hTl : T.length = j := by rw [hT, tl_length]
        rw [← hT] at HT ⊢
        clear hm hT
        obtain ⟨S, hS⟩ : ∃ S, S = ofB T := ⟨_, rfl⟩
        obtain ⟨D, hD⟩ : ∃ D, D = ofB [48 + m % 10] := ⟨_, rfl⟩
        obtain ⟨Z, hZ⟩ : ∃ Z, Z = ofB ((48 + m % 10) :: T) := ⟨_, rfl⟩
        have hadd : ∀ w, (Op.stringOp .add D S).run Tryd.prog w = .ok (.string Z) w := add_ofB [48 + m % 10] T D S Z hD hS hZ (by simp) (by rw [hTl]; omega)
        have HZ : Hid (Z = ofB ((48 + m % 10) :: T)) := hZ
        rw [← hS]
        have r1 : ((m : Int)).tmod 10 = ((m % 10 : Nat) : Int) := by rw [Int.tmod_eq_emod_of_nonneg (by omega)]; rfl
        have r2 : ((m : Int)).tdiv 10 = ((m / 10 : Nat) : Int) := by rw [Int.tdiv_eq_ediv_of_nonneg (by omega)]; rfl
        have w1 : IntKind.u64.wrap ((m % 10 : Nat) : Int) = ((m % 10 : Nat) : Int) := IntWalk.u64_in _ (by omega)
        have w2 : IntKind.u8.wrap ((m % 10 : Nat) : Int) = ((m % 10 : Nat) : Int) := IntWalk.u8_in _ (by omega)
        have w3 : IntKind.u8.wrap (48 + ((m % 10 : Nat) : Int)) = ((48 + m % 10 : Nat) : Int) := by rw [IntWalk.u8_in _ (by omega)]; omega
        have w4 : IntKind.u64.wrap ((m / 10 : Nat) : Int) = ((m / 10 : Nat) : Int) := IntWalk.u64_in _ (by omega)
        have w5 : IntKind.u64.wrap ((m : Int) / 10) = (m : Int) / 10 := IntWalk.u64_in _ (by omega)
        have hc := conv_one wr (48 + m % 10) (by omega)
        rw [show ((48 + m % 10 : Nat) : Int) = 48 + (m : Int) % 10 by omega, ← hD] at hc
        clear hD hS hm2 hZ hTl
        go_wp2
        go_roundw
        case rel =>
          refine ⟨j + 1, by omega, ?_, ?_, by go_num, ?_⟩
          · rw [HS.out]; simp [w5]
          · rw [HT.out, ← HZ.out]
          · exact HB.out.alloc HB.out.size _
        case measure => simp [intOf]; omega
      · have q1 : ¬ (j : Int) < 12 := by omega
        obtain rfl : j = 12 := by omega
        obtain ⟨T, hT⟩ : ∃ T, T = tl 12 n := ⟨_, rfl⟩
        rw [← hT]
        obtain ⟨S, hS⟩ : ∃ S, S = ofB T := ⟨_, rfl⟩
        obtain ⟨D, hD⟩ : ∃ D, D = ofB [116, 45] := ⟨_, rfl⟩
        obtain ⟨Z, hZ⟩ : ∃ Z, Z = ofB (116 :: 45 :: T) := ⟨_, rfl⟩
        have hadd : ∀ w, (Op.stringOp .add D S).run Tryd.prog w = .ok (.string Z) w := add_ofB [116, 45] T D S Z hD hS hZ (by simp) (by rw [hT, tl_length]; omega)
        have HZ : Hid (Z = ofB (116 :: 45 :: tl 12 n)) := by show _ = _; rw [hZ, hT]
        rw [← hS]
        have hc : (convert 23 9 (.slice (some ⟨wr.heap.size, 0, none⟩) 2 2)).run Tryd.prog (wr.alloc (.cells #[.int .u8 116, .int .u8 45] 5)) = .ok (.string D) (wr.alloc (.cells #[.int .u8 116, .int .u8 45] 5)) := by
          rw [hD]; exact conv_two wr 116 45 (by omega) (by omega)
        clear hT hS hD hZ
        go_wp2
        go_ret
        exact ⟨by rw [HZ.out]; rfl, HB.out.alloc HB.out.size _⟩
end Nms
end Go.Proofs.YtdbiliigbinmfaaDoor
