import Derived.Test.YtdbiliigbinmfaaDoorNm2
namespace Go.Proofs.YtdbiliigbinmfaaDoor
namespace Nms
open Go.RowKit CMath Byt Cod Laws
set_option linter.unusedVariables false
set_option linter.unusedSimpArgs false
set_option maxRecDepth 20000
def numO (r : Option (Nat × Nat)) : Value := match r with
  | none => .tuple #[.int .u8 0, .int .u64 0, .bool false]
  | some (k, n) => .tuple #[.int .u8 (k : Int), .int .u64 (n : Int), .bool true]
/-- the i-th byte -/
def bt (s : ByteArray) (i : Nat) : Nat := (s.data.getD i 0).toNat
theorem bt_at (s : ByteArray) (i : Nat) (h : i < s.size) : s[i].toNat = bt s i := by
  unfold bt
  have h2 : i < s.data.size := h
  rw [Array.getD_eq_getD_getElem?, Array.getElem?_eq_getElem h2]
  rfl
theorem bt_lt (s : ByteArray) (i : Nat) : bt s i < 256 := UInt8.toNat_lt _
def dig (s : ByteArray) (i : Nat) : Bool := decide (48 ≤ bt s i ∧ bt s i ≤ 57)
def digs (s : ByteArray) : Nat → Bool
  | 0 => true
  | i + 1 => digs s i && dig s (i + 2)
def vl (s : ByteArray) : Nat → Nat
  | 0 => 0
  | i + 1 => 10 * vl s i + (bt s (i + 2) - 48)
theorem vl_lt (s : ByteArray) (i : Nat) (h : digs s i = true) : vl s i < 10 ^ i := by
  induction i with
  | zero => simp [vl]
  | succ i ih =>
    simp only [digs, Bool.and_eq_true, dig, decide_eq_true_eq] at h
    have := ih h.1
    simp only [vl, Nat.pow_succ]
    omega
theorem digs_le (s : ByteArray) (i j : Nat) (hij : i ≤ j) (h : digs s j = true) : digs s i = true := by
  induction j with
  | zero => obtain rfl : i = 0 := by omega
            rfl
  | succ j ih =>
    by_cases e : i = j + 1
    · rw [e]; exact h
    · simp only [digs, Bool.and_eq_true] at h
      exact ih (by omega) h.1
def numB (s : ByteArray) : Option (Nat × Nat) := if (s.size == 14 && bt s 1 == 45 && kindOk (bt s 0) && digs s 12) = true then some (bt s 0, vl s 12) else none
set_option maxHeartbeats 1000000 in
theorem rnum_any (s : ByteArray) (w : World) : Calls Tryd.prog 5 #[.string s] w fun e w' => e = .returned (numO (numB s)) ∧ w' = w := by
  by_cases h : (s.size : Int) = 14
  · have hs : s.size = 14 := by omega
    have b0 : ((s[0]'(by omega)).toNat : Int) = (bt s 0 : Int) := by rw [bt_at]
    have b1 : ((s[1]'(by omega)).toNat : Int) = (bt s 1 : Int) := by rw [bt_at]
    by_cases h1 : (bt s 1 : Int) = 45
    · by_cases hk : kindOk (bt s 0) = true
      · have hk2 : bt s 0 = 108 ∨ bt s 0 = 109 ∨ bt s 0 = 116 := by
          simp [kindOk] at hk; omega
        have c1 : ((s[1]'(by omega)).toNat : Int) = 45 := by rw [b1]; exact h1
        clear hk
        rcases hk2 with hk | hk | hk
        · have c0 : ((s[0]'(by omega)).toNat : Int) = 108 := by rw [b0, hk]; rfl
          have HK : Hid (bt s 0 = 108) := hk
          clear b0 b1
          go_enter Tryd.func5, Tryd.ntmps5
          go_wp2
          go_loopw [5, 6] (fun n i wr => ∃ j : Nat, j ≤ 12 ∧ n = .int .u64 (vl s j : Int) ∧ i = .int .i64 ((j : Int) + 2) ∧ wr = w ∧ Hid (digs s j = true)) (fun _ i _ => 14 - (intOf i).toNat)
          case atStart => exact ⟨0, Nat.zero_le _, rfl, rfl, rfl, (rfl : digs s 0 = true)⟩
          case round =>
            obtain ⟨j, hj, rfl, rfl, rfl, HG⟩ := hrel
            by_cases hlt : j < 12
            · have q1 : (j : Int) + 2 < 14 := by omega
              have g1 : ((j : Int) + 2).toNat = j + 2 := by omega
              have g2 : j + 2 < s.size := by omega
              have bj : ((s[j + 2]'g2).toNat : Int) = (bt s (j + 2) : Int) := by rw [bt_at]
              obtain ⟨d, hd⟩ : ∃ d, d = bt s (j + 2) := ⟨_, rfl⟩
              have hd2 : d < 256 := by rw [hd]; exact bt_lt _ _
              rw [← hd] at bj
              by_cases hdg : 48 ≤ d ∧ d ≤ 57
              · have p1 : ¬ (d : Int) < 48 := by omega
                have p2 : ¬ (d : Int) > 57 := by omega
                have HV : Hid (vl s (j + 1) = 10 * vl s j + (d - 48)) := by show _ = _; rw [hd]; rfl
                have HG2 : Hid (digs s (j + 1) = true) := by
                  show _ = _
                  simp only [digs, HG.out, dig, ← hd, Bool.true_and, decide_eq_true_eq]; exact hdg
                have hv := vl_lt s j HG.out
                have hv2 : (10 : Nat) ^ j ≤ 10 ^ 11 := Nat.pow_le_pow_right (by omega) (by omega)
                obtain ⟨v, hvv⟩ : ∃ v, v = vl s j := ⟨_, rfl⟩
                rw [← hvv] at HV hv ⊢
                have hv3 : (v : Int) < 100000000000 := by omega
                have w1 : IntKind.u64.wrap (10 * (v : Int)) = 10 * (v : Int) := IntWalk.u64_in _ (by omega)
                have w2 : IntKind.u8.wrap ((d : Int) - 48) = (d : Int) - 48 := IntWalk.u8_in _ (by omega)
                have w3 : IntKind.u64.wrap ((d : Int) - 48) = (d : Int) - 48 := IntWalk.u64_in _ (by omega)
                have w4 : IntKind.u64.wrap (10 * (v : Int) + ((d : Int) - 48)) = 10 * (v : Int) + ((d : Int) - 48) := IntWalk.u64_in _ (by omega)
                have HE : Hid (10 * (v : Int) + ((d : Int) - 48) = ((10 * v + (d - 48) : Nat) : Int)) := by show _ = _; omega
                clear hv hv2 hvv hd hd2 hdg
                go_wp2
                go_roundw
                case rel =>
                  refine ⟨j + 1, by omega, ?_, by go_num, trivial, HG2⟩
                  rw [HV.out, ← HE.out]
                case measure => simp [intOf]; omega
              · have HD : Hid (numB s = none) := by
                  show _ = _
                  have h2 : ¬ digs s 12 = true := fun e => by
                    have := digs_le s (j + 1) 12 (by omega) e
                    simp only [digs, Bool.and_eq_true, dig, ← hd, decide_eq_true_eq] at this
                    exact hdg this.2
                  unfold numB; simp [h2]
                by_cases p1 : (d : Int) < 48
                · clear hd hd2 hdg
                  go_wp2
                  go_ret3
                  exact ⟨by rw [HD.out]; rfl, rfl⟩
                · have p2 : (d : Int) > 57 := by omega
                  clear hd hd2 hdg
                  go_wp2
                  go_ret3
                  exact ⟨by rw [HD.out]; rfl, rfl⟩
            · have q1 : ¬ (j : Int) + 2 < 14 := by omega
              obtain rfl : j = 12 := by omega
              have HD : Hid (numB s = some (108, vl s 12)) := by
                show _ = _
                unfold numB
                rw [hs, HK.out, HG.out]
                have h2 : bt s 1 = 45 := by omega
                rw [h2]; rfl
              go_wp2
              go_ret3
              exact ⟨by rw [HD.out]; rfl, rfl⟩
        · have c0 : ((s[0]'(by omega)).toNat : Int) = 109 := by rw [b0, hk]; rfl
          have HK : Hid (bt s 0 = 109) := hk
          clear b0 b1
          go_enter Tryd.func5, Tryd.ntmps5
          go_wp2
          go_loopw [5, 6] (fun n i wr => ∃ j : Nat, j ≤ 12 ∧ n = .int .u64 (vl s j : Int) ∧ i = .int .i64 ((j : Int) + 2) ∧ wr = w ∧ Hid (digs s j = true)) (fun _ i _ => 14 - (intOf i).toNat)
          case atStart => exact ⟨0, Nat.zero_le _, rfl, rfl, rfl, (rfl : digs s 0 = true)⟩
          case round =>
            obtain ⟨j, hj, rfl, rfl, rfl, HG⟩ := hrel
            by_cases hlt : j < 12
            · have q1 : (j : Int) + 2 < 14 := by omega
              have g1 : ((j : Int) + 2).toNat = j + 2 := by omega
              have g2 : j + 2 < s.size := by omega
              have bj : ((s[j + 2]'g2).toNat : Int) = (bt s (j + 2) : Int) := by rw [bt_at]
              obtain ⟨d, hd⟩ : ∃ d, d = bt s (j + 2) := ⟨_, rfl⟩
              have hd2 : d < 256 := by rw [hd]; exact bt_lt _ _
              rw [← hd] at bj
              by_cases hdg : 48 ≤ d ∧ d ≤ 57
              · have p1 : ¬ (d : Int) < 48 := by omega
                have p2 : ¬ (d : Int) > 57 := by omega
                have HV : Hid (vl s (j + 1) = 10 * vl s j + (d - 48)) := by show _ = _; rw [hd]; rfl
                have HG2 : Hid (digs s (j + 1) = true) := by
                  show _ = _
                  simp only [digs, HG.out, dig, ← hd, Bool.true_and, decide_eq_true_eq]; exact hdg
                have hv := vl_lt s j HG.out
                have hv2 : (10 : Nat) ^ j ≤ 10 ^ 11 := Nat.pow_le_pow_right (by omega) (by omega)
                obtain ⟨v, hvv⟩ : ∃ v, v = vl s j := ⟨_, rfl⟩
                rw [← hvv] at HV hv ⊢
                have hv3 : (v : Int) < 100000000000 := by omega
                have w1 : IntKind.u64.wrap (10 * (v : Int)) = 10 * (v : Int) := IntWalk.u64_in _ (by omega)
                have w2 : IntKind.u8.wrap ((d : Int) - 48) = (d : Int) - 48 := IntWalk.u8_in _ (by omega)
                have w3 : IntKind.u64.wrap ((d : Int) - 48) = (d : Int) - 48 := IntWalk.u64_in _ (by omega)
                have w4 : IntKind.u64.wrap (10 * (v : Int) + ((d : Int) - 48)) = 10 * (v : Int) + ((d : Int) - 48) := IntWalk.u64_in _ (by omega)
                have HE : Hid (10 * (v : Int) + ((d : Int) - 48) = ((10 * v + (d - 48) : Nat) : Int)) := by show _ = _; omega
                clear hv hv2 hvv hd hd2 hdg
                go_wp2
                go_roundw
                case rel =>
                  refine ⟨j + 1, by omega, ?_, by go_num, trivial, HG2⟩
                  rw [HV.out, ← HE.out]
                case measure => simp [intOf]; omega
              · have HD : Hid (numB s = none) := by
                  show _ = _
                  have h2 : ¬ digs s 12 = true := fun e => by
                    have := digs_le s (j + 1) 12 (by omega) e
                    simp only [digs, Bool.and_eq_true, dig, ← hd, decide_eq_true_eq] at this
                    exact hdg this.2
                  unfold numB; simp [h2]
                by_cases p1 : (d : Int) < 48
                · clear hd hd2 hdg
                  go_wp2
                  go_ret3
                  exact ⟨by rw [HD.out]; rfl, rfl⟩
                · have p2 : (d : Int) > 57 := by omega
                  clear hd hd2 hdg
                  go_wp2
                  go_ret3
                  exact ⟨by rw [HD.out]; rfl, rfl⟩
            · have q1 : ¬ (j : Int) + 2 < 14 := by omega
              obtain rfl : j = 12 := by omega
              have HD : Hid (numB s = some (109, vl s 12)) := by
                show _ = _
                unfold numB
                rw [hs, HK.out, HG.out]
                have h2 : bt s 1 = 45 := by omega
                rw [h2]; rfl
              go_wp2
              go_ret3
              exact ⟨by rw [HD.out]; rfl, rfl⟩
        · have c0 : ((s[0]'(by omega)).toNat : Int) = 116 := by rw [b0, hk]; rfl
          have HK : Hid (bt s 0 = 116) := hk
          clear b0 b1
          go_enter Tryd.func5, Tryd.ntmps5
          go_wp2
          go_loopw [5, 6] (fun n i wr => ∃ j : Nat, j ≤ 12 ∧ n = .int .u64 (vl s j : Int) ∧ i = .int .i64 ((j : Int) + 2) ∧ wr = w ∧ Hid (digs s j = true)) (fun _ i _ => 14 - (intOf i).toNat)
          case atStart => exact ⟨0, Nat.zero_le _, rfl, rfl, rfl, (rfl : digs s 0 = true)⟩
          case round =>
            obtain ⟨j, hj, rfl, rfl, rfl, HG⟩ := hrel
            by_cases hlt : j < 12
            · have q1 : (j : Int) + 2 < 14 := by omega
              have g1 : ((j : Int) + 2).toNat = j + 2 := by omega
              have g2 : j + 2 < s.size := by omega
              have bj : ((s[j + 2]'g2).toNat : Int) = (bt s (j + 2) : Int) := by rw [bt_at]
              obtain ⟨d, hd⟩ : ∃ d, d = bt s (j + 2) := ⟨_, rfl⟩
              have hd2 : d < 256 := by rw [hd]; exact bt_lt _ _
              rw [← hd] at bj
              by_cases hdg : 48 ≤ d ∧ d ≤ 57
              · have p1 : ¬ (d : Int) < 48 := by omega
                have p2 : ¬ (d : Int) > 57 := by omega
                have HV : Hid (vl s (j + 1) = 10 * vl s j + (d - 48)) := by show _ = _; rw [hd]; rfl
                have HG2 : Hid (digs s (j + 1) = true) := by
                  show _ = _
                  simp only [digs, HG.out, dig, ← hd, Bool.true_and, decide_eq_true_eq]; exact hdg
                have hv := vl_lt s j HG.out
                have hv2 : (10 : Nat) ^ j ≤ 10 ^ 11 := Nat.pow_le_pow_right (by omega) (by omega)
                obtain ⟨v, hvv⟩ : ∃ v, v = vl s j := ⟨_, rfl⟩
                rw [← hvv] at HV hv ⊢
                have hv3 : (v : Int) < 100000000000 := by omega
                have w1 : IntKind.u64.wrap (10 * (v : Int)) = 10 * (v : Int) := IntWalk.u64_in _ (by omega)
                have w2 : IntKind.u8.wrap ((d : Int) - 48) = (d : Int) - 48 := IntWalk.u8_in _ (by omega)
                have w3 : IntKind.u64.wrap ((d : Int) - 48) = (d : Int) - 48 := IntWalk.u64_in _ (by omega)
                have w4 : IntKind.u64.wrap (10 * (v : Int) + ((d : Int) - 48)) = 10 * (v : Int) + ((d : Int) - 48) := IntWalk.u64_in _ (by omega)
                have HE : Hid (10 * (v : Int) + ((d : Int) - 48) = ((10 * v + (d - 48) : Nat) : Int)) := by show _ = _; omega
                clear hv hv2 hvv hd hd2 hdg
                go_wp2
                go_roundw
                case rel =>
                  refine ⟨j + 1, by omega, ?_, by go_num, trivial, HG2⟩
                  rw [HV.out, ← HE.out]
                case measure => simp [intOf]; omega
              · have HD : Hid (numB s = none) := by
                  show _ = _
                  have h2 : ¬ digs s 12 = true := fun e => by
                    have := digs_le s (j + 1) 12 (by omega) e
                    simp only [digs, Bool.and_eq_true, dig, ← hd, decide_eq_true_eq] at this
                    exact hdg this.2
                  unfold numB; simp [h2]
                by_cases p1 : (d : Int) < 48
                · clear hd hd2 hdg
                  go_wp2
                  go_ret3
                  exact ⟨by rw [HD.out]; rfl, rfl⟩
                · have p2 : (d : Int) > 57 := by omega
                  clear hd hd2 hdg
                  go_wp2
                  go_ret3
                  exact ⟨by rw [HD.out]; rfl, rfl⟩
            · have q1 : ¬ (j : Int) + 2 < 14 := by omega
              obtain rfl : j = 12 := by omega
              have HD : Hid (numB s = some (116, vl s 12)) := by
                show _ = _
                unfold numB
                rw [hs, HK.out, HG.out]
                have h2 : bt s 1 = 45 := by omega
                rw [h2]; rfl
              go_wp2
              go_ret3
              exact ⟨by rw [HD.out]; rfl, rfl⟩
      · have h2 : ¬ bt s 0 = 108 ∧ ¬ bt s 0 = 109 ∧ ¬ bt s 0 = 116 := by
          simp [kindOk] at hk; omega
        have c1 : ((s[1]'(by omega)).toNat : Int) = 45 := by rw [b1]; exact h1
        have d1 : ¬ ((s[0]'(by omega)).toNat : Int) = 108 := by rw [b0]; omega
        have d2 : ¬ ((s[0]'(by omega)).toNat : Int) = 109 := by rw [b0]; omega
        have d3 : ¬ ((s[0]'(by omega)).toNat : Int) = 116 := by rw [b0]; omega
        have HD : Hid (numB s = none) := by
          show _ = _
          unfold numB; simp [hk]
        clear b0 b1 hs h1 hk h2
        go_enter Tryd.func5, Tryd.ntmps5
        go_wp2
        all_goals first
          | (go_ret3
             exact ⟨by rw [HD.out]; rfl, rfl⟩)
          | (rename_i hz _ _; exfalso; simp [d1, d2, d3] at hz)
    · have c1 : ¬ ((s[1]'(by omega)).toNat : Int) = 45 := by rw [b1]; exact h1
      have HD : Hid (numB s = none) := by
        show _ = _
        have h2 : ¬ bt s 1 = 45 := by omega
        unfold numB; simp [h2]
      clear b0 b1 hs h1
      go_enter Tryd.func5, Tryd.ntmps5
      go_wp2
      go_ret3
      exact ⟨by rw [HD.out]; rfl, rfl⟩
  · have HD : Hid (numB s = none) := by
      show _ = _
      have h2 : ¬ s.size = 14 := by omega
      unfold numB; simp [h2]
    go_enter Tryd.func5, Tryd.ntmps5
    go_wp2
    go_ret3
    exact ⟨by rw [HD.out]; rfl, rfl⟩
end Nms
end Go.Proofs.YtdbiliigbinmfaaDoor
