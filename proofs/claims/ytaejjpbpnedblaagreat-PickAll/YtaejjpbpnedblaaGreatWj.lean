import Derived.Test.YtaejjpbpnedblaaGreatWi
namespace Go.Proofs.YtaejjpbpnedblaaGreat
namespace Vr
open Go.Shelf Go.RowKit Go.Lib Go.Sort Go.Maps Go.ChangeMaps Go.MapKept Laws Irw Crw
set_option linter.unusedVariables false
set_option linter.unusedSimpArgs false
set_option maxRecDepth 20000
def tin (l : List Tb) (n : Nat) : Bool := decide (n ∈ l.map Tb.no)
set_option maxHeartbeats 1000000 in
theorem in_any (a : Option Addr) (c : Nat) (l : List Tb) (n : Nat) (w : World) (h : Ls kTb w (a, l.length, c) l) (hlen : l.length ≤ 1000000) :
    Calls Tryz.prog 63 #[.slice a l.length c, .int .u64 (n : Int)] w fun e w' => e = .returned (.bool (tin l n)) ∧ w' = w := by
  have HL : Hid (Ls kTb w (a, l.length, c) l) := h
  clear h
  go_enter Tryz.func63, Tryz.ntmps63
  go_wp2
  go_loopw [5] (fun i wr => ∃ k : Nat, k ≤ l.length ∧ i = .int .i64 (k : Int) ∧ wr = w ∧ Hid (n ∉ (l.take k).map Tb.no)) (fun i _ => l.length - (intOf i).toNat)
  case atStart => exact ⟨0, Nat.zero_le _, rfl, rfl, (by simp : n ∉ (l.take 0).map Tb.no)⟩
  case round =>
    obtain ⟨k, hk, rfl, rfl, HX⟩ := hrel
    by_cases hlt : k < l.length
    · obtain ⟨b, off, rfl, hb, t, ht, y0, y1, y2, y3, y4, y5⟩ := HL.out.tb hlt
      have q1 : (k : Int) < (l.length : Int) := by omega
      have HF : Hid ((l.take (k + 1)).map Tb.no = (l.take k).map Tb.no ++ [t.no]) := by
        show _ = _
        rw [List.take_add_one, ht]; simp
      have HM : Hid (t ∈ l) := List.mem_of_getElem? ht
      clear ht
      by_cases he : t.no = n
      · have q2 : (t.no : Int) = (n : Int) := by omega
        have HD : Hid (tin l n = true) := by
          show _ = _
          unfold tin
          rw [decide_eq_true_eq, ← he]
          exact List.mem_map_of_mem HM.out
        clear he
        go_wp2
        go_ret
        exact ⟨by rw [HD.out]; rfl, rfl⟩
      · have q2 : ¬ (t.no : Int) = (n : Int) := by omega
        go_wp2
        go_roundw
        case rel =>
          refine ⟨k + 1, by omega, by go_num, trivial, ?_⟩
          show n ∉ _
          rw [HF.out]
          simp only [List.mem_append, List.mem_singleton, not_or]
          exact ⟨HX.out, fun e => he e.symm⟩
        case measure => simp [intOf]; omega
    · have q1 : ¬ (k : Int) < (l.length : Int) := by omega
      have HD : Hid (tin l n = false) := by
        show _ = _
        unfold tin
        rw [decide_eq_false_iff_not]
        have := HX.out
        rw [List.take_of_length_le (by omega)] at this
        exact this
      go_wp2
      go_ret
      exact ⟨by rw [HD.out]; rfl, rfl⟩
/-- a number brought among n -/
def plc (a n : Int) : Int := (if a < 0 then -(a + 1) else a) % n
theorem plc_lt (a : Int) {n : Int} (hn : 0 < n) : 0 ≤ plc a n ∧ plc a n < n := by
  unfold plc
  exact ⟨Int.emod_nonneg _ (by omega), Int.emod_lt_of_pos _ hn⟩
set_option maxHeartbeats 400000 in
theorem place_any (a n : Int) (w : World) (ha : -9223372036854775808 ≤ a ∧ a ≤ 9223372036854775807) (hn : 1 ≤ n ∧ n ≤ 9223372036854775807) : Calls Tryz.prog 25 #[.int .i64 a, .int .i64 n] w fun e w' => e = .returned (.int .i64 (plc a n)) ∧ w' = w := by
  have hb := plc_lt a (show 0 < n by omega)
  have q9 : n ≠ 0 := by omega
  have q7 : ¬ n = -1 := by omega
  by_cases h : a < 0
  · have w1 : IntKind.i64.wrap (a + 1) = a + 1 := IntWalk.i64_in _ (by omega)
    have w2 : IntKind.i64.wrap (-(a + 1)) = -(a + 1) := IntWalk.i64_in _ (by omega)
    have e1 : (-(a + 1)).tmod n = plc a n := by unfold plc; rw [if_pos h]; exact Int.tmod_eq_emod_of_nonneg (by omega)
    have w3 : IntKind.i64.wrap (plc a n) = plc a n := IntWalk.i64_in _ (by omega)
    go_enter Tryz.func25, Tryz.ntmps25
    go_wp2
    go_ret
    exact ⟨by simp [e1, w3], rfl⟩
  · have e1 : a.tmod n = plc a n := by unfold plc; rw [if_neg h]; exact Int.tmod_eq_emod_of_nonneg (by omega)
    have w3 : IntKind.i64.wrap (plc a n) = plc a n := IntWalk.i64_in _ (by omega)
    go_enter Tryz.func25, Tryz.ntmps25
    go_wp2
    go_ret
    exact ⟨by simp [e1, w3], rfl⟩
/-! the counter -/
set_option maxHeartbeats 400000 in
theorem many_any (n : Int) (w : World) : Calls Tryz.prog 21 #[.int .i64 n] w fun e w' => e = .returned (.pointer (some ⟨w.heap.size, 0, none⟩)) ∧ Zb w' w.heap.size [.int .i64 n] ∧ RowKit.Below w.heap.size w w' := by
  go_enter Tryz.func21, Tryz.ntmps21
  go_wp2
  go_ret
  exact ⟨rfl, Zb.new w #[.int .i64 n] 110, (Below.refl _ _).alloc (Nat.le_refl _) _⟩
def cnt (m k : Int) : Int := if 0 ≤ m then m - k else m
set_option maxHeartbeats 400000 in
theorem add_any (b : Nat) (m k : Int) (w : World) (h : Zb w b [.int .i64 m]) (hm : -9000000000000000000 ≤ m - k ∧ m ≤ 10000) (hk : 0 ≤ k) : Calls Tryz.prog 22 #[.pointer (some ⟨b, 0, none⟩), .int .i64 k] w fun e w' => e = .returned (.bool (decide (0 ≤ cnt m k))) ∧ w'.heap.size = w.heap.size ∧ Zb w' b [.int .i64 (cnt m k)] ∧ ∀ c w0, c ≤ b → RowKit.Below c w0 w → RowKit.Below c w0 w' := by
  have c0 := h.2.1 0 _ rfl
  have f0 := h.2.2 0
  have HZ : Hid (Zb w b [.int .i64 m]) := h
  clear h
  by_cases h0 : 0 ≤ m
  · have w1 : IntKind.i64.wrap (m - k) = m - k := IntWalk.i64_in _ (by omega)
    have e1 : cnt m k = m - k := by unfold cnt; rw [if_pos h0]
    rw [e1]
    have HE : Hid (Zb (w.setCell ⟨b, 0, none⟩ (.int .i64 (m - k))) b [.int .i64 (m - k)]) := HZ.out.set 0 _
    go_enter Tryz.func22, Tryz.ntmps22
    go_wp2
    go_ret
    exact ⟨by simp, by simp, HE.out, fun c w0 hc hb => hb.setCell (p := ⟨b, 0, none⟩) hc _⟩
  · have e1 : cnt m k = m := by unfold cnt; rw [if_neg h0]
    rw [e1]
    have q1 : ¬ m ≥ 0 := h0
    go_enter Tryz.func22, Tryz.ntmps22
    go_wp2
    go_ret
    exact ⟨by simp [h0], rfl, HZ.out, fun c w0 hc hb => hb⟩
set_option maxHeartbeats 400000 in
theorem ok_any (b : Nat) (m : Int) (w : World) (h : Zb w b [.int .i64 m]) : Calls Tryz.prog 23 #[.pointer (some ⟨b, 0, none⟩)] w fun e w' => e = .returned (.bool (decide (0 ≤ m))) ∧ w' = w := by
  have c0 := h.2.1 0 _ rfl
  clear h
  go_enter Tryz.func23, Tryz.ntmps23
  go_wp2
  go_ret
  exact ⟨rfl, rfl⟩
end Vr
end Go.Proofs.YtaejjpbpnedblaaGreat
