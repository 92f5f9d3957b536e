import Derived.Test.YtebfokjgeknciabGreatDoorProg
import Derived.Test.YtebfokjgeknciabGreatDoorIRw
import Derived.Test.YtebfokjgeknciabGreatDoorPcR
import Derived.WalkKit
import Derived.WalkSpells
import Derived.WalkLawsBesides
import Derived.Lib.MinMax
import Derived.Deep.QuietTactic
import Derived.BigQuiet
namespace Go.Proofs.YtebfokjgeknciabGreatDoor
namespace Pcm
open Go.RowKit Laws Irw
set_option linter.unusedVariables false
theorem ret_int {k : IntKind} {a b : Int} (h : a = b) : Ending.returned (.int k a) = .returned (.int k b) := by rw [h]

set_option maxHeartbeats 1000000 in
theorem plus_any (a b : Int) (ha : R64 a) (hb : R64 b) (w : World) :
    Calls Tryz.prog 61 #[.int .i64 a, .int .i64 b] w fun e w' => e = .returned (.int .i64 (sadd a b)) ∧ w' = w := by
  have HA : Hid (R64 a) := ha
  have HB : Hid (R64 b) := hb
  clear ha hb
  by_cases h1 : 0 < b
  · by_cases h2 : wrap64 (a + b) < a
    · rw [plus_hi HA.out HB.out h1 h2]
      go_enter Tryz.func61, Tryz.ntmps61
      go_wp2
      go_ret
      exact ⟨rfl, rfl⟩
    · rw [plus_mid HA.out HB.out (by omega) (by omega)]
      go_enter Tryz.func61, Tryz.ntmps61
      go_wp2
      go_ret
      exact ⟨rfl, rfl⟩
  · by_cases h3 : b < 0
    · by_cases h2 : a < wrap64 (a + b)
      · rw [plus_lo HA.out HB.out h3 h2]
        go_enter Tryz.func61, Tryz.ntmps61
        go_wp2
        go_ret
        exact ⟨rfl, rfl⟩
      · rw [plus_mid HA.out HB.out (by omega) (by omega)]
        go_enter Tryz.func61, Tryz.ntmps61
        go_wp2
        go_ret
        exact ⟨rfl, rfl⟩
    · rw [plus_mid HA.out HB.out (by omega) (by omega)]
      go_enter Tryz.func61, Tryz.ntmps61
      go_wp2
      go_ret
      exact ⟨rfl, rfl⟩

theorem mul_in {a b : Int} (h : R64 (a * b)) : wrap64 (a * b) = smul a b := by rw [wrap_in h]; exact (sat_in h).symm
theorem mul_hi {a b : Int} (h : ¬ R64 (a * b)) (hs : (decide (a < 0) == decide (b < 0)) = true) : smul a b = 9223372036854775807 := by
  have h0 : 0 ≤ a * b := by
    by_cases ha : a < 0
    · have hb : b < 0 := by by_cases hb : b < 0 <;> simp_all
      exact Int.le_of_lt (Int.mul_pos_of_neg_of_neg ha hb)
    · have hb : ¬ b < 0 := by by_cases hb : b < 0 <;> simp_all
      exact Int.mul_nonneg (by omega) (by omega)
  unfold R64 at h
  unfold smul sat
  split <;> (try split) <;> omega
theorem mul_lo {a b : Int} (h : ¬ R64 (a * b)) (hs : (decide (a < 0) == decide (b < 0)) = false) : smul a b = -9223372036854775808 := by
  have h0 : a * b ≤ 0 := by
    by_cases ha : a < 0
    · have hb : ¬ b < 0 := by by_cases hb : b < 0 <;> simp_all
      exact Int.mul_nonpos_of_nonpos_of_nonneg (by omega) (by omega)
    · have hb : b < 0 := by by_cases hb : b < 0 <;> simp_all
      exact Int.mul_nonpos_of_nonneg_of_nonpos (by omega) (by omega)
  unfold R64 at h
  unfold smul sat
  split <;> (try split) <;> omega
set_option maxHeartbeats 1000000 in
theorem times_any (a b : Int) (ha : R64 a) (hb : R64 b) (w : World) :
    Calls Tryz.prog 131 #[.int .i64 a, .int .i64 b] w fun e w' => e = .returned (.int .i64 (smul a b)) ∧ w' = w := by
  have HA : Hid (R64 a) := ha
  have HB : Hid (R64 b) := hb
  clear ha hb
  by_cases h0 : a = 0
  · subst h0
    go_enter Tryz.func131, Tryz.ntmps131
    go_wp2
    go_ret
    refine ⟨ret_int ?_, rfl⟩
    unfold smul
    rw [Int.zero_mul]; rfl
  · go_enter Tryz.func131, Tryz.ntmps131
    go_wp2
    · rename_i h1 h2 h3
      go_ret
      refine ⟨ret_int ?_, rfl⟩
      have hR := back_out HA.out HB.out h0 (by rintro ⟨_, e⟩; rw [e] at h3; simp at h3) h1
      have := mul_in hR
      rw [h2] at this ⊢
      rw [← this]
      congr 1
      omega
    · rename_i h1 h2 h3 h4
      go_ret
      refine ⟨ret_int ?_, rfl⟩
      have e : b = -9223372036854775808 := by simpa using h3
      rw [h2, e]; rfl
    · rename_i h1 h2 h3 h4
      have e : b = -9223372036854775808 := by simpa using h3
      omega
    · rename_i h1 h2
      go_ret
      refine ⟨ret_int ?_, rfl⟩
      exact mul_in (back_out HA.out HB.out h0 (by rintro ⟨e, _⟩; exact h2 e) h1)
    · rename_i h1 h2
      simp [h0] at h2
    · rename_i h1 h2 h3
      go_ret
      refine ⟨ret_int ?_, rfl⟩
      exact (mul_hi (fun hR => h1 (back_in HA.out HB.out h0 hR)) h3).symm
    · rename_i h1 h2 h3
      go_ret
      refine ⟨ret_int ?_, rfl⟩
      exact (mul_lo (fun hR => h1 (back_in HA.out HB.out h0 hR)) h3).symm

theorem counted_any (a : Int) (w : World) : Calls Tryz.prog 23 #[.int .i64 a] w fun e w' => e = .returned (.int .i64 (max a 0)) ∧ w' = w := by
  go_enter Tryz.func23, Tryz.ntmps23
  go_wp2
  go_ret
  exact ⟨rfl, rfl⟩

set_option maxHeartbeats 1000000 in
theorem sum_any (b off n c : Nat) (l : List Int) (w : World) (h : IRow w b off l) (hn : n = l.length) (hlen : l.length ≤ 1000) (hr : ∀ x ∈ l, R64 x) :
    Calls Tryz.prog 130 #[.slice (some ⟨b, off, none⟩) n c] w fun e w' => e = .returned (.int .i64 (ssum l)) ∧ w' = w := by
  subst hn
  have HR : Hid (IRow w b off l) := h
  have HL : Hid (∀ x ∈ l, R64 x) := hr
  clear h hr
  go_enter Tryz.func130, Tryz.ntmps130
  go_wp2
  go_loop [3, 8] (fun s i => ∃ k : Nat, k ≤ l.length ∧ i = .int .i64 k ∧ s = .int .i64 (ssum (l.take k))) (fun _ i => l.length - (intOf i).toNat)
  case atStart => exact ⟨0, Nat.zero_le _, rfl, rfl⟩
  case round =>
    obtain ⟨k, hk, rfl, rfl⟩ := hrel
    by_cases hlt : k < l.length
    · obtain ⟨x, hx⟩ : ∃ x, l[k]? = some x := ⟨_, List.getElem?_eq_getElem hlt⟩
      have c0 := HR.out.2 k x hx
      have HS : Hid (ssum (l.take (k + 1)) = sadd (ssum (l.take k)) x) := ssum_take hx
      have HX : Hid (R64 x) := HL.out x (List.mem_of_getElem? hx)
      have HT : Hid (R64 (ssum (l.take k))) := ssum_r _
      clear hx
      generalize ssum (l.take k) = S at *
      have q1 : (k : Int) < (l.length : Int) := by omega
      go_wp2_with (go_at_call 61; refine (plus_any S x HT.out HX.out w).mono ?_; rintro e w' ⟨rfl, rfl⟩)
      go_round
      case rel => exact ⟨k + 1, by omega, by go_num, by rw [HS.out]⟩
      case measure => simp [intOf]; omega
    · go_wp2
      go_ret
      exact ⟨ret_int (by rw [List.take_of_length_le (by omega)]), rfl⟩

end Pcm
end Go.Proofs.YtebfokjgeknciabGreatDoor
