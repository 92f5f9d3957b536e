import Derived.Test.YtanpbknjnpmmnaaProg
import Derived.Test.YtanpbknjnpmmnaaSam
import Derived.Test.YtanpbknjnpmmnaaCBackM
import Derived.WalkKit
import Derived.WalkSpells
import Derived.WalkLawsBesides
import Derived.Deep.QuietTactic
import Derived.BigQuiet
import Derived.Laws.IdiomStrings
namespace Go.Proofs.Ytanpbknjnpmmnaa
namespace Cod
open Go.RowKit CMath Byt
set_option linter.unusedVariables false
set_option maxRecDepth 20000

def wrong (i c : Nat) : Bool := decide ((0 < i ∧ c = 0) ∨ (i = 9 ∧ c ≠ 1))

set_option maxHeartbeats 1000000 in
theorem wrong_any (i c : Nat) (w : World) (hi : i ≤ 1000000) (hc : c < 256) :
    Calls Try.prog 61 #[.int .i64 i, .int .u8 c] w fun e w' => e = .returned (.bool (wrong i c)) ∧ w' = w := by
  by_cases h1 : 0 < i
  · by_cases h2 : c = 0
    · subst h2
      have hw : wrong i 0 = true := by simp [wrong, h1]
      rw [hw]
      go_enter Try.func61, Try.ntmps61
      go_wp2
      go_ret
      exact ⟨by simp, rfl⟩
    · have g2 : ((c : Int) == 0) = false := beq_eq_false_iff_ne.2 (by omega)
      by_cases h3 : i = 9
      · subst h3
        have hw : wrong 9 c = ((c : Int) != 1) := by
          rw [Bool.eq_iff_iff]; simp [wrong, h2]; omega
        rw [hw]
        go_enter Try.func61, Try.ntmps61
        go_wp2
        go_ret
        exact ⟨by simp, rfl⟩
      · have g3 : ((i : Int) == 9) = false := beq_eq_false_iff_ne.2 (by omega)
        have hw : wrong i c = false := by simp [wrong, h2, h3]
        rw [hw]
        go_enter Try.func61, Try.ntmps61
        go_wp2
        go_ret
        exact ⟨by simp, rfl⟩
  · have h0 : i = 0 := by omega
    subst h0
    have hw : wrong 0 c = false := by simp [wrong]
    rw [hw]
    go_enter Try.func61, Try.ntmps61
    go_wp2
    go_ret
    exact ⟨by simp, rfl⟩

theorem rd_wrong {c : Nat} {l : List Nat} {k acc : Nat} (h : wrong k c = true) : rd (c :: l) k acc = (0, 0, 21) := by
  simp only [wrong, decide_eq_true_eq] at h
  simp only [rd, if_pos h]
theorem rd_stop {c : Nat} {l : List Nat} {k acc : Nat} (h : wrong k c = false) (hc : c < 128) : rd (c :: l) k acc = (acc + c % 128 * 128 ^ k, k + 1, 0) := by
  simp only [wrong, decide_eq_false_iff_not] at h
  simp only [rd, if_neg h, if_pos hc]
theorem rd_on {c : Nat} {l : List Nat} {k acc : Nat} (h : wrong k c = false) (hc : ¬ c < 128) : rd (c :: l) k acc = rd l (k + 1) (acc + c % 128 * 128 ^ k) := by
  simp only [wrong, decide_eq_false_iff_not] at h
  simp only [rd, if_neg h, if_neg hc]

theorem or_join {acc x k : Nat} (hacc : acc < 128 ^ k) (hx : x < 256) (hk : k ≤ 9) (hw : wrong k x = false) :
    acc + x % 128 * 128 ^ k < 18446744073709551616 ∧ bits .or .u64 (acc : Int) (IntKind.u64.wrap (((x % 128 : Nat) : Int) * 2 ^ (7 * k))) = ((acc + x % 128 * 128 ^ k : Nat) : Int) := by
  have e2 : (2 : Nat) ^ (7 * k) = 128 ^ k := by rw [Nat.pow_mul]
  have hb : x % 128 * 128 ^ k + 128 ^ k ≤ 18446744073709551616 := by
    simp only [wrong, decide_eq_false_iff_not] at hw
    by_cases h9 : k = 9
    · subst h9
      rw [pow9]
      have : x = 1 := by omega
      subst this
      decide
    · have hp : 128 ^ k ≤ 128 ^ 8 := Nat.pow_le_pow_right (by omega) (by omega)
      have h1 : (x % 128 + 1) * 128 ^ k ≤ 128 * 128 ^ 8 := Nat.mul_le_mul (by omega) hp
      rw [Nat.add_mul, Nat.one_mul] at h1
      have : 128 * 128 ^ 8 = 9223372036854775808 := by decide
      omega
  have hpos : 0 < 128 ^ k := Nat.pow_pos (by omega)
  refine ⟨by omega, ?_⟩
  have e1 : IntKind.u64.wrap (((x % 128 : Nat) : Int) * 2 ^ (7 * k)) = ((x % 128 * 128 ^ k : Nat) : Int) := by
    have : (((x % 128 : Nat) : Int) * 2 ^ (7 * k)) = ((x % 128 * 128 ^ k : Nat) : Int) := by
      rw [← e2]; simp
    rw [this, IntKind.wrap_u64]
    omega
  rw [e1, bits_or_u64_nat _ _ (by omega) (by omega)]
  congr 1
  have := Nat.two_pow_add_eq_or_of_lt (i := 7 * k) (b := acc) (by rw [e2]; exact hacc) (x % 128)
  rw [e2] at this
  rw [Nat.or_comm, Nat.mul_comm (x % 128), ← this, Nat.add_comm]
theorem andNot128 {x : Nat} (hx : x < 256) : IntKind.u64.wrap (bits .andNot .u8 (x : Int) 128) = ((x % 128 : Nat) : Int) := by
  have h := u8_andNot_nat x 128 hx (by omega)
  rw [show ((128 : Nat) : Int) = 128 by rfl] at h
  rw [h, show x &&& (255 - 128) = x % 128 from Nat.and_two_pow_sub_one_eq_mod x 7, IntKind.wrap_u64]
  omega
theorem on_pow {acc x k : Nat} (hacc : acc < 128 ^ k) : acc + x % 128 * 128 ^ k < 128 ^ (k + 1) := by
  have : x % 128 * 128 ^ k ≤ 127 * 128 ^ k := Nat.mul_le_mul_right _ (by omega)
  rw [Nat.pow_succ]
  omega

set_option maxHeartbeats 1000000 in
theorem join_any (a : Option Addr) (cap n : Nat) (l : List Nat) (w : World) (ha : IsB w a l) (hlen : l.length ≤ 10) (hn : n = l.length) :
    Calls Try.prog 60 #[.slice a n cap] w fun e w' => e = .returned (.tuple #[.int .u64 (rd l 0 0).1, .int .i64 (rd l 0 0).2.1, .int .i64 (rd l 0 0).2.2]) ∧ w' = w := by
  subst hn
  have HA : Hid (IsB w a l) := ha
  clear ha
  go_enter Try.func60, Try.ntmps60
  go_wp2
  go_loopw [5, 10] (fun v i wr => ∃ k acc : Nat, k ≤ l.length ∧ k ≤ 9 ∧ v = .int .u64 acc ∧ acc < 128 ^ k ∧ i = .int .i64 k ∧ rd l 0 0 = rd (l.drop k) k acc ∧ wr = w) (fun _ i _ => l.length - (intOf i).toNat)
  case atStart => exact ⟨0, 0, Nat.zero_le _, by omega, rfl, by simp, rfl, rfl, rfl⟩
  case round =>
    obtain ⟨k, acc, hk, hk9, rfl, hacc, rfl, hrd, rfl⟩ := hrel
    have HR : Hid (rd l 0 0 = rd (l.drop k) k acc) := hrd
    have HACC : Hid (acc < 128 ^ k) := hacc
    clear hrd hacc
    by_cases hlt : k < l.length
    · have hne : l ≠ [] := by intro e; rw [e] at hlt; simp at hlt
      obtain ⟨b1, o1, rfl, hr1⟩ := HA.out.1 hne
      obtain ⟨x, hx⟩ : ∃ x, l[k]? = some x := ⟨_, List.getElem?_eq_getElem hlt⟩
      have c0 := hr1.2 k _ hx
      have hxb : x < 256 := HA.out.2 x (List.mem_of_getElem? hx)
      have q1 : (k : Int) < (l.length : Int) := by omega
      have HD : Hid (l.drop k = x :: l.drop (k + 1)) := by
        show _ = _
        rw [List.drop_eq_getElem_cons hlt]
        congr 1
        exact (List.getElem?_eq_some_iff.1 hx).2
      clear hx hne hr1
      by_cases hw : wrong k x = true
      · have HW : Hid (rd l 0 0 = (0, 0, 21)) := by
          show _ = _
          rw [HR.out, HD.out, rd_wrong hw]
        go_wp2_with (go_at_call 61; refine (wrong_any k x _ (by omega) hxb).mono ?_; rintro e w' ⟨rfl, hw'⟩; have hw2 := hw'.symm; clear hw'; subst hw2)
        go_ret3
        rw [HW.out]
        exact ⟨rfl, rfl⟩
      · have hw : wrong k x = false := by simpa using hw
        go_wp2_with (go_at_call 61; refine (wrong_any k x _ (by omega) hxb).mono ?_; rintro e w' ⟨rfl, hw'⟩; have hw2 := hw'.symm; clear hw'; subst hw2)
        · have hlt : x < 128 := by omega
          have HS : Hid (rd l 0 0 = (acc + x % 128 * 128 ^ k, k + 1, 0)) := by
            show _ = _
            rw [HR.out, HD.out, rd_stop hw hlt]
          have ho := (or_join HACC.out hxb hk9 hw).2
          rw [← andNot128 hxb] at ho
          go_ret3
          rw [HS.out, ho]
          exact ⟨rfl, rfl⟩
        · have hge : ¬ x < 128 := by omega
          have HS : Hid (rd l 0 0 = rd (l.drop (k + 1)) (k + 1) (acc + x % 128 * 128 ^ k)) := by
            show _ = _
            rw [HR.out, HD.out, rd_on hw hge]
          have h9 : k ≠ 9 := by
            intro e
            subst e
            have h1 : wrong 9 x = true := by simp [wrong]; omega
            rw [h1] at hw
            cases hw
          have ho := (or_join HACC.out hxb hk9 hw).2
          rw [← andNot128 hxb] at ho
          exact ⟨⟨k + 1, acc + x % 128 * 128 ^ k, by omega, by omega, by rw [ho], on_pow HACC.out, by go_num, HS.out, trivial⟩, by simp [intOf]; omega⟩
    · go_wp2
      go_ret3
      have HW : rd l 0 0 = (0, 0, 20) := by
        rw [HR.out, List.drop_eq_nil_of_le (by omega)]
        rfl
      rw [HW]
      exact ⟨rfl, rfl⟩

theorem rd_take10 {l : List Nat} : rd (l.take 10) 0 0 = rd l 0 0 := by
  have key : ∀ (l : List Nat) (i acc m : Nat), i ≤ 9 → 10 - i ≤ m → rd (l.take m) i acc = rd l i acc := by
    intro l
    induction l with
    | nil => intro i acc m _ _; simp
    | cons c l ih =>
      intro i acc m hi hm
      obtain ⟨m', rfl⟩ : ∃ m', m = m' + 1 := ⟨m - 1, by omega⟩
      rw [List.take_succ_cons]
      simp only [rd]
      split
      · rfl
      · rename_i h1
        split
        · rfl
        · rename_i h2
          refine ih (i + 1) _ m' ?_ (by omega)
          rcases Nat.lt_or_ge i 9 with h3 | h3
          · omega
          · exact absurd (Or.inr ⟨by omega, by omega⟩) h1
  exact key l 0 0 10 (by omega) (by omega)

theorem slice_take {w : World} {a : Option Addr} {l : List Nat} (h : IsB w a l) (n : Nat) : IsB w a (l.take n) := h.take n

set_option maxHeartbeats 1000000 in
theorem uint_any (a : Option Addr) (cap n : Nat) (l : List Nat) (w : World) (ha : IsB w a l) (hcap : l.length ≤ cap) (hlen : cap ≤ 9223372036854775807) (hn : n = l.length) :
    Calls Try.prog 58 #[.slice a n cap] w fun e w' => e = .returned (.tuple #[.int .u64 (rd l 0 0).1, .int .i64 (rd l 0 0).2.1, .int .i64 (rd l 0 0).2.2]) ∧ w' = w := by
  subst hn
  rw [← rd_take10]
  have HA : Hid (IsB w a (l.take 10)) := ha.take 10
  clear ha
  by_cases h10 : l.length ≤ 10
  · have e10 : l.take 10 = l := List.take_of_length_le h10
    go_enter Try.func58, Try.ntmps58
    go_wp2_with (go_at_call 60; refine (join_any a _ _ (l.take 10) _ HA.out (by simp; omega) (by rw [e10])).mono ?_; rintro e w' ⟨rfl, hw'⟩; have hw2 := hw'.symm; clear hw'; subst hw2)
    go_ret3
    rw [e10]
    exact ⟨rfl, rfl⟩
  · go_enter Try.func58, Try.ntmps58
    go_wp2_with (go_at_call 60; refine (join_any a _ _ (l.take 10) _ HA.out (by simp; omega) (by simp; omega)).mono ?_; rintro e w' ⟨rfl, hw'⟩; have hw2 := hw'.symm; clear hw'; subst hw2)
    go_ret3
    exact ⟨rfl, rfl⟩

set_option maxHeartbeats 1000000 in
theorem refUint_any (a : Option Addr) (cap n : Nat) (l : List Nat) (w : World) (ha : IsB w a l) (hlen : l.length ≤ 9223372036854775807) (hn : n = l.length) :
    Calls Try.prog 53 #[.slice a n cap] w fun e w' => e = .returned (.tuple #[.int .u64 (rd l 0 0).1, .int .i64 (rd l 0 0).2.1, .int .i64 (rd l 0 0).2.2]) ∧ w' = w := by
  subst hn
  have HA : Hid (IsB w a l) := ha
  clear ha
  go_enter Try.func53, Try.ntmps53
  go_wp2
  go_loopw [5, 6] (fun v i wr => ∃ k acc : Nat, k ≤ l.length ∧ k ≤ 9 ∧ v = .int .u64 acc ∧ acc < 128 ^ k ∧ i = .int .i64 k ∧ rd l 0 0 = rd (l.drop k) k acc ∧ wr = w) (fun _ i _ => l.length - (intOf i).toNat)
  case atStart => exact ⟨0, 0, Nat.zero_le _, by omega, rfl, by simp, rfl, rfl, rfl⟩
  case round =>
    obtain ⟨k, acc, hk, hk9, rfl, hacc, rfl, hrd, rfl⟩ := hrel
    have HR : Hid (rd l 0 0 = rd (l.drop k) k acc) := hrd
    have HACC : Hid (acc < 128 ^ k) := hacc
    clear hrd hacc
    by_cases hlt : k < l.length
    · have hne : l ≠ [] := by intro e; rw [e] at hlt; simp at hlt
      obtain ⟨b1, o1, rfl, hr1⟩ := HA.out.1 hne
      obtain ⟨x, hx⟩ : ∃ x, l[k]? = some x := ⟨_, List.getElem?_eq_getElem hlt⟩
      have c0 := hr1.2 k _ hx
      have hxb : x < 256 := HA.out.2 x (List.mem_of_getElem? hx)
      have q1 : (k : Int) < (l.length : Int) := by omega
      have HD : Hid (l.drop k = x :: l.drop (k + 1)) := by
        show _ = _
        rw [List.drop_eq_getElem_cons hlt]
        congr 1
        exact (List.getElem?_eq_some_iff.1 hx).2
      clear hx hne hr1
      by_cases hw : wrong k x = true
      · have HW : Hid (rd l 0 0 = (0, 0, 21)) := by
          show _ = _
          rw [HR.out, HD.out, rd_wrong hw]
        by_cases h0 : x = 0
        · subst h0
          have hk0 : 0 < k := by
            rcases Nat.eq_zero_or_pos k with e | e
            · subst e; simp [wrong] at hw
            · exact e
          clear hw
          go_wp2
          go_ret3
          rw [HW.out]
          exact ⟨rfl, rfl⟩
        · have hk9' : k = 9 := by simp [wrong, h0] at hw; exact hw.1
          have hx1 : x ≠ 1 := by simp [wrong, h0] at hw; exact hw.2
          subst hk9'
          have g2 : ((x : Int) == 0) = false := beq_eq_false_iff_ne.2 (by omega)
          have g3 : ((x : Int) != 1) = true := by simp; omega
          clear hw
          go_wp2
          go_ret3
          rw [HW.out]
          exact ⟨rfl, rfl⟩
      · have hw : wrong k x = false := by simpa using hw
        have hor := (or_join HACC.out hxb hk9 hw).2
        have HOR : Hid (bits .or .u64 (acc : Int) (IntKind.u64.wrap (((x % 128 : Nat) : Int) * 2 ^ (7 * k))) = ((acc + x % 128 * 128 ^ k : Nat) : Int)) := hor
        clear hor
        have HW : Hid (wrong k x = false) := hw
        have hcase : (k = 0) ∨ (0 < k ∧ k ≠ 9 ∧ ((x : Int) == 0) = false) ∨ (k = 9 ∧ x = 1) := by
          simp [wrong] at hw
          simp
          omega
        clear hw
        have e7 : ((7 * k : Nat) : Int) = 7 * (k : Int) := by omega
        rcases hcase with h | h | h
        · have h0 : k < 1 := by omega
          clear h
          go_wp2
          · have hlt : x < 128 := by omega
            have HS : Hid (rd l 0 0 = (acc + x % 128 * 128 ^ k, k + 1, 0)) := by
              show _ = _
              rw [HR.out, HD.out, rd_stop HW.out hlt]
            go_ret3
            rw [HS.out, ← HOR.out]
            exact ⟨rfl, rfl⟩
          · have hge : ¬ x < 128 := by omega
            have HS : Hid (rd l 0 0 = rd (l.drop (k + 1)) (k + 1) (acc + x % 128 * 128 ^ k)) := by
              show _ = _
              rw [HR.out, HD.out, rd_on HW.out hge]
            have hor := HOR.out
            rw [show ((x % 128 : Nat) : Int) = (x : Int) % 128 by omega] at hor
            exact ⟨⟨k + 1, acc + x % 128 * 128 ^ k, by omega, by omega, by rw [hor], on_pow HACC.out, by go_num, HS.out, trivial⟩, by simp [intOf]; omega⟩
        · obtain ⟨h1, h2, h3⟩ := h
          have h4 : ((k : Int) == 9) = false := beq_eq_false_iff_ne.2 (by omega)
          go_wp2
          · have hlt : x < 128 := by omega
            have HS : Hid (rd l 0 0 = (acc + x % 128 * 128 ^ k, k + 1, 0)) := by
              show _ = _
              rw [HR.out, HD.out, rd_stop HW.out hlt]
            go_ret3
            rw [HS.out, ← HOR.out]
            exact ⟨rfl, rfl⟩
          · have hge : ¬ x < 128 := by omega
            have HS : Hid (rd l 0 0 = rd (l.drop (k + 1)) (k + 1) (acc + x % 128 * 128 ^ k)) := by
              show _ = _
              rw [HR.out, HD.out, rd_on HW.out hge]
            have hor := HOR.out
            rw [show ((x % 128 : Nat) : Int) = (x : Int) % 128 by omega] at hor
            exact ⟨⟨k + 1, acc + x % 128 * 128 ^ k, by omega, by omega, by rw [hor], on_pow HACC.out, by go_num, HS.out, trivial⟩, by simp [intOf]; omega⟩
        · obtain ⟨h1, h2⟩ := h
          have g1 : 8 < k := by omega
          have g2 : ((x : Int) == 0) = false := beq_eq_false_iff_ne.2 (by omega)
          have g3 : ((k : Int) == 9) = true := by simp; omega
          have g4 : ((x : Int) != 1) = false := by simp; omega
          have g5 : x < 128 := by omega
          clear h1 h2
          go_wp2
          have HS : Hid (rd l 0 0 = (acc + x % 128 * 128 ^ k, k + 1, 0)) := by
            show _ = _
            rw [HR.out, HD.out, rd_stop HW.out g5]
          go_ret3
          rw [HS.out, ← HOR.out]
          exact ⟨rfl, rfl⟩
    · go_wp2
      go_ret3
      have HW : rd l 0 0 = (0, 0, 20) := by
        rw [HR.out, List.drop_eq_nil_of_le (by omega)]
        rfl
      rw [HW]
      exact ⟨rfl, rfl⟩

end Cod
end Go.Proofs.Ytanpbknjnpmmnaa
namespace Go.Proofs.Ytanpbknjnpmmnaa
namespace Cod
open Go.RowKit CMath Byt
set_option linter.unusedVariables false
set_option maxRecDepth 20000

/-- What a length measures: the error. -/
def meaErr (l : List Nat) (most : Int) (tail : Nat) : Nat :=
  if (rd l 0 0).2.2 ≠ 0 then (rd l 0 0).2.2
  else if most < ((rd l 0 0).1 : Int) then 22
  else if l.length < (rd l 0 0).2.1 + (rd l 0 0).1 + tail then 20
  else 0

theorem rd_err0 (l : List Nat) {n k f : Nat} (hr : rd l 0 0 = (n, k, f)) (hf : f ≠ 0) : n = 0 ∧ k = 0 ∧ (f = 20 ∨ f = 21) := by
  rcases rd_err l 0 0 with h | h | h
  · rw [hr] at h; exact absurd h hf
  · rw [hr] at h; simp at h; omega
  · rw [hr] at h; simp at h; omega

set_option maxHeartbeats 1000000 in
theorem measured_err (a : Option Addr) (cap n' : Nat) (l : List Nat) (most : Int) (tail : Nat) (w : World) (ha : IsB w a l) (hcap : l.length ≤ cap) (hlen : cap ≤ 9223372036854775807) (hm : -9223372036854775808 ≤ most ∧ most ≤ 9223372036854775807) (ht : tail ≤ 1000) (hn : n' = l.length) (he : meaErr l most tail ≠ 0) :
    Calls Try.prog 59 #[.slice a n' cap, .int .i64 most, .int .i64 tail] w fun e w' => e = .returned (.tuple #[.slice none 0 0, .int .i64 0, .int .i64 (meaErr l most tail)]) ∧ w' = w := by
  subst hn
  have c1 := uint_any a cap l.length l w ha hcap hlen rfl
  have hby := ha.2
  obtain ⟨n, k, f, hr⟩ : ∃ n k f, rd l 0 0 = (n, k, f) := ⟨_, _, _, rfl⟩
  unfold meaErr at he ⊢
  rw [hr] at c1 he ⊢
  simp only [] at c1 he ⊢
  have C1 : Hid (Calls Try.prog 58 #[.slice a l.length cap] w fun e w' => e = .returned (.tuple #[.int .u64 n, .int .i64 k, .int .i64 f]) ∧ w' = w) := c1
  clear c1 ha
  by_cases hf : f = 0
  · subst hf
    obtain ⟨h1, h2, h3⟩ := rd_bytes hby hr
    have h4 := (rd_ok0 hby hr).1
    clear hby hr
    rw [if_neg (by simp)] at he ⊢
    by_cases hmo : most < (n : Int)
    · rw [if_pos hmo]
      clear he
      by_cases hm0 : most < 0
      · go_enter Try.func59, Try.ntmps59
        go_wp2_with (go_at_call 58; refine C1.out.mono ?_; rintro e w' ⟨rfl, hw⟩; have hw2 := hw.symm; clear hw; subst hw2)
        go_ret3
        exact ⟨rfl, rfl⟩
      · go_enter Try.func59, Try.ntmps59
        go_wp2_with (go_at_call 58; refine C1.out.mono ?_; rintro e w' ⟨rfl, hw⟩; have hw2 := hw.symm; clear hw; subst hw2)
        go_ret3
        exact ⟨rfl, rfl⟩
    · rw [if_neg hmo] at he ⊢
      by_cases hsh : l.length < k + n + tail
      · rw [if_pos hsh]
        clear he
        go_enter Try.func59, Try.ntmps59
        go_wp2_with (go_at_call 58; refine C1.out.mono ?_; rintro e w' ⟨rfl, hw⟩; have hw2 := hw.symm; clear hw; subst hw2)
        go_ret3
        exact ⟨rfl, rfl⟩
      · rw [if_neg hsh] at he
        exact absurd rfl he
  · obtain ⟨rfl, rfl, hf2⟩ := rd_err0 l hr hf
    rw [if_pos (by simpa using hf)]
    have g : ((f : Int) != 0) = true := by simp; omega
    clear he hr hby hf2
    go_enter Try.func59, Try.ntmps59
    go_wp2_with (go_at_call 58; refine C1.out.mono ?_; rintro e w' ⟨rfl, hw⟩; have hw2 := hw.symm; clear hw; subst hw2)
    go_ret3
    exact ⟨rfl, rfl⟩

set_option maxHeartbeats 1000000 in
theorem measured_ok (a : Option Addr) (cap n' : Nat) (l : List Nat) (most : Int) (tail : Nat) (w : World) (ha : IsB w a l) (hcap : l.length ≤ cap) (hlen : cap ≤ 9223372036854775807) (hm : -9223372036854775808 ≤ most ∧ most ≤ 9223372036854775807) (ht : tail ≤ 1000) (hn : n' = l.length) (he : meaErr l most tail = 0) :
    Calls Try.prog 59 #[.slice a n' cap, .int .i64 most, .int .i64 tail] w fun e w' => (∃ a', e = .returned (.tuple #[.slice (some a') (rd l 0 0).1 (rd l 0 0).1, .int .i64 (rd l 0 0).2.1, .int .i64 0]) ∧ IsB w (some a') ((l.drop (rd l 0 0).2.1).take (rd l 0 0).1)) ∧ w' = w := by
  subst hn
  have c1 := uint_any a cap l.length l w ha hcap hlen rfl
  have hby := ha.2
  obtain ⟨n, k, f, hr⟩ : ∃ n k f, rd l 0 0 = (n, k, f) := ⟨_, _, _, rfl⟩
  unfold meaErr at he
  rw [hr] at c1 he ⊢
  simp only [] at c1 he ⊢
  have C1 : Hid (Calls Try.prog 58 #[.slice a l.length cap] w fun e w' => e = .returned (.tuple #[.int .u64 n, .int .i64 k, .int .i64 f]) ∧ w' = w) := c1
  clear c1
  have hf : f = 0 := by
    by_cases hf : f = 0
    · exact hf
    · rw [if_pos (by simpa using hf)] at he; exact he
  subst hf
  rw [if_neg (by simp)] at he
  obtain ⟨h1, h2, h3⟩ := rd_bytes hby hr
  have h4 := (rd_ok0 hby hr).1
  have hmo : ¬ most < (n : Int) := by intro h; rw [if_pos h] at he; omega
  rw [if_neg hmo] at he
  have hsh : ¬ l.length < k + n + tail := by intro h; rw [if_pos h] at he; omega
  clear he hr
  obtain ⟨b, off, rfl, hrow⟩ := ha.1 (by intro e; subst e; simp at h2; omega)
  have HROW : Hid (BRow w b off l) := hrow
  have HBY : Hid (∀ x ∈ l, x < 256) := hby
  clear hrow hby ha
  go_enter Try.func59, Try.ntmps59
  go_wp2_with (go_at_call 58; refine C1.out.mono ?_; rintro e w' ⟨rfl, hw⟩; have hw2 := hw.symm; clear hw; subst hw2)
  · obtain rfl : n = 0 := by omega
    go_ret3
    refine ⟨⟨⟨b, off, none⟩, rfl, ?_⟩, rfl⟩
    rw [List.take_zero]
    exact IsB.nil _ _
  · go_ret3
    exact ⟨⟨⟨b, off + k, none⟩, rfl, IsB.some ((HROW.out.drop k).take n) (mem_take (mem_drop HBY.out))⟩, rfl⟩

theorem conv_back (w : World) (a : Addr) (cap n : Nat) (l : List Nat) (h : IsB w (some a) l) (hn : n = l.length) : (convert 24 9 (.slice (some a) n cap)).run Try.prog w = .ok (.string (ofB l)) w := by
  subst hn
  have e : l.length = (l.map UInt8.ofNat).length := by simp
  rw [e]
  refine run_convert_bytes_back (P := Try.prog) w 24 9 5 a cap (l.map UInt8.ofNat) Try.underlying24 Try.underlying5 Try.underlying9 (fun j hj => ?_)
  have hj' : j < l.length := by simpa using hj
  obtain ⟨b, off, e1, hr⟩ := h.1 (by intro e; rw [e] at hj'; simp at hj')
  cases e1
  rw [add_plain', hr.2 j _ (List.getElem?_eq_getElem hj')]
  have := h.2 _ (List.getElem_mem hj')
  simp
  omega

def txt (l : List Nat) (most : Int) : Value := .tuple #[.string (ofB (text l most).1), .int .i64 ((text l most).2.1 : Nat), .int .i64 ((text l most).2.2 : Nat)]

theorem text_mea (l : List Nat) (most : Int) : text l most = if meaErr l most 0 ≠ 0 then ([], 0, meaErr l most 0) else ((l.drop (rd l 0 0).2.1).take (rd l 0 0).1, (rd l 0 0).2.1 + (rd l 0 0).1, 0) := by
  unfold text meaErr
  by_cases h1 : (rd l 0 0).2.2 ≠ 0
  · simp only [if_pos h1]
  · simp only [if_neg h1]
    by_cases h2 : most < ((rd l 0 0).1 : Int)
    · simp [if_pos h2]
    · simp only [if_neg h2, Nat.add_zero]
      by_cases h3 : l.length < (rd l 0 0).2.1 + (rd l 0 0).1
      · simp [if_pos h3]
      · simp [if_neg h3]

set_option maxHeartbeats 1000000 in
theorem text_any (a : Option Addr) (cap n' : Nat) (l : List Nat) (most : Int) (w : World) (ha : IsB w a l) (hcap : l.length ≤ cap) (hlen : cap ≤ 9223372036854775807) (hm : -9223372036854775808 ≤ most ∧ most ≤ 9223372036854775807) (hn : n' = l.length) :
    Calls Try.prog 57 #[.slice a n' cap, .int .i64 most] w fun e w' => e = .returned (txt l most) ∧ w' = w := by
  subst hn
  unfold txt
  rw [text_mea]
  by_cases he : meaErr l most 0 = 0
  · have c1 := measured_ok a l.length l.length l most 0 w ha (Nat.le_refl _) (Nat.le_trans hcap hlen) hm (by omega) rfl he
    have hle : (rd l 0 0).2.1 + (rd l 0 0).1 ≤ l.length := by
      unfold meaErr at he
      split at he
      · omega
      · split at he
        · omega
        · split at he
          · omega
          · omega
    rw [if_neg (by simpa using he)]
    have hlt : ((l.drop (rd l 0 0).2.1).take (rd l 0 0).1).length = (rd l 0 0).1 := by simp; omega
    generalize (l.drop (rd l 0 0).2.1).take (rd l 0 0).1 = body at *
    generalize (rd l 0 0).2.1 = k at *
    generalize (rd l 0 0).1 = n at *
    have C1 : Hid (Calls Try.prog 59 #[.slice a l.length l.length, .int .i64 most, .int .i64 0] w fun e w' => (∃ a', e = .returned (.tuple #[.slice (some a') n n, .int .i64 k, .int .i64 0]) ∧ IsB w (some a') body) ∧ w' = w) := c1
    clear c1 ha he hm
    go_enter Try.func57, Try.ntmps57
    go_wp2_with (go_at_call 59; refine C1.out.mono ?_; rintro e w' ⟨⟨a', rfl, hb⟩, hw⟩; have hw2 := hw.symm; clear hw; subst hw2; have hcv := conv_back w a' n n body hb hlt.symm; clear hb)
    go_ret3
    exact ⟨rfl, rfl⟩
  · have c1 := measured_err a l.length l.length l most 0 w ha (Nat.le_refl _) (Nat.le_trans hcap hlen) hm (by omega) rfl he
    rw [if_pos he]
    generalize meaErr l most 0 = f at *
    have g : ((f : Int) != 0) = true := by simp; omega
    have C1 : Hid (Calls Try.prog 59 #[.slice a l.length l.length, .int .i64 most, .int .i64 0] w fun e w' => e = .returned (.tuple #[.slice none 0 0, .int .i64 0, .int .i64 f]) ∧ w' = w) := c1
    clear c1 ha he hm
    go_enter Try.func57, Try.ntmps57
    go_wp2_with (go_at_call 59; refine C1.out.mono ?_; rintro e w' ⟨rfl, hw⟩; have hw2 := hw.symm; clear hw; subst hw2)
    go_ret3
    exact ⟨rfl, rfl⟩

end Cod
end Go.Proofs.Ytanpbknjnpmmnaa
namespace Go.Proofs.Ytanpbknjnpmmnaa
namespace Cod
open Go.RowKit CMath Byt
set_option linter.unusedVariables false
set_option maxRecDepth 20000


end Cod
end Go.Proofs.Ytanpbknjnpmmnaa
