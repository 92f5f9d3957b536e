import Derived.Test.YtdbiliigbinmfaaDoorNm6
namespace Go.Proofs.YtdbiliigbinmfaaDoor
namespace Nms
open Go.RowKit Go.Sort CMath Byt Cod Laws
set_option linter.unusedVariables false
set_option linter.unusedSimpArgs false
set_option maxRecDepth 20000
theorem tl_snoc (i n : Nat) : tl (i + 1) n = tl i (n / 10) ++ [48 + n % 10] := by
  induction i with
  | zero => simp [tl]
  | succ i ih =>
    show (48 + n / 10 ^ (i + 1) % 10) :: tl (i + 1) n = (48 + n / 10 / 10 ^ i % 10) :: tl i (n / 10) ++ [48 + n % 10]
    rw [ih, Nat.pow_succ', ← Nat.div_div_eq_div_mul]
    rfl
theorem tl_zero (i : Nat) : tl i 0 = List.replicate i 48 := by
  induction i with
  | zero => rfl
  | succ i ih => simp [tl, ih, List.replicate_succ]
theorem nDig_le (u : Nat) : ∀ i, 1 ≤ i → u < 10 ^ i → Lib.nDigits u ≤ i := by
  induction u using Nat.strongRecOn with
  | _ u ih =>
    intro i hi hu
    rw [Lib.nDigits]
    split
    · exact hi
    · rename_i h
      match i, hu with
      | i + 1, hu =>
        by_cases hz : i = 0
        · subst hz; simp at hu; omega
        · have := ih (u / 10) (by omega) i (by omega) (by rw [Nat.pow_succ] at hu; omega)
          omega
theorem pad_is (u : Nat) : ∀ i, 1 ≤ i → u < 10 ^ i → (tl i u).map UInt8.ofNat = List.replicate (i - Lib.nDigits u) 48 ++ Lib.decDigits u := by
  induction u using Nat.strongRecOn with
  | _ u ih =>
    intro i hi hu
    match i, hi, hu with
    | i + 1, hi, hu =>
      rw [tl_snoc, Lib.nDigits, Lib.decDigits]
      split
      · rename_i h
        have e1 : u / 10 = 0 := by omega
        have e2 : u % 10 = u := by omega
        rw [e1, e2, tl_zero]
        simp
      · rename_i h
        have hz : 1 ≤ i := by
          rcases Nat.eq_zero_or_pos i with e | e
          · subst e; simp at hu; omega
          · exact e
        have := ih (u / 10) (by omega) i hz (by rw [Nat.pow_succ] at hu; omega)
        rw [List.map_append, this]
        simp
theorem isKind_any (k : Nat) (hk : k < 256) (w : World) : Calls Tryd.prog 16 #[.int .u8 (k : Int)] w fun e w' => e = .returned (.bool (kindOk k)) ∧ w' = w := by
  by_cases h1 : k = 108
  · subst h1
    go_enter Tryd.func16, Tryd.ntmps16
    go_wp2
    go_ret
    exact ⟨rfl, rfl⟩
  · by_cases h2 : k = 109
    · subst h2
      go_enter Tryd.func16, Tryd.ntmps16
      go_wp2
      go_ret
      exact ⟨rfl, rfl⟩
    · have e1 : ¬ (k : Int) = 108 := by omega
      have e2 : ¬ (k : Int) = 109 := by omega
      by_cases h3 : k = 116
      · subst h3
        go_enter Tryd.func16, Tryd.ntmps16
        go_wp2
        go_ret
        exact ⟨rfl, rfl⟩
      · have e3 : ¬ (k : Int) = 116 := by omega
        have HD : Hid (kindOk k = false) := by show _ = _; simp [kindOk, h1, h2, h3]
        go_enter Tryd.func16, Tryd.ntmps16
        go_wp2
        go_ret
        exact ⟨by rw [HD.out]; simp [e1, e2, e3], rfl⟩
end Nms
end Go.Proofs.YtdbiliigbinmfaaDoor
