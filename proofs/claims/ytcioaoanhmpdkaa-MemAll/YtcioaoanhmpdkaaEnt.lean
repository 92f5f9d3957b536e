import Derived.WalkKit
import Derived.Test.YtcioaoanhmpdkaaProg
import Derived.WalkSpells
import Derived.WalkLawsBesides
import Derived.Deep.QuietTactic
import Derived.BigQuiet
import Derived.Lib.Strings
import Derived.Deep.RegionWith
namespace Go.Proofs.Ytcioaoanhmpdkaa
namespace KMath

/-- The order of texts, byte by byte. -/
theorem bl_irrefl (a : List UInt8) : Op.bytesLess a a = false := by
  induction a with
  | nil => rfl
  | cons x a ih => simp [Op.bytesLess, ih]

theorem bl_asymm (a b : List UInt8) (h : Op.bytesLess a b = true) : Op.bytesLess b a = false := by
  induction a generalizing b with
  | nil => cases b <;> simp [Op.bytesLess] at *
  | cons x a ih =>
    cases b with
    | nil => simp [Op.bytesLess] at h
    | cons y b =>
      simp only [Op.bytesLess, Bool.or_eq_true, decide_eq_true_eq, Bool.and_eq_true, beq_iff_eq] at h
      simp only [Op.bytesLess, Bool.or_eq_false_iff, decide_eq_false_iff_not, Bool.and_eq_false_iff, beq_eq_false_iff_ne]
      rcases h with h | ⟨rfl, h⟩
      · refine ⟨fun h' => ?_, Or.inl fun e => ?_⟩
        · rw [UInt8.lt_iff_toNat_lt] at h h'; omega
        · subst e; rw [UInt8.lt_iff_toNat_lt] at h; omega
      · exact ⟨fun h' => by rw [UInt8.lt_iff_toNat_lt] at h'; omega, Or.inr (ih b h)⟩

theorem bl_tri (a b : List UInt8) (h : Op.bytesLess a b = false) (h' : Op.bytesLess b a = false) : a = b := by
  induction a generalizing b with
  | nil => cases b with
    | nil => rfl
    | cons y b => simp [Op.bytesLess] at h
  | cons x a ih =>
    cases b with
    | nil => simp [Op.bytesLess] at h'
    | cons y b =>
      simp only [Op.bytesLess, Bool.or_eq_false_iff, decide_eq_false_iff_not, Bool.and_eq_false_iff, beq_eq_false_iff_ne] at h h'
      have e : x = y := by
        rw [UInt8.lt_iff_toNat_lt] at h h'
        exact UInt8.toNat_inj.1 (by omega)
      subst e
      rw [ih b (by simpa using h.2) (by simpa using h'.2)]

theorem bl_trans (a b c : List UInt8) (h : Op.bytesLess a b = true) (h' : Op.bytesLess b c = true) : Op.bytesLess a c = true := by
  induction a generalizing b c with
  | nil =>
    cases c with
    | nil => cases b <;> simp [Op.bytesLess] at *
    | cons z c => simp [Op.bytesLess]
  | cons x a ih =>
    cases b with
    | nil => simp [Op.bytesLess] at h
    | cons y b =>
      cases c with
      | nil => simp [Op.bytesLess] at h'
      | cons z c =>
        simp only [Op.bytesLess, Bool.or_eq_true, decide_eq_true_eq, Bool.and_eq_true, beq_iff_eq, UInt8.lt_iff_toNat_lt] at *
        rcases h with h | ⟨rfl, h⟩ <;> rcases h' with h' | ⟨rfl, h'⟩
        · exact Or.inl (by omega)
        · exact Or.inl h
        · exact Or.inl h'
        · exact Or.inr ⟨rfl, ih b c h h'⟩

theorem bl_drop_eq (a b : List UInt8) (k : Nat) (ha : k < a.length) (hb : k < b.length) (h : a[k] = b[k]) :
    Op.bytesLess (a.drop k) (b.drop k) = Op.bytesLess (a.drop (k + 1)) (b.drop (k + 1)) := by
  rw [List.drop_eq_getElem_cons ha, List.drop_eq_getElem_cons hb]
  simp [Op.bytesLess, h]

theorem bl_drop_ne (a b : List UInt8) (k : Nat) (ha : k < a.length) (hb : k < b.length) (h : a[k] ≠ b[k]) :
    Op.bytesLess (a.drop k) (b.drop k) = decide (a[k] < b[k]) := by
  rw [List.drop_eq_getElem_cons ha, List.drop_eq_getElem_cons hb]
  simp [Op.bytesLess, h]

theorem bl_drop_end (a b : List UInt8) (k : Nat) (hka : k ≤ a.length) (hkb : k ≤ b.length) (h : ¬ (k < a.length ∧ k < b.length)) :
    Op.bytesLess (a.drop k) (b.drop k) = decide (a.length < b.length) := by
  by_cases ha : k < a.length
  · have hb : b.length ≤ k := by omega
    rw [List.drop_of_length_le hb]
    have : ¬ a.length < b.length := by omega
    simp [Op.bytesLess, this]
  · rw [List.drop_of_length_le (show a.length ≤ k by omega)]
    by_cases hb : k < b.length
    · rw [List.drop_eq_getElem_cons hb]
      have : a.length < b.length := by omega
      simp [Op.bytesLess, this]
    · rw [List.drop_of_length_le (show b.length ≤ k by omega)]
      have : ¬ a.length < b.length := by omega
      simp [Op.bytesLess, this]

/-- The order of two texts, and of two numbers. -/
def cmpS (a b : ByteArray) : Int := if Op.bytesLess a.toList b.toList then -1 else if Op.bytesLess b.toList a.toList then 1 else 0
def cmpN (m n : Int) : Int := if m < n then -1 else if n < m then 1 else 0

/-- The order of two entries, of their keys and numbers (P1.3). -/
def cmpE (a b : ByteArray) (m n : Int) : Int := if cmpS a b = 0 then cmpN n m else cmpS a b

theorem cmpS_lt {a b : ByteArray} (h : Op.bytesLess a.toList b.toList = true) : cmpS a b = -1 := by simp [cmpS, h]
theorem cmpS_gt {a b : ByteArray} (h : Op.bytesLess b.toList a.toList = true) : cmpS a b = 1 := by simp [cmpS, h, bl_asymm _ _ h]
theorem cmpS_eq {a b : ByteArray} (h : Op.bytesLess a.toList b.toList = false) (h' : Op.bytesLess b.toList a.toList = false) : cmpS a b = 0 := by simp [cmpS, h, h']
theorem cmpS_self (a : ByteArray) : cmpS a a = 0 := by simp [cmpS, bl_irrefl]
theorem cmpN_self (m : Int) : cmpN m m = 0 := by simp [cmpN]
theorem cmpE_self (a : ByteArray) (m : Int) : cmpE a a m m = 0 := by simp [cmpE, cmpS_self, cmpN_self]
theorem cmpE_ne {a b : ByteArray} {m n : Int} (h : cmpS a b ≠ 0) : cmpE a b m n = cmpS a b := by simp [cmpE, h]
theorem cmpE_eq {a b : ByteArray} {m n : Int} (h : cmpS a b = 0) : cmpE a b m n = cmpN n m := by simp [cmpE, h]

theorem cmpS_cases (a b : ByteArray) : (Op.bytesLess a.toList b.toList = true ∧ cmpS a b = -1) ∨ (a.toList = b.toList ∧ cmpS a b = 0) ∨ (Op.bytesLess b.toList a.toList = true ∧ cmpS a b = 1) := by
  cases h1 : Op.bytesLess a.toList b.toList
  · cases h2 : Op.bytesLess b.toList a.toList
    · exact .inr (.inl ⟨bl_tri _ _ h1 h2, cmpS_eq h1 h2⟩)
    · exact .inr (.inr ⟨rfl, cmpS_gt h2⟩)
  · exact .inl ⟨rfl, cmpS_lt h1⟩

theorem cmpE_range (a b : ByteArray) (m n : Int) : -1 ≤ cmpE a b m n ∧ cmpE a b m n ≤ 1 := by
  unfold cmpE cmpN
  rcases cmpS_cases a b with ⟨_, h⟩ | ⟨_, h⟩ | ⟨_, h⟩ <;> rw [h] <;> (try split) <;> (try split) <;> omega

theorem cmpE_neg (a b : ByteArray) (m n : Int) : cmpE b a n m = - cmpE a b m n := by
  unfold cmpE
  rcases cmpS_cases a b with ⟨h', h⟩ | ⟨h', h⟩ | ⟨h', h⟩
  · rw [h, cmpS_gt h']; rfl
  · have h2 : cmpS b a = 0 := by unfold cmpS; rw [h', bl_irrefl]; rfl
    rw [h, h2]
    unfold cmpN
    simp only [if_true]
    split <;> (try split) <;> (try split) <;> omega
  · rw [h, cmpS_lt h']; rfl

theorem cmpE_zero_iff (a b : ByteArray) (m n : Int) : cmpE a b m n = 0 ↔ a.toList = b.toList ∧ m = n := by
  unfold cmpE
  rcases cmpS_cases a b with ⟨h', h⟩ | ⟨h', h⟩ | ⟨h', h⟩
  · rw [h]
    refine ⟨fun e => by simp at e, fun ⟨e, _⟩ => ?_⟩
    rw [e, bl_irrefl] at h'; cases h'
  · rw [h]
    unfold cmpN
    simp only [if_true]
    constructor
    · intro e; exact ⟨h', by split at e <;> (try split at e) <;> omega⟩
    · rintro ⟨_, rfl⟩; simp
  · rw [h]
    refine ⟨fun e => by simp at e, fun ⟨e, _⟩ => ?_⟩
    rw [e, bl_irrefl] at h'; cases h'

theorem cmpE_trans (k1 k2 k3 : ByteArray) (s1 s2 s3 : Int) :
    (cmpE k1 k2 s1 s2 ≤ 0 → cmpE k2 k3 s2 s3 ≤ 0 → cmpE k1 k3 s1 s3 ≤ 0) ∧ (0 ≤ cmpE k1 k2 s1 s2 → 0 ≤ cmpE k2 k3 s2 s3 → 0 ≤ cmpE k1 k3 s1 s3) ∧
    (cmpE k1 k2 s1 s2 = 0 → cmpE k2 k3 s2 s3 = 0 → cmpE k1 k3 s1 s3 = 0) ∧ (cmpE k1 k2 s1 s2 < 0 → cmpE k2 k3 s2 s3 ≤ 0 → cmpE k1 k3 s1 s3 < 0) := by
  unfold cmpE
  rcases cmpS_cases k1 k2 with ⟨h1, e1⟩ | ⟨h1, e1⟩ | ⟨h1, e1⟩ <;> rcases cmpS_cases k2 k3 with ⟨h2, e2⟩ | ⟨h2, e2⟩ | ⟨h2, e2⟩
  · have e3 : cmpS k1 k3 = -1 := cmpS_lt (bl_trans _ _ _ h1 h2)
    rw [e1, e2, e3]; simp
  · have e3 : cmpS k1 k3 = -1 := cmpS_lt (by rw [← h2]; exact h1)
    rw [e1, e2, e3]; simp
  · rw [e1, e2]; simp
  · have e3 : cmpS k1 k3 = -1 := cmpS_lt (by rw [h1]; exact h2)
    rw [e1, e2, e3]; simp
  · have e3 : cmpS k1 k3 = 0 := by unfold cmpS; rw [h1, h2, bl_irrefl]; rfl
    rw [e1, e2, e3]
    unfold cmpN
    simp only [if_true]
    refine ⟨?_, ?_, ?_, ?_⟩ <;> (repeat' split) <;> omega
  · have e3 : cmpS k1 k3 = 1 := cmpS_gt (by rw [h1]; exact h2)
    rw [e1, e2, e3]; simp
  · rw [e1, e2]; simp
  · have e3 : cmpS k1 k3 = 1 := cmpS_gt (by rw [← h2]; exact h1)
    rw [e1, e2, e3]; simp
  · have e3 : cmpS k1 k3 = 1 := cmpS_gt (bl_trans _ _ _ h2 h1)
    rw [e1, e2, e3]; simp

end KMath
end Go.Proofs.Ytcioaoanhmpdkaa
namespace Go.Proofs.Ytcioaoanhmpdkaa
namespace Cmp
open Go.RowKit KMath
set_option linter.unusedVariables false

theorem ret_bool {a b : Bool} (h : a = b) : Ending.returned (.bool a) = .returned (.bool b) := by rw [h]

theorem step_ne (a b : ByteArray) (k : Nat) (h1 : k < a.size) (h2 : k < b.size) (h : ((a[k].toNat : Int) != (b[k].toNat : Int)) = true) :
    Op.bytesLess (a.data.toList.drop k) (b.data.toList.drop k) = decide (a[k].toNat < b[k].toNat) := by
  have e1 : a.data.toList[k]'(by simpa using h1) = a[k] := by simp; rfl
  have e2 : b.data.toList[k]'(by simpa using h2) = b[k] := by simp; rfl
  rw [bl_drop_ne _ _ k (by simpa using h1) (by simpa using h2) (by
    rw [e1, e2]
    intro e
    rw [e] at h
    simp at h), e1, e2]
  simp [UInt8.lt_iff_toNat_lt]

theorem step_eq (a b : ByteArray) (k : Nat) (h1 : k < a.size) (h2 : k < b.size) (h : ((a[k].toNat : Int) != (b[k].toNat : Int)) = false) :
    Op.bytesLess (a.data.toList.drop k) (b.data.toList.drop k) = Op.bytesLess (a.data.toList.drop (k + 1)) (b.data.toList.drop (k + 1)) := by
  have e1 : a.data.toList[k]'(by simpa using h1) = a[k] := by simp; rfl
  have e2 : b.data.toList[k]'(by simpa using h2) = b[k] := by simp; rfl
  refine bl_drop_eq _ _ k (by simpa using h1) (by simpa using h2) ?_
  rw [e1, e2]
  simp at h
  exact UInt8.toNat_inj.1 (by omega)

set_option maxHeartbeats 400000 in
theorem nanS_any (a : ByteArray) (w : World) :
    Calls Try.prog 104 #[.string a] w fun e w' => e = .returned (.bool false) ∧ w' = w := by
  go_enter Try.func104, Try.ntmps104
  go_wp2
  go_ret
  exact ⟨by simp, rfl⟩

set_option maxHeartbeats 400000 in
theorem nanU_any (a : Int) (w : World) :
    Calls Try.prog 105 #[.int .u64 a] w fun e w' => e = .returned (.bool false) ∧ w' = w := by
  go_enter Try.func105, Try.ntmps105
  go_wp2
  go_ret
  exact ⟨by simp, rfl⟩

theorem cmpS_any (a b : ByteArray) (w : World) :
    Calls Try.prog 102 #[.string a, .string b] w fun e w' => e = .returned (.int .i64 (cmpS a b)) ∧ w' = w := by
  unfold cmpS
  cases h1 : Op.bytesLess a.toList b.toList
  · cases h2 : Op.bytesLess b.toList a.toList
    · have h3 : (a.toList == b.toList) = true := by rw [bl_tri _ _ h1 h2]; simp
      clear h2
      go_enter Try.func102, Try.ntmps102
      go_wp2_with (go_at_call 104; refine (nanS_any _ _).mono ?_; rintro e w' ⟨rfl, rfl⟩)
      go_ret
      exact ⟨rfl, rfl⟩
    · have h3 : (a.toList == b.toList) = false := by
        rw [beq_eq_false_iff_ne]
        intro e
        rw [e, bl_irrefl] at h2
        cases h2
      clear h2
      go_enter Try.func102, Try.ntmps102
      go_wp2_with (go_at_call 104; refine (nanS_any _ _).mono ?_; rintro e w' ⟨rfl, rfl⟩)
      go_ret
      exact ⟨rfl, rfl⟩
  · go_enter Try.func102, Try.ntmps102
    go_wp2_with (go_at_call 104; refine (nanS_any _ _).mono ?_; rintro e w' ⟨rfl, rfl⟩)
    go_ret
    exact ⟨rfl, rfl⟩

theorem cmpU_any (a b : Int) (w : World) :
    Calls Try.prog 103 #[.int .u64 a, .int .u64 b] w fun e w' => e = .returned (.int .i64 (cmpN a b)) ∧ w' = w := by
  unfold cmpN
  by_cases h1 : a < b
  · rw [if_pos h1]
    go_enter Try.func103, Try.ntmps103
    go_wp2_with (go_at_call 105; refine (nanU_any _ _).mono ?_; rintro e w' ⟨rfl, rfl⟩)
    go_ret
    exact ⟨rfl, rfl⟩
  · rw [if_neg h1]
    by_cases h2 : b < a
    · rw [if_pos h2]
      go_enter Try.func103, Try.ntmps103
      go_wp2_with (go_at_call 105; refine (nanU_any _ _).mono ?_; rintro e w' ⟨rfl, rfl⟩)
      go_ret
      exact ⟨rfl, rfl⟩
    · rw [if_neg h2]
      go_enter Try.func103, Try.ntmps103
      go_wp2_with (go_at_call 105; refine (nanU_any _ _).mono ?_; rintro e w' ⟨rfl, rfl⟩)
      go_ret
      exact ⟨rfl, rfl⟩

end Cmp
end Go.Proofs.Ytcioaoanhmpdkaa
namespace Go.Proofs.Ytcioaoanhmpdkaa
namespace Ent
open Go.RowKit KMath Cmp
set_option linter.unusedVariables false

theorem bcell {W w1 : World} (hb : Below W.heap.size W w1) : (∀ b o, b < W.heap.size → w1.cell? ⟨b, o, none⟩ = W.cell? ⟨b, o, none⟩) ∧ (∀ b o, b < W.heap.size → w1.frozen? ⟨b, o, none⟩ = W.frozen? ⟨b, o, none⟩) :=
  ⟨fun b o h => hb.cell (p := ⟨b, o, none⟩) h, fun b o h => hb.frozen (p := ⟨b, o, none⟩) h⟩

theorem ret_int {k : IntKind} {a b : Int} (h : a = b) : Ending.returned (.int k a) = .returned (.int k b) := by rw [h]

/-- An entry as a value. -/
abbrev entV (k : ByteArray) (s : Int) (d : Bool) (v : ByteArray) : Value := .agg #[.string k, .int .u64 s, .bool d, .string v]

set_option maxHeartbeats 1000000 in
theorem compare_any (k1 : ByteArray) (s1 : Int) (d1 : Bool) (v1 : ByteArray) (k2 : ByteArray) (s2 : Int) (d2 : Bool) (v2 : ByteArray) (w : World) :
    Calls Try.prog 98 #[entV k1 s1 d1 v1, entV k2 s2 d2 v2] w fun e w' => e = .returned (.int .i64 (cmpE k1 k2 s1 s2)) ∧ Below w.heap.size w w' := by
  by_cases h1 : cmpS k1 k2 = 0
  · have g1 : (cmpS k1 k2 != 0) = false := by simp [h1]
    rw [cmpE_eq h1]
    clear h1
    go_enter Try.func98, Try.ntmps98
    go_wp2_with (first | (go_at_call 102; refine (cmpS_any _ _ _).mono ?_; rintro e w' ⟨rfl, rfl⟩) | (go_at_call 103; refine (cmpU_any _ _ _).mono ?_; rintro e w' ⟨rfl, rfl⟩))
    go_ret
    exact ⟨rfl, ((Below.refl _ _).alloc (Nat.le_refl _) _).alloc (by simp) _⟩
  · have g1 : (cmpS k1 k2 != 0) = true := by simp [h1]
    rw [cmpE_ne h1]
    clear h1
    go_enter Try.func98, Try.ntmps98
    go_wp2_with (first | (go_at_call 102; refine (cmpS_any _ _ _).mono ?_; rintro e w' ⟨rfl, rfl⟩) | (go_at_call 103; refine (cmpU_any _ _ _).mono ?_; rintro e w' ⟨rfl, rfl⟩))
    go_ret
    exact ⟨rfl, ((Below.refl _ _).alloc (Nat.le_refl _) _).alloc (by simp) _⟩

/-- What holds behind two boxes and some draws. -/
theorem below2 (w : World) (o1 o2 : Obj) (n : Nat) : Below w.heap.size w (((w.alloc o1).alloc o2).drewN n) := by
  have h := ((Below.refl w.heap.size w).alloc (Nat.le_refl _) o1).alloc (by simp) o2
  exact below_drewN h n

end Ent
end Go.Proofs.Ytcioaoanhmpdkaa
