import Derived.WalkKit
namespace Go.Proofs.YtaejjpbpnedblaaGreat
namespace KMath

/-- The order of texts, byte by byte. -/
theorem bl_irrefl (a : List UInt8) : Op.bytesLess a a = false := by
  induction a with
  | nil => rfl
  | cons x a ih => simp [Op.bytesLess, ih]

theorem bl_asymm (a b : List UInt8) (h : Op.bytesLess a b = true) : Op.bytesLess b a = false := by
  induction a generalizing b with
  | nil => cases b <;> simp [Op.bytesLess] at *
  | cons x a ih =>
    cases b with
    | nil => simp [Op.bytesLess] at h
    | cons y b =>
      simp only [Op.bytesLess, Bool.or_eq_true, decide_eq_true_eq, Bool.and_eq_true, beq_iff_eq] at h
      simp only [Op.bytesLess, Bool.or_eq_false_iff, decide_eq_false_iff_not, Bool.and_eq_false_iff, beq_eq_false_iff_ne]
      rcases h with h | ⟨rfl, h⟩
      · refine ⟨fun h' => ?_, Or.inl fun e => ?_⟩
        · rw [UInt8.lt_iff_toNat_lt] at h h'; omega
        · subst e; rw [UInt8.lt_iff_toNat_lt] at h; omega
      · exact ⟨fun h' => by rw [UInt8.lt_iff_toNat_lt] at h'; omega, Or.inr (ih b h)⟩

theorem bl_tri (a b : List UInt8) (h : Op.bytesLess a b = false) (h' : Op.bytesLess b a = false) : a = b := by
  induction a generalizing b with
  | nil => cases b with
    | nil => rfl
    | cons y b => simp [Op.bytesLess] at h
  | cons x a ih =>
    cases b with
    | nil => simp [Op.bytesLess] at h'
    | cons y b =>
      simp only [Op.bytesLess, Bool.or_eq_false_iff, decide_eq_false_iff_not, Bool.and_eq_false_iff, beq_eq_false_iff_ne] at h h'
      have e : x = y := by
        rw [UInt8.lt_iff_toNat_lt] at h h'
        exact UInt8.toNat_inj.1 (by omega)
      subst e
      rw [ih b (by simpa using h.2) (by simpa using h'.2)]

theorem bl_trans (a b c : List UInt8) (h : Op.bytesLess a b = true) (h' : Op.bytesLess b c = true) : Op.bytesLess a c = true := by
  induction a generalizing b c with
  | nil =>
    cases c with
    | nil => cases b <;> simp [Op.bytesLess] at *
    | cons z c => simp [Op.bytesLess]
  | cons x a ih =>
    cases b with
    | nil => simp [Op.bytesLess] at h
    | cons y b =>
      cases c with
      | nil => simp [Op.bytesLess] at h'
      | cons z c =>
        simp only [Op.bytesLess, Bool.or_eq_true, decide_eq_true_eq, Bool.and_eq_true, beq_iff_eq, UInt8.lt_iff_toNat_lt] at *
        rcases h with h | ⟨rfl, h⟩ <;> rcases h' with h' | ⟨rfl, h'⟩
        · exact Or.inl (by omega)
        · exact Or.inl h
        · exact Or.inl h'
        · exact Or.inr ⟨rfl, ih b c h h'⟩

theorem bl_drop_eq (a b : List UInt8) (k : Nat) (ha : k < a.length) (hb : k < b.length) (h : a[k] = b[k]) :
    Op.bytesLess (a.drop k) (b.drop k) = Op.bytesLess (a.drop (k + 1)) (b.drop (k + 1)) := by
  rw [List.drop_eq_getElem_cons ha, List.drop_eq_getElem_cons hb]
  simp [Op.bytesLess, h]

theorem bl_drop_ne (a b : List UInt8) (k : Nat) (ha : k < a.length) (hb : k < b.length) (h : a[k] ≠ b[k]) :
    Op.bytesLess (a.drop k) (b.drop k) = decide (a[k] < b[k]) := by
  rw [List.drop_eq_getElem_cons ha, List.drop_eq_getElem_cons hb]
  simp [Op.bytesLess, h]

theorem bl_drop_end (a b : List UInt8) (k : Nat) (hka : k ≤ a.length) (hkb : k ≤ b.length) (h : ¬ (k < a.length ∧ k < b.length)) :
    Op.bytesLess (a.drop k) (b.drop k) = decide (a.length < b.length) := by
  by_cases ha : k < a.length
  · have hb : b.length ≤ k := by omega
    rw [List.drop_of_length_le hb]
    have : ¬ a.length < b.length := by omega
    simp [Op.bytesLess, this]
  · rw [List.drop_of_length_le (show a.length ≤ k by omega)]
    by_cases hb : k < b.length
    · rw [List.drop_eq_getElem_cons hb]
      have : a.length < b.length := by omega
      simp [Op.bytesLess, this]
    · rw [List.drop_of_length_le (show b.length ≤ k by omega)]
      have : ¬ a.length < b.length := by omega
      simp [Op.bytesLess, this]

/-- The order of two texts, and of two numbers. -/
def cmpS (a b : ByteArray) : Int := if Op.bytesLess a.toList b.toList then -1 else if Op.bytesLess b.toList a.toList then 1 else 0
def cmpN (m n : Int) : Int := if m < n then -1 else if n < m then 1 else 0

/-- The order of two entries, of their keys and numbers (P1.3). -/
def cmpE (a b : ByteArray) (m n : Int) : Int := if cmpS a b = 0 then cmpN n m else cmpS a b

theorem cmpS_lt {a b : ByteArray} (h : Op.bytesLess a.toList b.toList = true) : cmpS a b = -1 := by simp [cmpS, h]
theorem cmpS_gt {a b : ByteArray} (h : Op.bytesLess b.toList a.toList = true) : cmpS a b = 1 := by simp [cmpS, h, bl_asymm _ _ h]
theorem cmpS_eq {a b : ByteArray} (h : Op.bytesLess a.toList b.toList = false) (h' : Op.bytesLess b.toList a.toList = false) : cmpS a b = 0 := by simp [cmpS, h, h']
theorem cmpS_self (a : ByteArray) : cmpS a a = 0 := by simp [cmpS, bl_irrefl]
theorem cmpN_self (m : Int) : cmpN m m = 0 := by simp [cmpN]
theorem cmpE_self (a : ByteArray) (m : Int) : cmpE a a m m = 0 := by simp [cmpE, cmpS_self, cmpN_self]
theorem cmpE_ne {a b : ByteArray} {m n : Int} (h : cmpS a b ≠ 0) : cmpE a b m n = cmpS a b := by simp [cmpE, h]
theorem cmpE_eq {a b : ByteArray} {m n : Int} (h : cmpS a b = 0) : cmpE a b m n = cmpN n m := by simp [cmpE, h]

theorem cmpS_cases (a b : ByteArray) : (Op.bytesLess a.toList b.toList = true ∧ cmpS a b = -1) ∨ (a.toList = b.toList ∧ cmpS a b = 0) ∨ (Op.bytesLess b.toList a.toList = true ∧ cmpS a b = 1) := by
  cases h1 : Op.bytesLess a.toList b.toList
  · cases h2 : Op.bytesLess b.toList a.toList
    · exact .inr (.inl ⟨bl_tri _ _ h1 h2, cmpS_eq h1 h2⟩)
    · exact .inr (.inr ⟨rfl, cmpS_gt h2⟩)
  · exact .inl ⟨rfl, cmpS_lt h1⟩

theorem cmpE_range (a b : ByteArray) (m n : Int) : -1 ≤ cmpE a b m n ∧ cmpE a b m n ≤ 1 := by
  unfold cmpE cmpN
  rcases cmpS_cases a b with ⟨_, h⟩ | ⟨_, h⟩ | ⟨_, h⟩ <;> rw [h] <;> (try split) <;> (try split) <;> omega

theorem cmpE_neg (a b : ByteArray) (m n : Int) : cmpE b a n m = - cmpE a b m n := by
  unfold cmpE
  rcases cmpS_cases a b with ⟨h', h⟩ | ⟨h', h⟩ | ⟨h', h⟩
  · rw [h, cmpS_gt h']; rfl
  · have h2 : cmpS b a = 0 := by unfold cmpS; rw [h', bl_irrefl]; rfl
    rw [h, h2]
    unfold cmpN
    simp only [if_true]
    split <;> (try split) <;> (try split) <;> omega
  · rw [h, cmpS_lt h']; rfl

theorem cmpE_zero_iff (a b : ByteArray) (m n : Int) : cmpE a b m n = 0 ↔ a.toList = b.toList ∧ m = n := by
  unfold cmpE
  rcases cmpS_cases a b with ⟨h', h⟩ | ⟨h', h⟩ | ⟨h', h⟩
  · rw [h]
    refine ⟨fun e => by simp at e, fun ⟨e, _⟩ => ?_⟩
    rw [e, bl_irrefl] at h'; cases h'
  · rw [h]
    unfold cmpN
    simp only [if_true]
    constructor
    · intro e; exact ⟨h', by split at e <;> (try split at e) <;> omega⟩
    · rintro ⟨_, rfl⟩; simp
  · rw [h]
    refine ⟨fun e => by simp at e, fun ⟨e, _⟩ => ?_⟩
    rw [e, bl_irrefl] at h'; cases h'

theorem cmpE_trans (k1 k2 k3 : ByteArray) (s1 s2 s3 : Int) :
    (cmpE k1 k2 s1 s2 ≤ 0 → cmpE k2 k3 s2 s3 ≤ 0 → cmpE k1 k3 s1 s3 ≤ 0) ∧ (0 ≤ cmpE k1 k2 s1 s2 → 0 ≤ cmpE k2 k3 s2 s3 → 0 ≤ cmpE k1 k3 s1 s3) ∧
    (cmpE k1 k2 s1 s2 = 0 → cmpE k2 k3 s2 s3 = 0 → cmpE k1 k3 s1 s3 = 0) ∧ (cmpE k1 k2 s1 s2 < 0 → cmpE k2 k3 s2 s3 ≤ 0 → cmpE k1 k3 s1 s3 < 0) := by
  unfold cmpE
  rcases cmpS_cases k1 k2 with ⟨h1, e1⟩ | ⟨h1, e1⟩ | ⟨h1, e1⟩ <;> rcases cmpS_cases k2 k3 with ⟨h2, e2⟩ | ⟨h2, e2⟩ | ⟨h2, e2⟩
  · have e3 : cmpS k1 k3 = -1 := cmpS_lt (bl_trans _ _ _ h1 h2)
    rw [e1, e2, e3]; simp
  · have e3 : cmpS k1 k3 = -1 := cmpS_lt (by rw [← h2]; exact h1)
    rw [e1, e2, e3]; simp
  · rw [e1, e2]; simp
  · have e3 : cmpS k1 k3 = -1 := cmpS_lt (by rw [h1]; exact h2)
    rw [e1, e2, e3]; simp
  · have e3 : cmpS k1 k3 = 0 := by unfold cmpS; rw [h1, h2, bl_irrefl]; rfl
    rw [e1, e2, e3]
    unfold cmpN
    simp only [if_true]
    refine ⟨?_, ?_, ?_, ?_⟩ <;> (repeat' split) <;> omega
  · have e3 : cmpS k1 k3 = 1 := cmpS_gt (by rw [h1]; exact h2)
    rw [e1, e2, e3]; simp
  · rw [e1, e2]; simp
  · have e3 : cmpS k1 k3 = 1 := cmpS_gt (by rw [← h2]; exact h1)
    rw [e1, e2, e3]; simp
  · have e3 : cmpS k1 k3 = 1 := cmpS_gt (bl_trans _ _ _ h2 h1)
    rw [e1, e2, e3]; simp

end KMath
end Go.Proofs.YtaejjpbpnedblaaGreat
