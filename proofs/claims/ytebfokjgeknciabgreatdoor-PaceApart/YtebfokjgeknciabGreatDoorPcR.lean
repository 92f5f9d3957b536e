import Derived.WalkKit
namespace Go.Proofs.YtebfokjgeknciabGreatDoor
namespace Pcm
open Go.RowKit
set_option linter.unusedVariables false

/-- the ints -/
def R64 (x : Int) : Prop := -9223372036854775808 ≤ x ∧ x ≤ 9223372036854775807
/-- a number that stays among the ints -/
def sat (x : Int) : Int := if x < -9223372036854775808 then -9223372036854775808 else if 9223372036854775807 < x then 9223372036854775807 else x
def sadd (a b : Int) : Int := sat (a + b)
def smul (a b : Int) : Int := sat (a * b)
def ssum (l : List Int) : Int := l.foldl sadd 0
theorem sat_r (x : Int) : R64 (sat x) := by unfold sat R64; split <;> (try split) <;> omega
theorem sat_in {x : Int} (h : R64 x) : sat x = x := by unfold R64 at h; unfold sat; rw [if_neg (by omega), if_neg (by omega)]
theorem sadd_r (a b : Int) : R64 (sadd a b) := sat_r _
theorem smul_r (a b : Int) : R64 (smul a b) := sat_r _
theorem sat_mono {x y : Int} (h : x ≤ y) : sat x ≤ sat y := by
  unfold sat; split <;> split <;> (try split) <;> (try split) <;> omega
theorem sat_pos {x : Int} (h : 0 ≤ x) : 0 ≤ sat x := by unfold sat; split <;> (try split) <;> omega
theorem sat_le {x : Int} (h : 0 ≤ x) : sat x ≤ x := by unfold sat; split <;> (try split) <;> omega
theorem sadd_comm (a b : Int) : sadd a b = sadd b a := by unfold sadd; rw [Int.add_comm]
theorem smul_comm (a b : Int) : smul a b = smul b a := by unfold smul; rw [Int.mul_comm]
/-- numbers that are 0 or more: what passes the greatest is the greatest -/
theorem sat_nn {x : Int} (h : 0 ≤ x) : sat x = min x 9223372036854775807 := by unfold sat; split <;> (try split) <;> omega
theorem sadd_nn {a b : Int} (ha : 0 ≤ a) (hb : 0 ≤ b) : 0 ≤ sadd a b := sat_pos (by omega)
theorem smul_nn {a b : Int} (ha : 0 ≤ a) (hb : 0 ≤ b) : 0 ≤ smul a b := sat_pos (Int.mul_nonneg ha hb)
theorem sadd_mono {a b c d : Int} (h : a ≤ c) (k : b ≤ d) : sadd a b ≤ sadd c d := sat_mono (by omega)
theorem smul_mono {a b c d : Int} (ha : 0 ≤ a) (hb : 0 ≤ b) (h : a ≤ c) (k : b ≤ d) : smul a b ≤ smul c d := sat_mono (Int.mul_le_mul h k hb (by omega))
theorem sadd_assoc {a b c : Int} (ha : 0 ≤ a) (hb : 0 ≤ b) (hc : 0 ≤ c) : sadd (sadd a b) c = sadd a (sadd b c) := by
  unfold sadd
  rw [sat_nn (x := a + b) (by omega), sat_nn (x := b + c) (by omega), sat_nn (by omega), sat_nn (by omega)]
  omega
theorem ssum_r (l : List Int) : R64 (ssum l) := by
  unfold ssum
  have : ∀ (l : List Int) (x : Int), R64 x → R64 (l.foldl sadd x) := by
    intro l
    induction l with
    | nil => intro x hx; exact hx
    | cons y l ih => intro x hx; exact ih _ (sadd_r _ _)
  exact this l 0 (by unfold R64; omega)
theorem ssum_nil : ssum [] = 0 := rfl
theorem ssum_snoc (l : List Int) (x : Int) : ssum (l ++ [x]) = sadd (ssum l) x := by unfold ssum; rw [List.foldl_append]; rfl
theorem ssum_take {l : List Int} {k : Nat} {x : Int} (hx : l[k]? = some x) : ssum (l.take (k + 1)) = sadd (ssum (l.take k)) x := by
  obtain ⟨hk, rfl⟩ := List.getElem?_eq_some_iff.1 hx
  rw [List.take_succ_eq_append_getElem hk, ssum_snoc]
theorem foldl_mono : ∀ (l r : List Int) (x y : Int), x ≤ y → l.length = r.length → (∀ i, (l.getD i 0) ≤ (r.getD i 0)) → l.foldl sadd x ≤ r.foldl sadd y
  | [], [], x, y, h, _, _ => h
  | a :: l, b :: r, x, y, h, hl, hi => foldl_mono l r _ _ (sadd_mono h (by simpa using hi 0)) (by simpa using hl) (fun i => by simpa using hi (i + 1))
  | [], b :: r, x, y, h, hl, hi => by simp at hl
  | a :: l, [], x, y, h, hl, hi => by simp at hl
/-- sums, one thing after another -/
def Le2 : List Int → List Int → Prop
  | [], [] => True
  | a :: l, b :: r => a ≤ b ∧ Le2 l r
  | _, _ => False
theorem Le2.nil : Le2 [] [] := trivial
theorem Le2.cons {a b : Int} {l r : List Int} (h : a ≤ b) (k : Le2 l r) : Le2 (a :: l) (b :: r) := ⟨h, k⟩
theorem foldl_le2 : ∀ {l r : List Int}, Le2 l r → ∀ {x y : Int}, x ≤ y → l.foldl sadd x ≤ r.foldl sadd y
  | [], [], _, x, y, h => h
  | a :: l, b :: r, k, x, y, h => foldl_le2 k.2 (sadd_mono h k.1)
  | [], b :: r, k, x, y, h => k.elim
  | a :: l, [], k, x, y, h => k.elim
theorem ssum_le2 {l r : List Int} (h : Le2 l r) : ssum l ≤ ssum r := foldl_le2 h (Int.le_refl _)
theorem foldl_nn : ∀ (l : List Int) (x : Int), 0 ≤ x → (∀ y ∈ l, 0 ≤ y) → 0 ≤ l.foldl sadd x
  | [], x, h, _ => h
  | a :: l, x, h, hl => foldl_nn l _ (sadd_nn h (hl a (by simp))) fun y hy => hl y (by simp [hy])
theorem ssum_nn {l : List Int} (h : ∀ y ∈ l, 0 ≤ y) : 0 ≤ ssum l := foldl_nn l 0 (Int.le_refl _) h

/-! what the program does -/
theorem plus_hi {a b : Int} (ha : R64 a) (hb : R64 b) (h1 : 0 < b) (h2 : wrap64 (a + b) < a) : sadd a b = 9223372036854775807 := by
  unfold R64 at *; unfold sadd sat; unfold wrap64 at h2; split <;> (try split) <;> omega
theorem plus_lo {a b : Int} (ha : R64 a) (hb : R64 b) (h1 : b < 0) (h2 : a < wrap64 (a + b)) : sadd a b = -9223372036854775808 := by
  unfold R64 at *; unfold sadd sat; unfold wrap64 at h2; split <;> (try split) <;> omega
theorem plus_mid {a b : Int} (ha : R64 a) (hb : R64 b) (h1 : ¬ (0 < b ∧ wrap64 (a + b) < a)) (h2 : ¬ (b < 0 ∧ a < wrap64 (a + b))) : sadd a b = wrap64 (a + b) := by
  unfold R64 at *; unfold sadd sat; unfold wrap64 at *; split <;> (try split) <;> omega
theorem wrap_in {x : Int} (h : R64 x) : wrap64 x = x := by unfold R64 at h; unfold wrap64; omega
theorem wrap_r (x : Int) : R64 (wrap64 x) := by unfold wrap64 R64; omega
theorem wrap_by (x : Int) : ∃ k : Int, wrap64 x = x + 18446744073709551616 * k := by
  refine ⟨-((x + 9223372036854775808) / 18446744073709551616), ?_⟩
  unfold wrap64
  omega
/-- a product that doesn't leave the ints leads back -/
theorem back_in {a b : Int} (ha : R64 a) (hb : R64 b) (h0 : a ≠ 0) (h : R64 (a * b)) : wrap64 ((wrap64 (a * b)).tdiv a) = b := by
  rw [wrap_in h, Int.mul_tdiv_cancel_left b h0, wrap_in hb]
/-- one that does doesn't, but at one place -/
theorem back_out {a b : Int} (ha : R64 a) (hb : R64 b) (h0 : a ≠ 0) (h1 : ¬ (a = -1 ∧ b = -9223372036854775808)) (h : wrap64 ((wrap64 (a * b)).tdiv a) = b) : R64 (a * b) := by
  obtain ⟨k, hk⟩ := wrap_by (a * b)
  have hr := wrap_r (a * b)
  -- the quotient is an int, or the least one by -1
  have hq : R64 ((wrap64 (a * b)).tdiv a) ∨ (a = -1 ∧ wrap64 (a * b) = -9223372036854775808) := by
    by_cases h2 : a = -1 ∧ wrap64 (a * b) = -9223372036854775808
    · exact .inr h2
    · left
      have h3 := Int.natAbs_tdiv_le_natAbs (wrap64 (a * b)) a
      have h4 := hr
      unfold R64 at *
      by_cases h5 : wrap64 (a * b) = -9223372036854775808
      · have h6 : a ≠ -1 := fun e => h2 ⟨e, h5⟩
        rw [h5] at h3 ⊢
        by_cases h7 : a = 1
        · subst h7; decide
        · have h8 : 2 ≤ a.natAbs := by omega
          have h9 : ((-9223372036854775808 : Int).tdiv a).natAbs = 9223372036854775808 / a.natAbs := by rw [Int.natAbs_tdiv]; rfl
          have h10 : 9223372036854775808 / a.natAbs ≤ 9223372036854775808 / 2 := Nat.div_le_div_left h8 (by omega)
          have h11 : 9223372036854775808 / 2 = 4611686018427387904 := by decide
          omega
      · omega
  rcases hq with hq | ⟨rfl, hm⟩
  · rw [wrap_in hq] at h
    have h2 := Int.mul_tdiv_add_tmod (wrap64 (a * b)) a
    rw [h] at h2
    have h3 : ((wrap64 (a * b)).tmod a).natAbs < a.natAbs := by
      have := Int.natAbs_tmod (wrap64 (a * b)) a
      rw [this]
      exact Nat.mod_lt _ (by omega)
    have h4 : (wrap64 (a * b)).tmod a = 18446744073709551616 * k := by omega
    rw [h4] at h3
    have hk0 : k = 0 := by
      unfold R64 at ha
      omega
    subst hk0
    rw [Int.mul_zero, Int.add_zero] at hk
    rw [← hk]
    exact hr
  · -- b is the least int: barred; else -b is one
    have hb' : b ≠ -9223372036854775808 := fun e => h1 ⟨rfl, e⟩
    unfold R64 at *
    omega

end Pcm
end Go.Proofs.YtebfokjgeknciabGreatDoor
namespace Go.Proofs.YtebfokjgeknciabGreatDoor
namespace Pcm
open Go.RowKit
set_option linter.unusedVariables false
set_option maxRecDepth 100000

/-- a configuration's fields, by their places -/
abbrev Cf := Nat → Int
/-- all fields are ints -/
def RC (c : Cf) : Prop := ∀ i, R64 (c i)

/-! what a configuration must be -/
abbrev Fd := Int × Int × Int
def badF (t : Fd) : Bool := decide (t.1 < t.2.1) || decide (t.2.2 < t.1)
def flds1 (c : Cf) : List Fd := [(c 0, 1, 8), (c 1, 1, 2), (c 2, 1, 3), (c 3, 4096, 1048576), (c 4, 1, 4), (c 5, 1, 16), (c 6, c 5, 16), (c 7, max (c 6) (wrap64 (c 1 + 1)), 16), (c 8, 3, 5), (c 9, 4096, 16777216), (c 10, 2, 10), (c 11, 2048, 1048576), (c 12, 1, 16), (c 13, 64, 4096), (c 14, 1, 16), (c 15, 0, 16), (c 16, 1088, 65536), (c 17, 1, 1073741824), (c 18, c 16, 1073741824), (c 19, 1, 1073741824), (c 20, 17408, 1073741824), (c 21, 1088, 1048576), (c 22, 17408, 16777216)]
def flds2 (c : Cf) : List Fd := [(c 24, 0, 8), (c 25, 1, 256), (c 26, 4096, 1048576)]
def flds (c : Cf) (X : Int) : List Fd := flds1 c ++ (c 23, X, 1073741824) :: flds2 c
def fbad (l : List Fd) : Option Nat := l.findIdx? badF
theorem flds_len (c : Cf) (X : Int) : (flds c X).length = 27 := rfl

/-- the program's bound of DebtStop -/
def pmem (c : Cf) : Int := sadd (wrap64 (c 3 - 1)) (max (c 21) 17408)
def pX (c : Cf) : Int := sadd (smul (ssum [c 5, c 4, 2]) (pmem c)) 1
/-- the document's -/
def rmem (c : Cf) : Int := wrap64 (wrap64 (c 3 - 1) + max (c 21) 17408)
def rX (c : Cf) : Int := wrap64 (wrap64 (wrap64 (wrap64 (c 5 + c 4) + 2) * rmem c) + 1)

theorem find_app (l r : List Fd) : fbad (l ++ r) = match fbad l with | some i => some i | none => (fbad r).map (· + l.length) := by
  unfold fbad
  rw [List.findIdx?_append]
  cases List.findIdx? badF l <;> simp

structure Ok1 (c : Cf) : Prop where
  h0 : 1 ≤ c 0 ∧ c 0 ≤ 8
  h1 : 1 ≤ c 1 ∧ c 1 ≤ 2
  h2 : 1 ≤ c 2 ∧ c 2 ≤ 3
  h3 : 4096 ≤ c 3 ∧ c 3 ≤ 1048576
  h4 : 1 ≤ c 4 ∧ c 4 ≤ 4
  h5 : 1 ≤ c 5 ∧ c 5 ≤ 16
  h8 : 3 ≤ c 8 ∧ c 8 ≤ 5
  h9 : 4096 ≤ c 9 ∧ c 9 ≤ 16777216
  h10 : 2 ≤ c 10 ∧ c 10 ≤ 10
  h11 : 2048 ≤ c 11 ∧ c 11 ≤ 1048576
  h12 : 1 ≤ c 12 ∧ c 12 ≤ 16
  h16 : 1088 ≤ c 16 ∧ c 16 ≤ 65536
  h17 : 1 ≤ c 17 ∧ c 17 ≤ 1073741824
  h19 : 1 ≤ c 19 ∧ c 19 ≤ 1073741824
  h21 : 1088 ≤ c 21 ∧ c 21 ≤ 1048576
  h22 : 17408 ≤ c 22 ∧ c 22 ≤ 16777216
theorem good_of {l : List Fd} (h : fbad l = none) {t : Fd} (ht : t ∈ l) : t.2.1 ≤ t.1 ∧ t.1 ≤ t.2.2 := by
  unfold fbad at h
  rw [List.findIdx?_eq_none_iff] at h
  have := h t ht
  simp [badF] at this
  omega
theorem ok1 {c : Cf} (h : fbad (flds1 c) = none) : Ok1 c :=
  ⟨good_of (t := (c 0, 1, 8)) h (by simp [flds1]), good_of (t := (c 1, 1, 2)) h (by simp [flds1]), good_of (t := (c 2, 1, 3)) h (by simp [flds1]), good_of (t := (c 3, 4096, 1048576)) h (by simp [flds1]), good_of (t := (c 4, 1, 4)) h (by simp [flds1]), good_of (t := (c 5, 1, 16)) h (by simp [flds1]), good_of (t := (c 8, 3, 5)) h (by simp [flds1]), good_of (t := (c 9, 4096, 16777216)) h (by simp [flds1]), good_of (t := (c 10, 2, 10)) h (by simp [flds1]), good_of (t := (c 11, 2048, 1048576)) h (by simp [flds1]), good_of (t := (c 12, 1, 16)) h (by simp [flds1]), good_of (t := (c 16, 1088, 65536)) h (by simp [flds1]), good_of (t := (c 17, 1, 1073741824)) h (by simp [flds1]), good_of (t := (c 19, 1, 1073741824)) h (by simp [flds1]), good_of (t := (c 21, 1088, 1048576)) h (by simp [flds1]), good_of (t := (c 22, 17408, 16777216)) h (by simp [flds1])⟩

theorem pmem_ok {c : Cf} (h : Ok1 c) : pmem c = c 3 - 1 + max (c 21) 17408 := by
  obtain ⟨a1, a2⟩ := h.h3
  obtain ⟨b1, b2⟩ := h.h21
  unfold pmem sadd
  rw [wrap_in (by unfold R64; omega), sat_in (by unfold R64; omega)]
theorem rmem_ok {c : Cf} (h : Ok1 c) : rmem c = c 3 - 1 + max (c 21) 17408 := by
  obtain ⟨a1, a2⟩ := h.h3
  obtain ⟨b1, b2⟩ := h.h21
  unfold rmem
  rw [wrap_in (x := c 3 - 1) (by unfold R64; omega), wrap_in (by unfold R64; omega)]
theorem mul_bd {a b A B : Int} (ha : 0 ≤ a) (hb : 0 ≤ b) (h1 : a ≤ A) (h2 : b ≤ B) : 0 ≤ a * b ∧ a * b ≤ A * B := ⟨Int.mul_nonneg ha hb, Int.mul_le_mul h1 h2 hb (by omega)⟩
theorem pX_ok {c : Cf} (h : Ok1 c) : pX c = (c 5 + c 4 + 2) * (c 3 - 1 + max (c 21) 17408) + 1 := by
  obtain ⟨a1, a2⟩ := h.h3
  obtain ⟨b1, b2⟩ := h.h21
  obtain ⟨c1, c2⟩ := h.h4
  obtain ⟨d1, d2⟩ := h.h5
  have e : ssum [c 5, c 4, 2] = c 5 + c 4 + 2 := by
    show sadd (sadd (sadd 0 (c 5)) (c 4)) 2 = _
    unfold sadd
    rw [sat_in (x := 0 + c 5) (by unfold R64; omega), sat_in (x := 0 + c 5 + c 4) (by unfold R64; omega), sat_in (by unfold R64; omega)]
    omega
  have hb := mul_bd (a := c 5 + c 4 + 2) (b := c 3 - 1 + max (c 21) 17408) (A := 100) (B := 10000000) (by omega) (by omega) (by omega) (by omega)
  unfold pX
  rw [pmem_ok h, e]
  unfold sadd smul
  rw [sat_in (x := (c 5 + c 4 + 2) * (c 3 - 1 + max (c 21) 17408)) (by unfold R64; omega), sat_in (by unfold R64; omega)]
theorem rX_ok {c : Cf} (h : Ok1 c) : rX c = (c 5 + c 4 + 2) * (c 3 - 1 + max (c 21) 17408) + 1 := by
  obtain ⟨a1, a2⟩ := h.h3
  obtain ⟨b1, b2⟩ := h.h21
  obtain ⟨c1, c2⟩ := h.h4
  obtain ⟨d1, d2⟩ := h.h5
  have hb := mul_bd (a := c 5 + c 4 + 2) (b := c 3 - 1 + max (c 21) 17408) (A := 100) (B := 10000000) (by omega) (by omega) (by omega) (by omega)
  unfold rX
  rw [rmem_ok h, wrap_in (x := c 5 + c 4) (by unfold R64; omega), wrap_in (x := c 5 + c 4 + 2) (by unfold R64; omega), wrap_in (x := (c 5 + c 4 + 2) * (c 3 - 1 + max (c 21) 17408)) (by unfold R64; omega), wrap_in (by unfold R64; omega)]
/-- which field isn't right: both look alike -/
def bad (c : Cf) : Option Nat := fbad (flds c (pX c))
theorem bad_ref (c : Cf) : fbad (flds c (rX c)) = bad c := by
  unfold bad flds
  rw [find_app, find_app]
  cases h : fbad (flds1 c) with
  | some i => rfl
  | none => simp only [pX_ok (ok1 h), rX_ok (ok1 h)]
/-- what Check answers -/
def ckN (c : Cf) : Int := match bad c with | some i => i | none => 0
def ckE (c : Cf) : Int := match bad c with | some _ => 150 | none => 0
/-- it is right -/
structure Right (c : Cf) : Prop where
  o : Ok1 c
  h23 : 0 ≤ c 23 ∧ c 23 ≤ 1073741824
  h26 : 4096 ≤ c 26 ∧ c 26 ≤ 1048576
theorem right_of {c : Cf} (h : bad c = none) : Right c := by
  unfold bad flds at h
  rw [find_app] at h
  cases h1 : fbad (flds1 c) with
  | some i => rw [h1] at h; simp at h
  | none =>
    rw [h1] at h
    simp only [Option.map_eq_none_iff] at h
    have o := ok1 h1
    have a := good_of (t := (c 23, pX c, 1073741824)) h (by simp)
    have b := good_of (t := (c 26, 4096, 1048576)) h (by simp [flds2])
    refine ⟨o, ?_, b⟩
    have e := pX_ok o
    have hb := mul_bd (a := c 5 + c 4 + 2) (b := c 3 - 1 + max (c 21) 17408) (A := 100) (B := 10000000) (by have := o.h5; have := o.h4; omega) (by have := o.h3; omega) (by have := o.h5; have := o.h4; omega) (by have := o.h3; have := o.h21; omega)
    dsimp only at a
    omega

/-! the formulas, as the program has them -/
def pfile (c : Cf) : Int := sadd (c 11 - 1) 1088
def pj (c : Cf) : Int := smul (sadd (c 12) 1) (pfile c)
def pdebt (c : Cf) : Int := sadd (c 23 - 1) (c 22)
def pd (c : Cf) (d : Int) : Int := min (ssum [d, c 22, smul (c 0 - 1) 17408]) (pdebt c)
def pg (c : Cf) : Int := smul (c 2) (sadd (c 16 / c 17) 3)
def ptf (c : Cf) (x : Int) : Int := sadd (smul 2 (sadd (x / c 16) 2)) 16
def ptc (c : Cf) (x : Int) : Int := ssum [x / c 16, 2, smul (ssum [x / c 16, x / c 11, 3]) (pg c), smul 2 (sadd (x / c 11) 3), 16]
def pw : Int → Int → Nat → Int
  | b, _, 0 => b
  | b, m, n + 1 => smul (pw b m n) m
def plim (c : Cf) (l : Int) : Int := if l < 1 ∨ c 8 - 2 < l then 0 else pw (c 9) (c 10) (l - 1).toNat
/-- the sum of the first limits -/
def plsumN (c : Cf) : Nat → Int
  | 0 => 0
  | n + 1 => sadd (plsumN c n) (plim c n)
def plsum (c : Cf) : Int := plsumN c (c 8).toNat
def py (c : Cf) (d : Int) : Int := sadd (plsum c) (pd c d)
def pt0 (c : Cf) (d : Int) : Int := ssum [smul 2 (ptc c (pj c)), smul 2 (ptc c (py c d)), 16]
def pq (c : Cf) : Int := ssum [c 22 / c 3, c 4, 2]
def pent (c : Cf) (x : Int) : Int := sadd (smul (c 8) x / 450) 2
def ptd (c : Cf) (d : Int) : Int := smul (pent c (py c d)) (ssum [ptc c (py c d), ptc c (pj c), ptf c (pmem c), 8])
def pb1 (c : Cf) (d : Int) : Int := smul (c 0) (ssum [smul (sadd (pq c) 2) (sadd (pt0 c d) 2), ptd c d, smul (sadd (c 4) 1) (ssum [pt0 c d, ptf c (pmem c), 2]), 17408 / c 19, smul 18 (c 0), 24])
def pn (c : Cf) (n : Int) : Int := ssum [n, c 22, smul (c 0) 17408]
def pb2 (c : Cf) (n : Int) : Int := ssum [pb1 c n, smul (sadd (c 4) 2) (ssum [ptf c (pmem c), ptc c (pn c n), ptc c (pj c), 8]), smul (pent c (pn c n)) (ssum [ptc c (pn c n), ptc c (pj c), 2]), pn c n / c 16, c 8, 40]
def pa (c : Cf) (x y : Int) : Int := ssum [smul 4 x, y, smul 16 (sadd (plsum c) (pdebt c)), smul (sadd (c 4) 4) (pmem c), smul 2 (c 26), 131072]

/-! they are 0 or more -/
theorem nn1 {a : Int} (ha : 0 ≤ a) : ∀ y ∈ [a], 0 ≤ y := by intro y hy; simp at hy; omega
theorem nnc {a : Int} {l : List Int} (ha : 0 ≤ a) (hl : ∀ y ∈ l, 0 ≤ y) : ∀ y ∈ a :: l, 0 ≤ y := by
  intro y hy
  rcases List.mem_cons.1 hy with rfl | hy
  · exact ha
  · exact hl y hy
theorem div_nn {a b : Int} (ha : 0 ≤ a) (hb : 0 ≤ b) : 0 ≤ a / b := Int.ediv_nonneg ha hb
theorem pfile_nn {c : Cf} (h : Right c) : 0 ≤ pfile c := sadd_nn (by have := h.o.h11; omega) (by omega)
theorem pmem_nn {c : Cf} (h : Right c) : 0 ≤ pmem c := by rw [pmem_ok h.o]; have := h.o.h3; omega
theorem pj_nn {c : Cf} (h : Right c) : 0 ≤ pj c := smul_nn (sadd_nn (by have := h.o.h12; omega) (by omega)) (pfile_nn h)
theorem pdebt_le {c : Cf} (h : Right c) : -1 ≤ pdebt c := by
  unfold pdebt sadd
  rw [sat_in (by unfold R64; have := h.h23; have := h.o.h22; omega)]
  have := h.h23; have := h.o.h22; omega
theorem pdebt_nn {c : Cf} (h : Right c) : 0 ≤ pdebt c := by
  unfold pdebt sadd
  rw [sat_in (by unfold R64; have := h.h23; have := h.o.h22; omega)]
  have := h.h23; have := h.o.h22; omega
theorem pg_nn {c : Cf} (h : Right c) : 0 ≤ pg c := smul_nn (by have := h.o.h2; omega) (sadd_nn (div_nn (by have := h.o.h16; omega) (by have := h.o.h17; omega)) (by omega))
theorem ptf_nn {c : Cf} (h : Right c) {x : Int} (hx : 0 ≤ x) : 0 ≤ ptf c x := sadd_nn (smul_nn (by omega) (sadd_nn (div_nn hx (by have := h.o.h16; omega)) (by omega))) (by omega)
theorem ptc_nn {c : Cf} (h : Right c) {x : Int} (hx : 0 ≤ x) : 0 ≤ ptc c x :=
  ssum_nn (nnc (div_nn hx (by have := h.o.h16; omega)) (nnc (by omega) (nnc (smul_nn (ssum_nn (nnc (div_nn hx (by have := h.o.h16; omega)) (nnc (div_nn hx (by have := h.o.h11; omega)) (nn1 (by omega))))) (pg_nn h)) (nnc (smul_nn (by omega) (sadd_nn (div_nn hx (by have := h.o.h11; omega)) (by omega))) (nn1 (by omega))))))
theorem pw_nn {b m : Int} (hb : 0 ≤ b) (hm : 0 ≤ m) : ∀ n, 0 ≤ pw b m n
  | 0 => hb
  | n + 1 => smul_nn (pw_nn hb hm n) hm
theorem plim_nn {c : Cf} (h : Right c) (l : Int) : 0 ≤ plim c l := by
  unfold plim
  split
  · omega
  · exact pw_nn (by have := h.o.h9; omega) (by have := h.o.h10; omega) _
theorem plsumN_nn {c : Cf} (h : Right c) : ∀ n, 0 ≤ plsumN c n
  | 0 => Int.le_refl _
  | n + 1 => sadd_nn (plsumN_nn h n) (plim_nn h _)
theorem plsum_nn {c : Cf} (h : Right c) : 0 ≤ plsum c := plsumN_nn h _
theorem pd_nn {c : Cf} (h : Right c) {d : Int} (hd : 0 ≤ d) : 0 ≤ pd c d := by
  have h1 : 0 ≤ ssum [d, c 22, smul (c 0 - 1) 17408] := ssum_nn (nnc hd (nnc (by have := h.o.h22; omega) (nn1 (smul_nn (by have := h.o.h0; omega) (by omega)))))
  have h2 := pdebt_nn h
  unfold pd
  omega
theorem py_nn {c : Cf} (h : Right c) {d : Int} (hd : 0 ≤ d) : 0 ≤ py c d := sadd_nn (plsum_nn h) (pd_nn h hd)
theorem pt0_nn {c : Cf} (h : Right c) {d : Int} (hd : 0 ≤ d) : 0 ≤ pt0 c d := ssum_nn (nnc (smul_nn (by omega) (ptc_nn h (pj_nn h))) (nnc (smul_nn (by omega) (ptc_nn h (py_nn h hd))) (nn1 (by omega))))
theorem pq_nn {c : Cf} (h : Right c) : 0 ≤ pq c := ssum_nn (nnc (div_nn (by have := h.o.h22; omega) (by have := h.o.h3; omega)) (nnc (by have := h.o.h4; omega) (nn1 (by omega))))
theorem pent_nn {c : Cf} (h : Right c) {x : Int} (hx : 0 ≤ x) : 0 ≤ pent c x := sadd_nn (div_nn (smul_nn (by have := h.o.h8; omega) hx) (by omega)) (by omega)
theorem ptd_nn {c : Cf} (h : Right c) {d : Int} (hd : 0 ≤ d) : 0 ≤ ptd c d := smul_nn (pent_nn h (py_nn h hd)) (ssum_nn (nnc (ptc_nn h (py_nn h hd)) (nnc (ptc_nn h (pj_nn h)) (nnc (ptf_nn h (pmem_nn h)) (nn1 (by omega))))))
theorem pb1_nn {c : Cf} (h : Right c) {d : Int} (hd : 0 ≤ d) : 0 ≤ pb1 c d :=
  smul_nn (by have := h.o.h0; omega) (ssum_nn (nnc (smul_nn (sadd_nn (pq_nn h) (by omega)) (sadd_nn (pt0_nn h hd) (by omega))) (nnc (ptd_nn h hd) (nnc (smul_nn (sadd_nn (by have := h.o.h4; omega) (by omega)) (ssum_nn (nnc (pt0_nn h hd) (nnc (ptf_nn h (pmem_nn h)) (nn1 (by omega)))))) (nnc (div_nn (by omega) (by have := h.o.h19; omega)) (nnc (smul_nn (by omega) (by have := h.o.h0; omega)) (nn1 (by omega))))))))
theorem pn_nn {c : Cf} (h : Right c) {n : Int} (hn : 0 ≤ n) : 0 ≤ pn c n := ssum_nn (nnc hn (nnc (by have := h.o.h22; omega) (nn1 (smul_nn (by have := h.o.h0; omega) (by omega)))))

/-! they don't fall (P15.8) -/
theorem div_mono {a b k : Int} (h : a ≤ b) (hk : 0 < k) : a / k ≤ b / k := Int.ediv_le_ediv hk h
theorem ptf_mono {c : Cf} (h : Right c) {x y : Int} (hx : 0 ≤ x) (hxy : x ≤ y) : ptf c x ≤ ptf c y := by
  have h16 := h.o.h16
  refine sadd_mono (smul_mono (by omega) (sadd_nn (div_nn hx (by omega)) (by omega)) (Int.le_refl _) (sadd_mono (div_mono hxy (by omega)) (Int.le_refl _))) (Int.le_refl _)
theorem ptc_mono {c : Cf} (h : Right c) {x y : Int} (hx : 0 ≤ x) (hxy : x ≤ y) : ptc c x ≤ ptc c y := by
  have h16 := h.o.h16
  have h11 := h.o.h11
  have e1 := div_mono hxy (show 0 < c 16 by omega)
  have e2 := div_mono hxy (show 0 < c 11 by omega)
  refine ssum_le2 (.cons e1 (.cons (Int.le_refl _) (.cons (smul_mono (ssum_nn (nnc (div_nn hx (by omega)) (nnc (div_nn hx (by omega)) (nn1 (by omega))))) (pg_nn h) (ssum_le2 (.cons e1 (.cons e2 (.cons (Int.le_refl _) .nil)))) (Int.le_refl _)) (.cons (smul_mono (by omega) (sadd_nn (div_nn hx (by omega)) (by omega)) (Int.le_refl _) (sadd_mono e2 (Int.le_refl _))) (.cons (Int.le_refl _) .nil)))))
theorem pd_mono {c : Cf} (h : Right c) {x y : Int} (hxy : x ≤ y) : pd c x ≤ pd c y := by
  have := ssum_le2 (.cons hxy (.cons (Int.le_refl (c 22)) (.cons (Int.le_refl (smul (c 0 - 1) 17408)) .nil)))
  unfold pd
  omega
theorem py_mono {c : Cf} (h : Right c) {x y : Int} (hxy : x ≤ y) : py c x ≤ py c y := sadd_mono (Int.le_refl _) (pd_mono h hxy)
theorem pt0_mono {c : Cf} (h : Right c) {x y : Int} (hx : 0 ≤ x) (hxy : x ≤ y) : pt0 c x ≤ pt0 c y :=
  ssum_le2 (.cons (Int.le_refl _) (.cons (smul_mono (by omega) (ptc_nn h (py_nn h hx)) (Int.le_refl _) (ptc_mono h (py_nn h hx) (py_mono h hxy))) (.cons (Int.le_refl _) .nil)))
theorem pent_mono {c : Cf} (h : Right c) {x y : Int} (hx : 0 ≤ x) (hxy : x ≤ y) : pent c x ≤ pent c y :=
  sadd_mono (div_mono (smul_mono (by have := h.o.h8; omega) hx (Int.le_refl _) hxy) (by omega)) (Int.le_refl _)
theorem ptd_mono {c : Cf} (h : Right c) {x y : Int} (hx : 0 ≤ x) (hxy : x ≤ y) : ptd c x ≤ ptd c y :=
  smul_mono (pent_nn h (py_nn h hx)) (ssum_nn (nnc (ptc_nn h (py_nn h hx)) (nnc (ptc_nn h (pj_nn h)) (nnc (ptf_nn h (pmem_nn h)) (nn1 (by omega)))))) (pent_mono h (py_nn h hx) (py_mono h hxy))
    (ssum_le2 (.cons (ptc_mono h (py_nn h hx) (py_mono h hxy)) (.cons (Int.le_refl _) (.cons (Int.le_refl _) (.cons (Int.le_refl _) .nil)))))
theorem pb1_mono {c : Cf} (h : Right c) {x y : Int} (hx : 0 ≤ x) (hxy : x ≤ y) : pb1 c x ≤ pb1 c y := by
  have h0 := h.o.h0
  have h4 := h.o.h4
  have t := pt0_mono h hx hxy
  refine smul_mono (by omega) ?_ (Int.le_refl _) (ssum_le2 (.cons (smul_mono (sadd_nn (pq_nn h) (by omega)) (sadd_nn (pt0_nn h hx) (by omega)) (Int.le_refl _) (sadd_mono t (Int.le_refl _))) (.cons (ptd_mono h hx hxy) (.cons (smul_mono (sadd_nn (by omega) (by omega)) (ssum_nn (nnc (pt0_nn h hx) (nnc (ptf_nn h (pmem_nn h)) (nn1 (by omega))))) (Int.le_refl _) (ssum_le2 (.cons t (.cons (Int.le_refl _) (.cons (Int.le_refl _) .nil))))) (.cons (Int.le_refl _) (.cons (Int.le_refl _) (.cons (Int.le_refl _) .nil)))))))
  exact ssum_nn (nnc (smul_nn (sadd_nn (pq_nn h) (by omega)) (sadd_nn (pt0_nn h hx) (by omega))) (nnc (ptd_nn h hx) (nnc (smul_nn (sadd_nn (by omega) (by omega)) (ssum_nn (nnc (pt0_nn h hx) (nnc (ptf_nn h (pmem_nn h)) (nn1 (by omega)))))) (nnc (div_nn (by omega) (by have := h.o.h19; omega)) (nnc (smul_nn (by omega) (by omega)) (nn1 (by omega)))))))
theorem pn_mono {c : Cf} {x y : Int} (hxy : x ≤ y) : pn c x ≤ pn c y := ssum_le2 (.cons hxy (.cons (Int.le_refl _) (.cons (Int.le_refl _) .nil)))
theorem pb2_mono {c : Cf} (h : Right c) {x y : Int} (hx : 0 ≤ x) (hxy : x ≤ y) : pb2 c x ≤ pb2 c y := by
  have h4 := h.o.h4
  have h16 := h.o.h16
  have e := pn_mono (c := c) hxy
  have n0 := pn_nn h hx
  have t := ptc_mono h n0 e
  have t0 := ptc_nn h n0
  have j0 := ptc_nn h (pj_nn h)
  have m0 := ptf_nn h (pmem_nn h)
  exact ssum_le2 (.cons (pb1_mono h hx hxy) (.cons (smul_mono (sadd_nn (by omega) (by omega)) (ssum_nn (nnc m0 (nnc t0 (nnc j0 (nn1 (by omega)))))) (Int.le_refl _) (ssum_le2 (.cons (Int.le_refl _) (.cons t (.cons (Int.le_refl _) (.cons (Int.le_refl _) .nil)))))) (.cons (smul_mono (pent_nn h n0) (ssum_nn (nnc t0 (nnc j0 (nn1 (by omega))))) (pent_mono h n0 e) (ssum_le2 (.cons t (.cons (Int.le_refl _) (.cons (Int.le_refl _) .nil))))) (.cons (div_mono e (by omega)) (.cons (Int.le_refl _) (.cons (Int.le_refl _) .nil))))))
theorem pa_monoX {c : Cf} {x x' y : Int} (hx : 0 ≤ x) (h : x ≤ x') : pa c x y ≤ pa c x' y :=
  ssum_le2 (.cons (smul_mono (by omega) hx (Int.le_refl _) h) (.cons (Int.le_refl _) (.cons (Int.le_refl _) (.cons (Int.le_refl _) (.cons (Int.le_refl _) (.cons (Int.le_refl _) .nil))))))
theorem pa_monoY {c : Cf} {x y y' : Int} (h : y ≤ y') : pa c x y ≤ pa c x y' :=
  ssum_le2 (.cons (Int.le_refl _) (.cons h (.cons (Int.le_refl _) (.cons (Int.le_refl _) (.cons (Int.le_refl _) (.cons (Int.le_refl _) .nil))))))

end Pcm
end Go.Proofs.YtebfokjgeknciabGreatDoor
namespace Go.Proofs.YtebfokjgeknciabGreatDoor
namespace Pcm
open Go.RowKit
set_option linter.unusedVariables false
set_option maxRecDepth 100000

/-! the document's formulas: the same numbers -/
theorem sadd_in {a b : Int} (h : R64 (a + b)) : sadd a b = a + b := sat_in h
theorem smul_in {a b : Int} (h : R64 (a * b)) : smul a b = a * b := sat_in h
theorem sadd_zero {a : Int} (h : R64 a) : sadd a 0 = a := by unfold sadd; rw [Int.add_zero]; exact sat_in h
theorem zero_sadd {a : Int} (h : R64 a) : sadd 0 a = a := by unfold sadd; rw [Int.zero_add]; exact sat_in h
theorem div_le {x k : Int} (hx : 0 ≤ x) (hk : 1 ≤ k) : 0 ≤ x / k ∧ x / k ≤ x := ⟨Int.ediv_nonneg hx (by omega), Int.ediv_le_self _ hx⟩
theorem div_lt {x k : Int} (hx : 0 ≤ x) (hR : R64 x) (hk : 2 ≤ k) : 0 ≤ x / k ∧ x / k ≤ 4611686018427387904 := by
  refine ⟨Int.ediv_nonneg hx (by omega), ?_⟩
  have h1 : x / k ≤ x / 2 := by
    rw [Int.ediv_le_iff_le_mul (by omega)]
    have h2 : x / 2 * 2 ≤ x / 2 * k := Int.mul_le_mul_of_nonneg_left hk (by omega)
    omega
  unfold R64 at hR
  omega
theorem pmem_r (c : Cf) : R64 (pmem c) := sadd_r _ _
theorem tf_ref {c : Cf} (h : Right c) {x : Int} (hx : 0 ≤ x) (hR : R64 x) : ptf c x = sadd (smul 2 (x / c 16 + 2)) 16 := by
  have h16 := h.o.h16
  have hd := div_lt hx hR (show 2 ≤ c 16 by omega)
  unfold ptf
  rw [sadd_in (a := x / c 16) (by unfold R64; omega)]
theorem g_ref {c : Cf} (h : Right c) : pg c = smul (c 2) (c 16 / c 17 + 3) := by
  have h16 := h.o.h16
  have h17 := h.o.h17
  have hd := div_le (show 0 ≤ c 16 by omega) (show 1 ≤ c 17 by omega)
  unfold pg
  rw [sadd_in (a := c 16 / c 17) (by unfold R64; omega)]
theorem j_ref {c : Cf} (h : Right c) : pj c = smul (c 12 + 1) (c 11 - 1 + 1088) := by
  have h12 := h.o.h12
  have h11 := h.o.h11
  unfold pj pfile
  rw [sadd_in (a := c 12) (by unfold R64; omega), sadd_in (a := c 11 - 1) (by unfold R64; omega)]
theorem file_ref {c : Cf} (h : Right c) : pfile c = c 11 - 1 + 1088 := by
  have h11 := h.o.h11
  exact sadd_in (by unfold R64; omega)
theorem debt_ref {c : Cf} (h : Right c) : pdebt c = c 23 - 1 + c 22 := by
  have h23 := h.h23
  have h22 := h.o.h22
  exact sadd_in (by unfold R64; omega)
theorem plim_r {c : Cf} (hc : RC c) (l : Int) : R64 (plim c l) := by
  unfold plim
  split
  · unfold R64; omega
  · cases (l - 1).toNat with
    | zero => exact hc 9
    | succ n => exact smul_r _ _
theorem plim_out {c : Cf} {l : Int} (h : l < 1 ∨ c 8 - 2 < l) : plim c l = 0 := by unfold plim; rw [if_pos h]
theorem lsum_ref {c : Cf} (hc : RC c) (h : Right c) : plsum c = sadd (sadd (sadd (sadd 0 (plim c 1)) (plim c 2)) (plim c 3)) (plim c 4) := by
  have h8 := h.o.h8
  have z0 : plim c ((0 : Nat) : Int) = 0 := plim_out (.inl (by omega))
  have z4 : plim c 4 = 0 := plim_out (.inr (by omega))
  have e00 : sadd 0 0 = 0 := rfl
  have n3 : plsumN c 3 = sadd (sadd 0 (plim c 1)) (plim c 2) := by
    show sadd (sadd (sadd 0 (plim c ((0 : Nat) : Int))) (plim c ((1 : Nat) : Int))) (plim c ((2 : Nat) : Int)) = _
    rw [z0, e00]; rfl
  have n4 : plsumN c 4 = sadd (sadd (sadd 0 (plim c 1)) (plim c 2)) (plim c 3) := by
    show sadd (plsumN c 3) (plim c ((3 : Nat) : Int)) = _
    rw [n3]; rfl
  have n5 : plsumN c 5 = sadd (sadd (sadd (sadd 0 (plim c 1)) (plim c 2)) (plim c 3)) (plim c 4) := by
    show sadd (plsumN c 4) (plim c ((4 : Nat) : Int)) = _
    rw [n4]; rfl
  unfold plsum
  rcases (show c 8 = 3 ∨ c 8 = 4 ∨ c 8 = 5 by omega) with e | e | e
  · have z3 : plim c 3 = 0 := plim_out (.inr (by omega))
    rw [e]
    show plsumN c 3 = _
    rw [n3, z3, z4, sadd_zero (sadd_r _ _), sadd_zero (sadd_r _ _)]
  · rw [e]
    show plsumN c 4 = _
    rw [n4, z4, sadd_zero (sadd_r _ _)]
  · rw [e]
    exact n5
theorem q_ref {c : Cf} (h : Right c) : pq c = c 22 / c 3 + c 4 + 2 ∧ 0 ≤ c 22 / c 3 ∧ c 22 / c 3 ≤ 16777216 := by
  have h22 := h.o.h22
  have h3 := h.o.h3
  have h4 := h.o.h4
  have hd := div_le (show 0 ≤ c 22 by omega) (show 1 ≤ c 3 by omega)
  refine ⟨?_, hd.1, by omega⟩
  show sadd (sadd (sadd 0 (c 22 / c 3)) (c 4)) 2 = _
  generalize c 22 / c 3 = z at *
  rw [sadd_in (a := 0) (b := z) (by unfold R64; omega), sadd_in (a := 0 + z) (by unfold R64; omega), sadd_in (by unfold R64; omega)]
  omega
theorem b1_ref {c : Cf} (h : Right c) (d : Int) : pb1 c d = smul (c 0) (ssum [smul (c 22 / c 3 + c 4 + 2 + 2) (sadd (pt0 c d) 2), ptd c d, smul (c 4 + 1) (ssum [pt0 c d, ptf c (pmem c), 2]), 17408 / c 19, 18 * c 0, 24]) := by
  obtain ⟨e, q1, q2⟩ := q_ref h
  have h4 := h.o.h4
  have h0 := h.o.h0
  unfold pb1
  rw [e, sadd_in (a := c 22 / c 3 + c 4 + 2) (by unfold R64; omega), sadd_in (a := c 4) (b := 1) (by unfold R64; omega), smul_in (a := 18) (b := c 0) (by unfold R64; omega)]
theorem td_ref {c : Cf} (d : Int) : ptd c d = smul (sadd (smul (c 8) (py c d) / 450) 2) (ssum [ptc c (py c d), ptc c (pj c), ptf c (pmem c), 8]) := rfl
theorem ssum_assoc {t a b z : Int} (ht : 0 ≤ t) (ha : 0 ≤ a) (hb : 0 ≤ b) : ssum [t, a, b, z] = ssum [t, sadd a b, z] := by
  show sadd (sadd (sadd (sadd 0 t) a) b) z = sadd (sadd (sadd 0 t) (sadd a b)) z
  rw [sadd_assoc (sadd_nn (Int.le_refl _) ht) ha hb]
theorem ssum_front {a b z : Int} (ha : R64 a) : ssum [a, b, z] = sadd (sadd a b) z := by
  show sadd (sadd (sadd 0 a) b) z = _
  rw [zero_sadd ha]
theorem b2_ref {c : Cf} (h : Right c) {n : Int} (hn : 0 ≤ n) : pb2 c n = ssum [pb1 c n, smul (c 4 + 2) (ssum [ptf c (pmem c), sadd (ptc c (pn c n)) (ptc c (pj c)), 8]), smul (sadd (smul (c 8) (pn c n) / 450) 2) (sadd (sadd (ptc c (pn c n)) (ptc c (pj c))) 2), pn c n / c 16, c 8, 40] := by
  have h4 := h.o.h4
  unfold pb2
  rw [sadd_in (a := c 4) (b := 2) (by unfold R64; omega), ssum_assoc (ptf_nn h (pmem_nn h)) (ptc_nn h (pn_nn h hn)) (ptc_nn h (pj_nn h)), ssum_front (a := ptc c (pn c n)) (ssum_r _)]
  rfl
theorem a_ref {c : Cf} (h : Right c) (x y : Int) : pa c x y = ssum [smul 4 x, y, smul 16 (sadd (plsum c) (pdebt c)), smul (c 4 + 4) (pmem c), smul 2 (c 26), 131072] := by
  have h4 := h.o.h4
  unfold pa
  rw [sadd_in (a := c 4) (b := 4) (by unfold R64; omega)]

end Pcm
end Go.Proofs.YtebfokjgeknciabGreatDoor
