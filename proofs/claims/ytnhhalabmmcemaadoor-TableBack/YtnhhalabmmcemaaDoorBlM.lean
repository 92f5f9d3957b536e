import Derived.Test.YtnhhalabmmcemaaDoorCBackM
namespace Go.Proofs.YtnhhalabmmcemaaDoor
namespace BMath
open CMath
set_option linter.unusedVariables false
set_option maxRecDepth 20000

/-- A sum turned round by 17 bits to the right. -/
def turned (h : Nat) : Nat := h / 131072 + h % 131072 * 32768
theorem turned_lt {h : Nat} (hh : h < 4294967296) : turned h < 4294967296 := by unfold turned; omega
def probe (h m i : Nat) : Nat := (h + i * turned h) % 4294967296 % m
def spots (h m k : Nat) : List Nat := (List.range k).map (probe h m)
theorem spots_length (h m k : Nat) : (spots h m k).length = k := by simp [spots]
theorem spots_succ (h m k : Nat) : spots h m (k + 1) = spots h m k ++ [probe h m k] := by simp [spots, List.range_succ]
theorem spots_lt {h m k p : Nat} (hm : 0 < m) (hp : p ∈ spots h m k) : p < m := by
  simp only [spots, List.mem_map] at hp
  obtain ⟨i, _, rfl⟩ := hp
  exact Nat.mod_lt _ hm
theorem spots_at {h m k i : Nat} (hi : i < k) : (spots h m k)[i]? = some (probe h m i) := by simp [spots, hi]
theorem spots_take (h m k i : Nat) (hi : i ≤ k) : (spots h m k).take i = spots h m i := by
  simp only [spots, ← List.map_take]
  rw [List.take_range, Nat.min_eq_left hi]
theorem spots_pre {h m i k : Nat} (hi : i ≤ k) : spots h m i <+: spots h m k := by rw [← spots_take h m k i hi]; exact List.take_prefix _ _

/-- One place is set. -/
def put (l : List Nat) (p : Nat) : List Nat := l.set (p / 8) (l.getD (p / 8) 0 ||| 2 ^ (p % 8))
def puts (l : List Nat) (ps : List Nat) : List Nat := ps.foldl put l
def bit (l : List Nat) (p : Nat) : Bool := (l.getD (p / 8) 0).testBit (p % 8)
@[simp] theorem put_length (l : List Nat) (p : Nat) : (put l p).length = l.length := by simp [put]
@[simp] theorem puts_length (l : List Nat) (ps : List Nat) : (puts l ps).length = l.length := by
  induction ps generalizing l with
  | nil => rfl
  | cons p ps ih => show (puts (put l p) ps).length = _; rw [ih]; simp
theorem puts_append (l : List Nat) (ps qs : List Nat) : puts l (ps ++ qs) = puts (puts l ps) qs := by simp [puts]
theorem puts_one (l : List Nat) (p : Nat) : puts l [p] = put l p := rfl
theorem pow_lt {j : Nat} (h : j < 8) : 2 ^ j < 256 := Nat.pow_lt_pow_right (a := 2) (m := j) (n := 8) (by omega) h
theorem or256 {x y : Nat} (hx : x < 256) (hy : y < 256) : x ||| y < 256 := Nat.or_lt_two_pow (n := 8) hx hy
theorem getD_byte {l : List Nat} (h : ∀ x ∈ l, x < 256) (i : Nat) : l.getD i 0 < 256 := by
  rw [List.getD_eq_getElem?_getD]
  cases e : l[i]? with
  | none => simp
  | some x => simp; exact h x (List.mem_of_getElem? e)
theorem put_byte {l : List Nat} (h : ∀ x ∈ l, x < 256) (p : Nat) : ∀ x ∈ put l p, x < 256 := by
  intro x hx
  rcases List.mem_or_eq_of_mem_set hx with hx | rfl
  · exact h x hx
  · exact or256 (getD_byte h _) (pow_lt (Nat.mod_lt _ (by omega)))
theorem puts_byte {l : List Nat} (h : ∀ x ∈ l, x < 256) (ps : List Nat) : ∀ x ∈ puts l ps, x < 256 := by
  induction ps generalizing l with
  | nil => exact h
  | cons p ps ih => exact ih (put_byte h p)
theorem put_tail (l r : List Nat) (p : Nat) (h : p / 8 < l.length) : put (l ++ r) p = put l p ++ r := by
  unfold put
  rw [List.set_append_left _ _ h]
  simp [List.getD_eq_getElem?_getD, List.getElem?_append_left h]
theorem puts_tail (l r : List Nat) (ps : List Nat) (h : ∀ p ∈ ps, p / 8 < l.length) : puts (l ++ r) ps = puts l ps ++ r := by
  induction ps generalizing l with
  | nil => rfl
  | cons p ps ih =>
    show puts (put (l ++ r) p) ps = puts (put l p) ps ++ r
    rw [put_tail l r p (h p (by simp)), ih]
    intro q hq
    rw [put_length]
    exact h q (by simp [hq])
theorem put_comm (l : List Nat) (p q : Nat) : put (put l p) q = put (put l q) p := by
  unfold put
  by_cases h : p / 8 = q / 8
  · rw [h]
    by_cases hl : q / 8 < l.length
    · simp [List.getD_eq_getElem?_getD, hl, List.set_set, Nat.or_assoc, Nat.or_comm (2 ^ (p % 8))]
    · have h1 : l.length ≤ q / 8 := by omega
      simp [List.set_eq_of_length_le h1]
  · rw [List.set_comm _ _ h]
    have h' : ¬ q / 8 = p / 8 := fun e => h e.symm
    simp [List.getD_eq_getElem?_getD, List.getElem?_set_ne h, List.getElem?_set_ne h']
theorem puts_perm {ps qs : List Nat} (h : ps.Perm qs) (l : List Nat) : puts l ps = puts l qs := h.foldl_eq' (fun x _ y _ z => put_comm z x y) l

theorem bit_put (l : List Nat) (p q : Nat) (h : p / 8 < l.length) : bit (put l p) q = (bit l q || decide (p = q)) := by
  unfold bit put
  by_cases e : p / 8 = q / 8
  · rw [← e]
    have e1 : ((l.set (p / 8) (l.getD (p / 8) 0 ||| 2 ^ (p % 8))).getD (p / 8) 0) = l.getD (p / 8) 0 ||| 2 ^ (p % 8) := by simp [List.getD_eq_getElem?_getD, h]
    rw [e1, Nat.testBit_or, Nat.testBit_two_pow]
    congr 1
    by_cases e2 : p % 8 = q % 8
    · simp [e2]; omega
    · simp [e2]; omega
  · have e1 : ((l.set (p / 8) (l.getD (p / 8) 0 ||| 2 ^ (p % 8))).getD (q / 8) 0) = l.getD (q / 8) 0 := by simp [List.getD_eq_getElem?_getD, List.getElem?_set_ne e]
    rw [e1]
    have : ¬ p = q := fun h => e (by rw [h])
    simp [this]
theorem bit_puts (l : List Nat) (ps : List Nat) (q : Nat) (h : ∀ p ∈ ps, p / 8 < l.length) : bit (puts l ps) q = (bit l q || decide (q ∈ ps)) := by
  induction ps generalizing l with
  | nil => simp [puts]
  | cons p ps ih =>
    show bit (puts (put l p) ps) q = _
    rw [ih _ (fun z hz => by rw [put_length]; exact h z (by simp [hz])), bit_put _ _ _ (h p (by simp)), Bool.or_assoc]
    congr 1
    by_cases e : p = q
    · simp [e]
    · have : ¬ q = p := fun h => e h.symm
      simp [e, this]
theorem bit_tail (l r : List Nat) (q : Nat) (h : q / 8 < l.length) : bit (l ++ r) q = bit l q := by
  unfold bit
  simp [List.getD_eq_getElem?_getD, List.getElem?_append_left h]

/-- How many places, how many probes. -/
def places (n b : Nat) : Nat := min ((max (n * b) 64 + 7) / 8 * 8) 1048576
def probesN (b : Nat) : Nat := max (b * 69 / 100) 1
theorem places_8 (n b : Nat) : places n b / 8 * 8 = places n b ∧ 64 ≤ places n b ∧ places n b ≤ 1048576 := by unfold places; omega
theorem probesN_le {b : Nat} (h : b ≤ 16) : 1 ≤ probesN b ∧ probesN b ≤ 11 := by unfold probesN; omega
/-- All probes of all keys. -/
def allP (ks : List (List Nat)) (m k : Nat) : List Nat := ks.flatMap fun key => spots (crc key) m k
theorem allP_lt {ks : List (List Nat)} {m k p : Nat} (hm : 0 < m) (hp : p ∈ allP ks m k) : p < m := by
  simp only [allP, List.mem_flatMap] at hp
  obtain ⟨x, _, hx⟩ := hp
  exact spots_lt hm hx
theorem allP_snoc (ks : List (List Nat)) (x : List Nat) (m k : Nat) : allP (ks ++ [x]) m k = allP ks m k ++ spots (crc x) m k := by simp [allP]
/-- The places, and one byte behind them. -/
def body (ks : List (List Nat)) (m k : Nat) : List Nat := puts (List.replicate (m / 8) 0) (allP ks m k)
def mk (ks : List (List Nat)) (b : Int) : List Nat :=
  if b < 1 ∨ ks = [] then [] else body ks (places ks.length (min b 16).toNat) (probesN (min b 16).toNat) ++ [probesN (min b 16).toNat]
def may (f : List Nat) (key : List Nat) : Bool :=
  if f.length < 9 ∨ f.getD (f.length - 1) 0 = 0 ∨ 11 < f.getD (f.length - 1) 0 then true
  else (spots (crc key) (8 * (f.length - 1)) (f.getD (f.length - 1) 0)).all (bit f)
@[simp] theorem body_length (ks : List (List Nat)) (m k : Nat) : (body ks m k).length = m / 8 := by simp [body]
theorem body_byte (ks : List (List Nat)) (m k : Nat) : ∀ x ∈ body ks m k, x < 256 := puts_byte (by intro x hx; have := (List.mem_replicate.1 hx).2; omega) _
theorem mk_byte (ks : List (List Nat)) (b : Int) : ∀ x ∈ mk ks b, x < 256 := by
  intro x hx
  unfold mk at hx
  split at hx
  · cases hx
  · rcases List.mem_append.1 hx with hx | hx
    · exact body_byte _ _ _ x hx
    · have := (probesN_le (b := (min b 16).toNat) (by omega)).2
      simp at hx; omega
theorem mk_length_le (ks : List (List Nat)) (b : Int) : (mk ks b).length ≤ 131073 := by
  unfold mk
  split
  · simp
  · have := (places_8 ks.length (min b 16).toNat).2.2
    simp; omega
theorem mk_nil (ks : List (List Nat)) (b : Int) : (mk ks b).length = 0 ↔ (b < 1 ∨ ks = []) := by
  unfold mk
  split
  · rename_i h; simp [h]
  · rename_i h; simp [h]
theorem mk_some {ks : List (List Nat)} {b : Int} (h : ¬ (b < 1 ∨ ks = [])) : 9 ≤ (mk ks b).length := by
  unfold mk
  rw [if_neg h]
  have := (places_8 ks.length (min b 16).toNat).2.1
  simp; omega

/-- P8.4 -/
theorem may_mk {ks : List (List Nat)} {key : List Nat} (b : Int) (hk : key ∈ ks) : may (mk ks b) key = true := by
  unfold mk
  split
  · simp [may]
  · rename_i h
    generalize hm : places ks.length (min b 16).toNat = m
    generalize hp : probesN (min b 16).toNat = k
    obtain ⟨h8, h64, _⟩ := places_8 ks.length (min b 16).toNat
    obtain ⟨k1, k2⟩ := probesN_le (b := (min b 16).toNat) (by omega)
    rw [hm] at h8 h64
    rw [hp] at k1 k2
    have hl : (body ks m k ++ [k]).length = m / 8 + 1 := by simp
    have hg : (body ks m k ++ [k]).getD (m / 8) 0 = k := by
      rw [List.getD_eq_getElem?_getD, List.getElem?_append_right (by simp)]
      simp
    unfold may
    rw [hl, Nat.add_sub_cancel, hg, if_neg (by omega), show 8 * (m / 8) = m by omega, List.all_eq_true]
    intro p hps
    have hlt : p < m := spots_lt (by omega) hps
    rw [bit_tail _ _ _ (by simp; omega)]
    unfold body
    rw [bit_puts _ _ _ (fun q hq => by have := allP_lt (by omega) hq; simp; omega)]
    have : p ∈ allP ks m k := by
      simp only [allP, List.mem_flatMap]
      exact ⟨key, hk, hps⟩
    simp [this]
/-- P8.5 -/
theorem mk_reverse (ks : List (List Nat)) (b : Int) : mk ks.reverse b = mk ks b := by
  unfold mk
  by_cases h : b < 1 ∨ ks = []
  · rw [if_pos h, if_pos (by simpa using h)]
  · rw [if_neg h, if_neg (by simpa using h)]
    have : body ks.reverse (places ks.reverse.length (min b 16).toNat) (probesN (min b 16).toNat) = body ks (places ks.length (min b 16).toNat) (probesN (min b 16).toNat) := by
      rw [List.length_reverse]
      exact puts_perm ((List.reverse_perm ks).flatMap_right _) _
    rw [this]
/-- Places that are set besides make no answer false. -/
theorem may_put {f key : List Nat} {p : Nat} (hp : p / 8 < f.length - 1) (h : may f key = true) : may (put f p) key = true := by
  have hl : (put f p).getD (f.length - 1) 0 = f.getD (f.length - 1) 0 := by
    simp [put, List.getD_eq_getElem?_getD, List.getElem?_set_ne (show p / 8 ≠ f.length - 1 by omega)]
  unfold may at h ⊢
  rw [put_length, hl]
  split at h
  · rename_i hc; rw [if_pos hc]
  · rename_i hc
    rw [if_neg hc]
    rw [List.all_eq_true] at h ⊢
    intro q hq
    rw [bit_put _ _ _ (by omega), h q hq]
    rfl
theorem may_puts {f key ps : List Nat} (hp : ∀ p ∈ ps, p / 8 < f.length - 1) (h : may f key = true) : may (puts f ps) key = true := by
  induction ps generalizing f with
  | nil => exact h
  | cons p ps ih => exact ih (fun q hq => by rw [put_length]; exact hp q (by simp [hq])) (may_put (hp p (by simp)) h)
end BMath
end Go.Proofs.YtnhhalabmmcemaaDoor
