import Derived.Test.YtnhhalabmmcemaaDoorCMath
import Derived.Test.YtnhhalabmmcemaaDoorCBackM
import Derived.Test.YtnhhalabmmcemaaDoorByt
import Derived.Test.YtnhhalabmmcemaaDoorMath
namespace Go.Proofs.YtnhhalabmmcemaaDoor
namespace Qb
open CMath Byt KMath
set_option linter.unusedVariables false
set_option linter.unusedSimpArgs false

/-! The block's mathematics: entries, their bytes, the walk, the maker. -/
abbrev En := ByteArray × Int × Bool × ByteArray
def kB (e : En) : List Nat := strB e.1
def vB (e : En) : List Nat := strB e.2.2.2
/-- How many first bytes are the same. -/
def shr : List Nat → List Nat → Nat
  | a :: l, b :: r => if a = b then shr l r + 1 else 0
  | _, _ => 0
theorem shr_le_left (l r : List Nat) : shr l r ≤ l.length := by
  induction l generalizing r with
  | nil => simp [shr]
  | cons a l ih =>
    cases r with
    | nil => simp [shr]
    | cons b r =>
      simp only [shr]
      split
      · have := ih r; simp; omega
      · simp
theorem shr_le_right (l r : List Nat) : shr l r ≤ r.length := by
  induction l generalizing r with
  | nil => simp [shr]
  | cons a l ih =>
    cases r with
    | nil => simp [shr]
    | cons b r =>
      simp only [shr]
      split
      · have := ih r; simp; omega
      · simp
theorem shr_take (l r : List Nat) : ∀ s, s ≤ shr l r → l.take s = r.take s := by
  induction l generalizing r with
  | nil => intro s h; simp [shr] at h; subst h; simp
  | cons a l ih =>
    intro s h
    cases r with
    | nil => simp [shr] at h; subst h; simp
    | cons b r =>
      cases s with
      | zero => simp
      | succ s =>
        simp only [shr] at h
        split at h
        · rename_i e; subst e
          rw [List.take_succ_cons, List.take_succ_cons, ih r s (by omega)]
        · omega
/-- The shared bytes, found from the left. -/
theorem shr_at (l r : List Nat) (k : Nat) (h : l.take k = r.take k) (hl : k < l.length) (hr : k < r.length) (hne : l[k]? ≠ r[k]?) : shr l r = k := by
  induction l generalizing r k with
  | nil => simp at hl
  | cons a l ih =>
    cases r with
    | nil => simp at hr
    | cons b r =>
      cases k with
      | zero => simp at hne; simp [shr, hne]
      | succ k =>
        rw [List.take_succ_cons, List.take_succ_cons] at h
        simp only [List.cons.injEq] at h
        simp only [shr, if_pos h.1]
        rw [ih r k h.2 (by simpa using hl) (by simpa using hr) (by simpa using hne)]
theorem shr_end (l r : List Nat) (k : Nat) (hk : k = min l.length r.length) (h : l.take k = r.take k) : shr l r = k := by
  induction l generalizing r k with
  | nil => simp at hk; simp [shr, hk]
  | cons a l ih =>
    cases r with
    | nil => simp at hk; simp [shr, hk]
    | cons b r =>
      cases k with
      | zero => simp at hk
      | succ k =>
        rw [List.take_succ_cons, List.take_succ_cons] at h
        simp only [List.cons.injEq] at h
        simp only [shr, if_pos h.1]
        rw [ih r k (by simp at hk; omega) h.2]

def tag (e : En) : Nat := 2 * e.2.1.toNat + (if e.2.2.1 then 1 else 0)
/-- The bytes of an entry, so many of whose key's bytes are shared (P9.3). -/
def entB (s : Nat) (e : En) : List Nat := num s ++ (num ((kB e).length - s) ++ (num (tag e) ++ ((kB e).drop s ++ (if e.2.2.1 then [] else words (vB e)))))

/-- Why an entry can't be written (P9.1, P9.4). -/
def fault (e : En) : Int :=
  if e.1.size = 0 then 10 else if 64 < e.1.size then 11 else if e.2.2.1 = false ∧ 512 < e.2.2.2.size then 12
  else if 72057594037927935 < e.2.1 ∨ (e.2.2.1 = true ∧ e.2.2.2.size ≠ 0) then 91 else 0
/-- What Add answers behind a key. -/
def adds (last : ByteArray) (e : En) : Int := if fault e ≠ 0 then fault e else if Op.bytesLess last.data.toList e.1.data.toList = true then 0 else 90

structure Ok (e : En) : Prop where
  k1 : 1 ≤ e.1.size
  k2 : e.1.size ≤ 64
  v : e.2.2.1 = false → e.2.2.2.size ≤ 512
  q : e.2.1 ≤ 72057594037927935
  d : e.2.2.1 = true → e.2.2.2.size = 0
theorem fault_ok {e : En} (h : fault e = 0) : Ok e := by
  unfold fault at h
  split at h
  · simp at h
  split at h
  · simp at h
  split at h
  · simp at h
  split at h
  · simp at h
  rename_i h1 h2 h3 h4
  refine ⟨by omega, by omega, fun hd => ?_, ?_, fun hd => ?_⟩
  · rcases Nat.lt_or_ge 512 e.2.2.2.size with hv | hv
    · exact absurd ⟨hd, hv⟩ h3
    · exact hv
  · by_cases hq : 72057594037927935 < e.2.1
    · exact absurd (.inl hq) h4
    · omega
  · by_cases hv : e.2.2.2.size = 0
    · exact hv
    · exact absurd (.inr ⟨hd, hv⟩) h4
theorem adds_ok {last : ByteArray} {e : En} (h : adds last e = 0) : fault e = 0 ∧ Op.bytesLess last.data.toList e.1.data.toList = true := by
  unfold adds at h
  split at h
  · contradiction
  · rename_i h1
    split at h
    · rename_i h2; exact ⟨by simpa using h1, h2⟩
    · simp at h

/-- An entry read behind a key: it, and how many bytes it takes. -/
def rdE (b : List Nat) (ah : List Nat) : Option (En × Nat) :=
  if (rd b 0 0).2.2 ≠ 0 then none else
  if (rd (b.drop (rd b 0 0).2.1) 0 0).2.2 ≠ 0 then none else
  if (rd (b.drop ((rd b 0 0).2.1 + (rd (b.drop (rd b 0 0).2.1) 0 0).2.1)) 0 0).2.2 ≠ 0 then none else
  rdK b ah (rd b 0 0).1 (rd (b.drop (rd b 0 0).2.1) 0 0).1 (rd (b.drop ((rd b 0 0).2.1 + (rd (b.drop (rd b 0 0).2.1) 0 0).2.1)) 0 0).1 ((rd b 0 0).2.1 + (rd (b.drop (rd b 0 0).2.1) 0 0).2.1 + (rd (b.drop ((rd b 0 0).2.1 + (rd (b.drop (rd b 0 0).2.1) 0 0).2.1)) 0 0).2.1)
where
  rdK (b ah : List Nat) (s m t p : Nat) : Option (En × Nat) :=
    if ah.length < s ∨ 64 < s + m ∨ b.length - p < m then none
    else if t % 2 = 1 then some ((ofB (ah.take s ++ (b.drop p).take m), ((t / 2 : Nat) : Int), true, ⟨#[]⟩), p + m)
    else if (text (b.drop (p + m)) 512).2.2 ≠ 0 then none
    else some ((ofB (ah.take s ++ (b.drop p).take m), ((t / 2 : Nat) : Int), false, ofB (text (b.drop (p + m)) 512).1), p + m + (text (b.drop (p + m)) 512).2.1)

theorem rd_is (n : Nat) (more : List Nat) (h : n < 18446744073709551616) : rd (num n ++ more) 0 0 = (n, (num n).length, 0) := by
  have := rd_num more n 0 0 (by simpa using h) (by omega)
  simpa using this
theorem text_is (s more : List Nat) (h : s.length ≤ 512) : text (words s ++ more) 512 = (s, (words s).length, 0) := by
  have e : rd (words s ++ more) 0 0 = (s.length, (num s.length).length, 0) := by
    unfold words
    rw [List.append_assoc]
    exact rd_is _ _ (by omega)
  unfold text
  rw [e]
  simp only [ne_eq, not_true_eq_false, if_false]
  rw [if_neg (by omega), if_neg (by simp [words])]
  have : words s ++ more = num s.length ++ (s ++ more) := by simp [words]
  rw [this, List.drop_left, List.take_left]
  simp [words]

theorem ofB_strB (s : ByteArray) : ofB (strB s) = s := strB_inj (strB_ofB (strB_byte s))
theorem size0 {v : ByteArray} (h : v.size = 0) : v = ⟨#[]⟩ := by
  apply strB_inj
  have : (strB v).length = 0 := by rw [strB_length]; exact h
  rw [List.eq_nil_of_length_eq_zero this]
  rfl

/-- What is written is read again. -/
theorem rdE_entB (s : Nat) (e : En) (ah more : List Nat) (h : Ok e) (h0 : 0 ≤ e.2.1) (hs : s ≤ shr ah (kB e)) : rdE (entB s e ++ more) ah = some (e, (entB s e).length) := by
  obtain ⟨k, q, d, v⟩ := e
  obtain ⟨k1, k2, hv, hq, hd⟩ := h
  simp only at k1 k2 hv hq hd h0
  obtain ⟨q, rfl⟩ := Int.eq_ofNat_of_zero_le h0
  have hsk := shr_le_right ah (kB (k, (q : Int), d, v))
  have hsa := shr_le_left ah (kB (k, (q : Int), d, v))
  have hkl : (kB (k, (q : Int), d, v)).length = k.size := strB_length k
  have ht : tag (k, (q : Int), d, v) < 18446744073709551616 := by
    unfold tag; simp only [Int.toNat_natCast]; split <;> omega
  generalize hK : kB (k, (q : Int), d, v) = K at *
  have e1 : ∀ m2, rd (num s ++ m2) 0 0 = (s, (num s).length, 0) := fun m2 => rd_is _ _ (by omega)
  have e2 : ∀ m2, rd (num (K.length - s) ++ m2) 0 0 = (K.length - s, (num (K.length - s)).length, 0) := fun m2 => rd_is _ _ (by omega)
  have e3 : ∀ m2, rd (num (tag (k, (q : Int), d, v)) ++ m2) 0 0 = (tag (k, (q : Int), d, v), (num (tag (k, (q : Int), d, v))).length, 0) := fun m2 => rd_is _ _ ht
  have hB : entB s (k, (q : Int), d, v) ++ more = num s ++ (num (K.length - s) ++ (num (tag (k, (q : Int), d, v)) ++ (K.drop s ++ ((if d then [] else words (vB (k, (q : Int), d, v))) ++ more)))) := by
    unfold entB
    rw [hK]
    simp
  have hL : (entB s (k, (q : Int), d, v)).length = (num s).length + (num (K.length - s)).length + (num (tag (k, (q : Int), d, v))).length + (K.length - s) + (if d then [] else words (vB (k, (q : Int), d, v))).length := by
    unfold entB
    rw [hK]
    simp only [List.length_append, List.length_drop]
    omega
  rw [hB, hL]
  generalize hR : (if d then [] else words (vB (k, (q : Int), d, v))) = R at *
  generalize hT : tag (k, (q : Int), d, v) = T at *
  have d1 : ∀ x, (num s ++ x).drop (num s).length = x := fun x => List.drop_left
  have d2 : ∀ x, (num s ++ (num (K.length - s) ++ x)).drop ((num s).length + (num (K.length - s)).length) = x := by
    intro x
    rw [← List.drop_drop, List.drop_left, List.drop_left]
  have d3 : ∀ x, (num s ++ (num (K.length - s) ++ (num T ++ x))).drop ((num s).length + (num (K.length - s)).length + (num T).length) = x := by
    intro x
    rw [← List.drop_drop, d2, List.drop_left]
  have d4 : ∀ x, (num s ++ (num (K.length - s) ++ (num T ++ (K.drop s ++ x)))).drop ((num s).length + (num (K.length - s)).length + (num T).length + (K.length - s)) = x := by
    intro x
    rw [← List.drop_drop, d3]
    have : (K.drop s).length = K.length - s := by simp
    rw [← this, List.drop_left]
  unfold rdE
  rw [e1]
  simp only [ne_eq, not_true_eq_false, if_false, d1, e2, d2, e3]
  unfold rdE.rdK
  rw [if_neg (by
    simp only [List.length_append, List.length_drop]
    omega)]
  rw [d3, d4]
  have hkey : ofB (ah.take s ++ List.take (K.length - s) (K.drop s ++ (R ++ more))) = k := by
    have : (K.drop s).length = K.length - s := by simp
    rw [← this, List.take_left, shr_take _ _ s hs, List.take_append_drop, ← hK]
    exact ofB_strB k
  rw [hkey]
  cases d with
  | true =>
    have hTv : T % 2 = 1 ∧ T / 2 = q := by rw [← hT]; unfold tag; simp; omega
    rw [if_pos hTv.1, hTv.2]
    simp only [if_true] at hR
    subst hR
    rw [size0 (hd rfl)]
    simp
  | false =>
    have hTv : T % 2 ≠ 1 ∧ T / 2 = q := by rw [← hT]; unfold tag; simp
    rw [if_neg hTv.1, hTv.2]
    simp only [Bool.false_eq_true, if_false] at hR
    have hx : text (R ++ more) 512 = (vB (k, (q : Int), false, v), R.length, 0) := by
      rw [← hR]
      refine text_is _ _ ?_
      unfold vB
      rw [strB_length]
      exact hv rfl
    rw [hx]
    simp only [ne_eq, not_true_eq_false, if_false]
    have : ofB (vB (k, (q : Int), false, v)) = v := ofB_strB v
    rw [this]

/-- The entries of bytes, each with how many bytes it takes. -/
def wk (b ah : List Nat) : List (En × Nat) :=
  if hb : b = [] then []
  else match rdE b ah with
    | none => []
    | some x => if h0 : x.2 = 0 then [] else x :: wk (b.drop x.2) (kB x.1)
  termination_by b.length
  decreasing_by
    have : 0 < b.length := List.length_pos_iff.2 hb
    simp; omega
theorem wk_nil (ah : List Nat) : wk [] ah = [] := by rw [wk, dif_pos rfl]
theorem wk_none {b ah : List Nat} (h : rdE b ah = none) : wk b ah = [] := by
  rw [wk]
  split
  · rfl
  · rw [h]
theorem rd_pos {l : List Nat} (h : (rd l 0 0).2.2 = 0) (hb : ∀ x ∈ l, x < 256) : 0 < (rd l 0 0).2.1 := by
  obtain ⟨m, _, e2, _⟩ := rd_ok l hb 0 0 _ _ (by omega) (show rd l 0 0 = ((rd l 0 0).1, (rd l 0 0).2.1, 0) from Prod.ext rfl (Prod.ext rfl h))
  have := num_pos m
  omega
theorem rdE_pos {b ah : List Nat} {x : En × Nat} (h : rdE b ah = some x) (hb : ∀ x ∈ b, x < 256) : 0 < x.2 := by
  unfold rdE at h
  split at h
  · cases h
  split at h
  · cases h
  split at h
  · cases h
  rename_i h1 h2 h3
  have := rd_pos (by simpa using h1) hb
  unfold rdE.rdK at h
  split at h
  · cases h
  split at h
  · cases h; simp only; omega
  split at h
  · cases h
  · cases h; simp only; omega
theorem wk_some {b ah : List Nat} {x : En × Nat} (hb : b ≠ []) (hB : ∀ x ∈ b, x < 256) (h : rdE b ah = some x) : wk b ah = x :: wk (b.drop x.2) (kB x.1) := by
  have := rdE_pos h hB
  conv => lhs; rw [wk]
  rw [dif_neg hb, h]
  simp only
  rw [dif_neg (by omega)]

/-- The bytes of entries behind others. -/
def tl (r : Nat) : Nat → List Nat → List En → List Nat
  | _, _, [] => []
  | n, last, e :: l => entB (if n % r = 0 then 0 else shr last (kB e)) e ++ tl r (n + 1) (kB e) l
theorem entB_byte (s : Nat) (e : En) : ∀ x ∈ entB s e, x < 256 := by
  intro x hx
  unfold entB at hx
  simp only [List.mem_append] at hx
  rcases hx with hx | hx | hx | hx | hx
  · exact num_byte _ x hx
  · exact num_byte _ x hx
  · exact num_byte _ x hx
  · exact strB_byte _ x (List.mem_of_mem_drop hx)
  · split at hx
    · simp at hx
    · unfold words at hx
      rcases List.mem_append.1 hx with hx | hx
      · exact num_byte _ x hx
      · exact strB_byte _ x hx
theorem tl_byte (r : Nat) (l : List En) : ∀ n last, ∀ x ∈ tl r n last l, x < 256 := by
  induction l with
  | nil => intro n last x hx; simp [tl] at hx
  | cons e l ih =>
    intro n last x hx
    simp only [tl] at hx
    rcases List.mem_append.1 hx with hx | hx
    · exact entB_byte _ _ x hx
    · exact ih _ _ x hx
theorem entB_pos (s : Nat) (e : En) : 0 < (entB s e).length := by
  unfold entB
  have := num_pos s
  simp only [List.length_append]; omega
theorem entB_ne (s : Nat) (e : En) (m : List Nat) : entB s e ++ m ≠ [] := by
  intro h
  have := congrArg List.length h
  have hp := entB_pos s e
  simp at this
  rw [this.1] at hp
  simp at hp

def szs (r : Nat) : Nat → List Nat → List En → List (En × Nat)
  | _, _, [] => []
  | n, last, e :: l => (e, (entB (if n % r = 0 then 0 else shr last (kB e)) e).length) :: szs r (n + 1) (kB e) l
theorem szs_map (r : Nat) (l : List En) : ∀ n last, (szs r n last l).map Prod.fst = l := by
  induction l with
  | nil => intro n last; rfl
  | cons e l ih => intro n last; simp only [szs, List.map_cons, ih]
/-- What the walk finds in the bytes of entries: just these. -/
theorem wk_tl (r : Nat) (l : List En) (hok : ∀ e ∈ l, Ok e ∧ 0 ≤ e.2.1) : ∀ n last ah, (ah = last ∨ n % r = 0) → wk (tl r n last l) ah = szs r n last l := by
  induction l with
  | nil => intro n last ah _; simp only [tl, szs]; exact wk_nil _
  | cons e l ih =>
    intro n last ah h
    have he := hok e (by simp)
    simp only [tl, szs]
    rw [wk_some (entB_ne _ _ _) (fun x hx => by
      rcases List.mem_append.1 hx with hx | hx
      · exact entB_byte _ _ x hx
      · exact tl_byte _ _ _ _ x hx) (rdE_entB _ e ah _ he.1 he.2 (by
        split
        · omega
        · rename_i hn
          rcases h with h | h
          · rw [h]; exact Nat.le_refl _
          · exact absurd h hn))]
    simp only
    rw [List.drop_left, ih (fun x hx => hok x (by simp [hx])) _ _ _ (.inl rfl)]

/-! The maker. -/
structure St where
  b : List Nat
  p : List Nat
  n : Nat
  last : ByteArray
def sh (r : Nat) (s : St) (e : En) : Nat := if s.n % r = 0 then 0 else shr (strB s.last) (kB e)
def plc (r : Nat) (s : St) : List Nat := if s.n % r = 0 then s.p ++ four s.b.length else s.p
def push (r : Nat) (s : St) (e : En) : St := ⟨s.b ++ entB (sh r s e) e, plc r s, s.n + 1, e.1⟩
def st0 : St := ⟨[], [], 0, ⟨#[]⟩⟩
def pushes (r : Nat) (s : St) (l : List En) : St := l.foldl (push r) s
def blk0 (s : St) : List Nat := s.b ++ s.p ++ four (s.p.length / 4)
def blk (s : St) : List Nat := blk0 s ++ four (crc (blk0 s))
/-- All of the entries are taken. -/
def chain : ByteArray → List En → Prop
  | _, [] => True
  | last, e :: l => adds last e = 0 ∧ chain e.1 l
theorem pushes_b (r : Nat) (l : List En) : ∀ s, (pushes r s l).b = s.b ++ tl r s.n (strB s.last) l := by
  induction l with
  | nil => intro s; simp [pushes, tl]
  | cons e l ih =>
    intro s
    show (pushes r (push r s e) l).b = _
    rw [ih]
    simp only [push, tl, sh, List.append_assoc]
    rfl
theorem pushes_last (r : Nat) (s : St) (l : List En) (e : En) : (pushes r s (l ++ [e])).last = e.1 := by
  unfold pushes
  rw [List.foldl_append]
  rfl
theorem pushes_n (r : Nat) (l : List En) : ∀ s, (pushes r s l).n = s.n + l.length := by
  induction l with
  | nil => intro s; rfl
  | cons e l ih =>
    intro s
    show (pushes r (push r s e) l).n = _
    rw [ih]
    simp only [push, List.length_cons]; omega
theorem pushes_snoc (r : Nat) (s : St) (l : List En) (e : En) : pushes r s (l ++ [e]) = push r (pushes r s l) e := by
  unfold pushes
  rw [List.foldl_append]
  rfl
theorem chain_ok {last : ByteArray} {l : List En} (h : chain last l) : ∀ e ∈ l, Ok e := by
  induction l generalizing last with
  | nil => intro e he; simp at he
  | cons x l ih =>
    intro e he
    rcases List.mem_cons.1 he with rfl | he
    · exact fault_ok (adds_ok h.1).1
    · exact ih h.2 e he

end Qb
end Go.Proofs.YtnhhalabmmcemaaDoor
namespace Go.Proofs.YtnhhalabmmcemaaDoor
namespace Qb
open CMath Byt KMath
set_option linter.unusedVariables false
set_option linter.unusedSimpArgs false

/-! Open's mathematics: which restart, and that what was made is read again. -/
theorem pushes_app (r : Nat) (s : St) (l m : List En) : pushes r s (l ++ m) = pushes r (pushes r s l) m := by
  unfold pushes; rw [List.foldl_append]
theorem pushes_cons (r : Nat) (s : St) (e : En) (l : List En) : pushes r s (e :: l) = pushes r (push r s e) l := rfl
theorem four_len (x : Nat) : (four x).length = 4 := rfl
theorem plc_pre (r : Nat) (s : St) : ∃ m, plc r s = s.p ++ m := by
  unfold plc
  split
  · exact ⟨_, rfl⟩
  · exact ⟨[], by simp⟩
theorem pushes_pre (r : Nat) (l : List En) : ∀ s, ∃ m, (pushes r s l).p = s.p ++ m := by
  induction l with
  | nil => intro s; exact ⟨[], by simp [pushes]⟩
  | cons e l ih =>
    intro s
    obtain ⟨m, hm⟩ := ih (push r s e)
    obtain ⟨m', hm'⟩ := plc_pre r s
    refine ⟨m' ++ m, ?_⟩
    rw [pushes_cons, hm]
    show plc r s ++ m = _
    rw [hm', List.append_assoc]
theorem pushes_p4 (r : Nat) (l : List En) : ∀ s, s.p.length % 4 = 0 → (pushes r s l).p.length % 4 = 0 := by
  induction l with
  | nil => intro s h; exact h
  | cons e l ih =>
    intro s h
    rw [pushes_cons]
    refine ih _ ?_
    show (plc r s).length % 4 = 0
    unfold plc
    split
    · rw [List.length_append, four_len]; omega
    · exact h
theorem plc_byte (r : Nat) (s : St) (h : ∀ x ∈ s.p, x < 256) : ∀ x ∈ plc r s, x < 256 := by
  intro x hx
  unfold plc at hx
  split at hx
  · rcases List.mem_append.1 hx with hx | hx
    · exact h x hx
    · exact four_byte _ x hx
  · exact h x hx
theorem pushes_pbyte (r : Nat) (l : List En) : ∀ s, (∀ x ∈ s.p, x < 256) → ∀ x ∈ (pushes r s l).p, x < 256 := by
  induction l with
  | nil => intro s h; exact h
  | cons e l ih =>
    intro s h
    rw [pushes_cons]
    exact ih _ (plc_byte r s h)
/-- No restart point besides, as long as none is reached. -/
theorem pushes_none (r : Nat) (l : List En) : ∀ s, (∀ i, i < l.length → (s.n + i) % r ≠ 0) → (pushes r s l).p = s.p := by
  induction l with
  | nil => intro s _; rfl
  | cons e l ih =>
    intro s h
    rw [pushes_cons, ih _ (fun i hi => by
      have := h (i + 1) (by simpa using hi)
      show (s.n + 1 + i) % r ≠ 0
      rw [show s.n + 1 + i = s.n + (i + 1) by omega]
      exact this)]
    show plc r s = s.p
    unfold plc
    rw [if_neg (by have := h 0 (by simp); simpa using this)]
theorem pushes_eq (r r' : Nat) (l : List En) : ∀ s, (∀ i, i < l.length → ((s.n + i) % r = 0 ↔ (s.n + i) % r' = 0)) → pushes r s l = pushes r' s l := by
  induction l with
  | nil => intro s _; rfl
  | cons e l ih =>
    intro s h
    have h0 := h 0 (by simp)
    simp only [Nat.add_zero] at h0
    have e1 : push r s e = push r' s e := by
      unfold push sh plc
      by_cases hz : s.n % r = 0
      · rw [if_pos hz, if_pos hz, if_pos (h0.1 hz), if_pos (h0.1 hz)]
      · have hz' : ¬ s.n % r' = 0 := fun h' => hz (h0.2 h')
        rw [if_neg hz, if_neg hz, if_neg hz', if_neg hz']
    rw [pushes_cons, pushes_cons, e1]
    refine ih _ fun i hi => ?_
    have := h (i + 1) (by simpa using hi)
    show (s.n + 1 + i) % r = 0 ↔ (s.n + 1 + i) % r' = 0
    rw [show s.n + 1 + i = s.n + (i + 1) by omega]
    exact this
theorem mod_zero_small {i r : Nat} (h : i < r) : i % r = 0 ↔ i = 0 := by rw [Nat.mod_eq_of_lt h]

/-- The first r entries have one restart point, and the next one begins the second. -/
theorem p_first (r : Nat) (l : List En) (hr : 1 ≤ r) (hl : l.length ≤ r) (hne : l ≠ []) : (pushes r st0 l).p = four 0 := by
  cases l with
  | nil => exact absurd rfl hne
  | cons e l =>
    rw [pushes_cons, pushes_none]
    · show plc r st0 = _
      unfold plc
      rw [if_pos (by simp [st0])]
      rfl
    · intro i hi
      show (0 + 1 + i) % r ≠ 0
      rw [Nat.mod_eq_of_lt (by simp at hl; omega)]
      omega
theorem p_nil (r : Nat) : (pushes r st0 []).p = [] := rfl
theorem p_second (r : Nat) (l1 : List En) (e : En) (l2 : List En) (hr : 1 ≤ r) (h1 : l1.length = r) : ∃ m, (pushes r st0 (l1 ++ e :: l2)).p = four 0 ++ (four (pushes r st0 l1).b.length ++ m) := by
  rw [pushes_app, pushes_cons]
  obtain ⟨m, hm⟩ := pushes_pre r l2 (push r (pushes r st0 l1) e)
  refine ⟨m, ?_⟩
  rw [hm]
  show plc r (pushes r st0 l1) ++ m = _
  unfold plc
  have hn : (pushes r st0 l1).n = r := by rw [pushes_n, h1]; simp [st0]
  rw [if_pos (by rw [hn]; exact Nat.mod_self r), p_first r l1 hr (by omega) (by intro h; rw [h] at h1; simp at h1; omega)]
  simp

/-- How many entries are ahead of a place. -/
def cnt : List (En × Nat) → Nat → Nat → Nat
  | [], _, _ => 0
  | x :: t, p, q => if p = q then 0 else cnt t (p + x.2) q + 1
def sumS (l : List (En × Nat)) : Nat := (l.map Prod.snd).foldr (· + ·) 0
theorem sumS_cons (x : En × Nat) (l : List (En × Nat)) : sumS (x :: l) = x.2 + sumS l := rfl
theorem cnt_at (l m : List (En × Nat)) (hp : ∀ x ∈ l, 0 < x.2) (hm : m ≠ []) : ∀ p q, q = p + sumS l → cnt (l ++ m) p q = l.length := by
  induction l with
  | nil =>
    intro p q hq
    cases m with
    | nil => exact absurd rfl hm
    | cons x m => simp [sumS] at hq; simp [cnt, hq]
  | cons x l ih =>
    intro p q hq
    have h0 := hp x (by simp)
    rw [sumS_cons] at hq
    simp only [List.cons_append, cnt]
    rw [if_neg (by omega), ih (fun y hy => hp y (by simp [hy])) (p + x.2) q (by omega)]
    rfl
theorem szs_pos (r : Nat) (l : List En) : ∀ n last, ∀ x ∈ szs r n last l, 0 < x.2 := by
  induction l with
  | nil => intro n last x hx; simp [szs] at hx
  | cons e l ih =>
    intro n last x hx
    simp only [szs, List.mem_cons] at hx
    rcases hx with rfl | hx
    · exact entB_pos _ _
    · exact ih _ _ x hx
theorem szs_sum (r : Nat) (l : List En) : ∀ n last, sumS (szs r n last l) = (tl r n last l).length := by
  induction l with
  | nil => intro n last; rfl
  | cons e l ih => intro n last; simp only [szs, tl, sumS_cons, ih, List.length_append]
theorem szs_app (r : Nat) (l m : List En) : ∀ n last, ∃ last', szs r n last (l ++ m) = szs r n last l ++ szs r (n + l.length) last' m := by
  induction l with
  | nil => intro n last; exact ⟨last, by simp [szs]⟩
  | cons e l ih =>
    intro n last
    obtain ⟨last', h⟩ := ih (n + 1) (kB e)
    refine ⟨last', ?_⟩
    simp only [List.cons_append, szs, h, List.length_cons]
    rw [show n + 1 + l.length = n + (l.length + 1) by omega]
theorem szs_length (r : Nat) (l : List En) : ∀ n last, (szs r n last l).length = l.length := by
  induction l with
  | nil => intro n last; rfl
  | cons e l ih => intro n last; simp [szs, ih]

/-- The restart that a block can have. -/
def rst (eb pb : List Nat) : Nat := if pb.length / 4 < 2 then 9223372036854775807 else cnt (wk eb []) 0 (val ((pb.drop 4).take 4))
/-- What Open takes of bytes: the restart, and the entries. -/
noncomputable def opn (b : List Nat) : Option (Nat × List En) :=
  if b.length < 8 then none
  else if b.length - 8 < 4 * val ((b.drop (b.length - 8)).take 4) then none
  else opn2 b (b.length - 8 - 4 * val ((b.drop (b.length - 8)).take 4))
where
  opn2 (b : List Nat) (p : Nat) : Option (Nat × List En) := opn3 b (b.take p) (rst (b.take p) ((b.drop p).take (b.length - 8 - p)))
  opn3 (b eb : List Nat) (r : Nat) : Option (Nat × List En) := open Classical in
    if chain ⟨#[]⟩ ((wk eb []).map Prod.fst) ∧ blk (pushes (max r 1) st0 ((wk eb []).map Prod.fst)) = b then some (max r 1, (wk eb []).map Prod.fst) else none

theorem pushes_len4 (r : Nat) (l : List En) : 4 * ((pushes r st0 l).p.length / 4) = (pushes r st0 l).p.length := by
  have := pushes_p4 r l st0 (by simp [st0])
  omega
theorem blk_len (s : St) : (blk s).length = s.b.length + s.p.length + 8 := by simp [blk, blk0, four_len]; omega
theorem blk_tail (s : St) : (blk s).drop (s.b.length + s.p.length) = four (s.p.length / 4) ++ four (crc (blk0 s)) := by
  unfold blk blk0
  have : s.b ++ s.p ++ four (s.p.length / 4) ++ four (crc (s.b ++ s.p ++ four (s.p.length / 4))) = (s.b ++ s.p) ++ (four (s.p.length / 4) ++ four (crc (s.b ++ s.p ++ four (s.p.length / 4)))) := by simp
  rw [this, ← List.length_append, List.drop_left]

theorem rst_mk (r : Nat) (l : List En) (hr : 1 ≤ r) (hok : ∀ e ∈ l, Ok e ∧ 0 ≤ e.2.1) (hb : (pushes r st0 l).b.length < 4294967296) (hl : l.length ≤ 9223372036854775807) :
    1 ≤ rst (pushes r st0 l).b (pushes r st0 l).p ∧ pushes (rst (pushes r st0 l).b (pushes r st0 l).p) st0 l = pushes r st0 l := by
  by_cases hlr : l.length ≤ r
  · have hp : (pushes r st0 l).p.length / 4 < 2 := by
      by_cases hne : l = []
      · subst hne; rw [p_nil]; simp
      · rw [p_first r l hr hlr hne]; simp [four_len]
    unfold rst
    rw [if_pos hp]
    refine ⟨by omega, pushes_eq _ _ l st0 fun i hi => ?_⟩
    show (0 + i) % _ = 0 ↔ (0 + i) % r = 0
    rw [Nat.zero_add, mod_zero_small (by omega), mod_zero_small (by omega)]
  · obtain ⟨l1, e, l2, rfl, h1⟩ : ∃ l1 e l2, l = l1 ++ e :: l2 ∧ l1.length = r := by
      refine ⟨l.take r, l[r]'(by omega), l.drop (r + 1), ?_, by rw [List.length_take]; omega⟩
      rw [← List.drop_eq_getElem_cons, List.take_append_drop]
    obtain ⟨m, hm⟩ := p_second r l1 e l2 hr h1
    have hp : ¬ (pushes r st0 (l1 ++ e :: l2)).p.length / 4 < 2 := by rw [hm]; simp [four_len]
    have hb1 : (pushes r st0 l1).b.length < 4294967296 := by
      rw [pushes_app, pushes_b] at hb
      simp at hb; omega
    have hv : val (((pushes r st0 (l1 ++ e :: l2)).p.drop 4).take 4) = (pushes r st0 l1).b.length := by
      rw [hm]
      have e1 : (four 0 ++ (four (pushes r st0 l1).b.length ++ m)).drop 4 = four (pushes r st0 l1).b.length ++ m := List.drop_left (l₁ := four 0)
      have e2 : (four (pushes r st0 l1).b.length ++ m).take 4 = four (pushes r st0 l1).b.length := List.take_left (l₁ := four _)
      rw [e1, e2]
      exact four_val hb1
    have hw : wk (pushes r st0 (l1 ++ e :: l2)).b [] = szs r 0 [] (l1 ++ e :: l2) := by
      rw [pushes_b]
      exact wk_tl r _ hok 0 [] [] (.inl rfl)
    have hc : rst (pushes r st0 (l1 ++ e :: l2)).b (pushes r st0 (l1 ++ e :: l2)).p = r := by
      unfold rst
      rw [if_neg hp, hv, hw]
      obtain ⟨last', hs⟩ := szs_app r l1 (e :: l2) 0 []
      rw [hs, cnt_at _ _ (szs_pos _ _ _ _) (by simp [szs]), szs_length, h1]
      rw [szs_sum, pushes_b]
      show ([] ++ tl r 0 [] l1).length = _
      simp
    rw [hc]
    exact ⟨hr, rfl⟩

/-- What was made is opened again. -/
theorem opn_mk (r : Nat) (l : List En) (hr : 1 ≤ r) (hc : chain ⟨#[]⟩ l) (h0 : ∀ e ∈ l, 0 ≤ e.2.1) (hb : (pushes r st0 l).b.length < 4294967296) (hpl : (pushes r st0 l).p.length < 4294967296) (hl : l.length ≤ 9223372036854775807) :
    ∃ r', 1 ≤ r' ∧ opn (blk (pushes r st0 l)) = some (r', l) ∧ pushes r' st0 l = pushes r st0 l := by
  have hok : ∀ e ∈ l, Ok e ∧ 0 ≤ e.2.1 := fun e he => ⟨chain_ok hc e he, h0 e he⟩
  obtain ⟨h1, h2⟩ := rst_mk r l hr hok hb hl
  have h4 := pushes_len4 r l
  have hw : (wk (pushes r st0 l).b []).map Prod.fst = l := by
    rw [pushes_b]
    show (wk ([] ++ tl r 0 [] l) []).map Prod.fst = l
    rw [List.nil_append, wk_tl r _ hok 0 [] [] (.inl rfl), szs_map]
  generalize hS : pushes r st0 l = S at *
  have hL := blk_len S
  have hT := blk_tail S
  refine ⟨max (rst S.b S.p) 1, by omega, ?_, by rw [Nat.max_eq_left h1]; exact h2⟩
  have e0 : (blk S).length - 8 = S.b.length + S.p.length := by omega
  have e1 : val (((blk S).drop ((blk S).length - 8)).take 4) = S.p.length / 4 := by
    rw [e0, hT]
    have : (four (S.p.length / 4) ++ four (crc (blk0 S))).take 4 = four (S.p.length / 4) := List.take_left (l₁ := four _)
    rw [this]
    exact four_val (by omega)
  have e2 : blk S = S.b ++ (S.p ++ (four (S.p.length / 4) ++ four (crc (blk0 S)))) := by simp [blk, blk0]
  unfold opn
  rw [if_neg (by omega), e1, if_neg (by omega), h4, show (blk S).length - 8 - S.p.length = S.b.length by omega]
  unfold opn.opn2
  have e3 : (blk S).take S.b.length = S.b := by rw [e2]; exact List.take_left
  have e4 : ((blk S).drop S.b.length).take ((blk S).length - 8 - S.b.length) = S.p := by
    rw [show (blk S).length - 8 - S.b.length = S.p.length by omega]
    rw [e2, List.drop_left, List.take_left]
  rw [e3, e4]
  unfold opn.opn3
  rw [hw, if_pos ⟨hc, by rw [Nat.max_eq_left h1, h2]⟩]

theorem opn_is {b : List Nat} {r : Nat} {l : List En} (h : opn b = some (r, l)) : 1 ≤ r ∧ chain ⟨#[]⟩ l ∧ blk (pushes r st0 l) = b ∧ ∃ eb, l = (wk eb []).map Prod.fst := by
  unfold opn at h
  split at h
  · cases h
  split at h
  · cases h
  unfold opn.opn2 opn.opn3 at h
  split at h
  · rename_i h1
    cases h
    exact ⟨by omega, h1.1, h1.2, _, rfl⟩
  · cases h
/-- A restart from 1 to the number of the entries. -/
theorem some_restart {r : Nat} {l : List En} (hr : 1 ≤ r) : ∃ r', 1 ≤ r' ∧ (r' ≤ l.length ∨ r' = 1) ∧ pushes r' st0 l = pushes r st0 l := by
  by_cases hl : r ≤ l.length
  · exact ⟨r, hr, .inl hl, rfl⟩
  · by_cases h0 : l = []
    · subst h0; exact ⟨1, by omega, .inr rfl, rfl⟩
    · have : 0 < l.length := List.length_pos_iff.2 h0
      refine ⟨l.length, by omega, .inl (Nat.le_refl _), pushes_eq _ _ l st0 fun i hi => ?_⟩
      show (0 + i) % _ = 0 ↔ (0 + i) % r = 0
      rw [Nat.zero_add, mod_zero_small hi, mod_zero_small (by omega)]

/-- Numbers of entries that were read are not below 0. -/
theorem wk_nonneg (n : Nat) : ∀ b ah, b.length ≤ n → ∀ x ∈ wk b ah, 0 ≤ x.1.2.1 := by
  induction n with
  | zero =>
    intro b ah hb x hx
    have : b = [] := List.eq_nil_of_length_eq_zero (by omega)
    subst this
    rw [wk_nil] at hx
    simp at hx
  | succ n ih =>
    intro b ah hb x hx
    rw [wk] at hx
    split at hx
    · simp at hx
    · rename_i hne
      have hpos : 0 < b.length := List.length_pos_iff.2 hne
      split at hx
      · simp at hx
      · rename_i y hy
        split at hx
        · simp at hx
        · rename_i hz
          rcases List.mem_cons.1 hx with rfl | hx
          · unfold rdE at hy
            split at hy
            · cases hy
            split at hy
            · cases hy
            split at hy
            · cases hy
            unfold rdE.rdK at hy
            split at hy
            · cases hy
            split at hy
            · cases hy; exact Int.natCast_nonneg _
            split at hy
            · cases hy
            · cases hy; exact Int.natCast_nonneg _
          · exact ih _ _ (by simp; omega) x hx

end Qb
end Go.Proofs.YtnhhalabmmcemaaDoor
