import Derived.Test.YtdbiliigbinmfaaDoorNm3
namespace Go.Proofs.YtdbiliigbinmfaaDoor
namespace Nms
open Go.RowKit CMath Byt Cod Laws
set_option linter.unusedVariables false
set_option linter.unusedSimpArgs false
set_option maxRecDepth 20000
theorem tl_get (i n j : Nat) (h : j < i) : (tl i n)[j]? = some (48 + n / 10 ^ (i - 1 - j) % 10) := by
  induction i generalizing j with
  | zero => omega
  | succ i ih =>
    cases j with
    | zero => simp [tl]
    | succ j =>
      simp only [tl, List.getElem?_cons_succ]
      rw [ih j (by omega)]
      congr 5
      omega
theorem bt_ofB (l : List Nat) (i x : Nat) (h : l[i]? = some x) (hx : x < 256) : bt (ofB l) i = x := by
  unfold bt ofB
  simp only [Array.getD_eq_getD_getElem?, List.getElem?_toArray, List.getElem?_map, h, Option.map_some, Option.getD_some]
  simp [UInt8.toNat_ofNat', Nat.mod_eq_of_lt hx]
theorem vl_succ (s : ByteArray) (i : Nat) : vl s (i + 1) = 10 * vl s i + (bt s (i + 2) - 48) := rfl
theorem vl_div (s : ByteArray) (h : digs s 12 = true) (m : Nat) (hm : m ≤ 12) : vl s (12 - m) = vl s 12 / 10 ^ m := by
  induction m with
  | zero => simp
  | succ m ih =>
    have hj := ih (by omega)
    have e : 12 - m = (12 - (m + 1)) + 1 := by omega
    have hd := digs_le s ((12 - (m + 1)) + 1) 12 (by omega) h
    simp only [digs, Bool.and_eq_true, dig, decide_eq_true_eq] at hd
    rw [e, vl_succ] at hj
    rw [Nat.pow_succ, ← Nat.div_div_eq_div_mul, ← hj]
    omega
theorem bt_dig (s : ByteArray) (h : digs s 12 = true) (j : Nat) (hj : j < 12) : bt s (j + 2) = 48 + vl s 12 / 10 ^ (11 - j) % 10 := by
  have h1 := vl_div s h (11 - j) (by omega)
  have e : 12 - (11 - j) = j + 1 := by omega
  have hd := digs_le s (j + 1) 12 (by omega) h
  simp only [digs, Bool.and_eq_true, dig, decide_eq_true_eq] at hd
  rw [e, vl_succ] at h1
  rw [← h1]
  omega
theorem ofB_of (s : ByteArray) (l : List Nat) (hl : s.size = l.length) (h : ∀ i, i < l.length → l[i]? = some (bt s i)) : s = ofB l := by
  apply ByteArray.ext
  apply Array.ext
  · simp [ofB]; exact hl
  · intro i h1 h2
    have h3 : i < l.length := by simpa [ofB] using h2
    have h4 := h i h3
    rw [List.getElem?_eq_getElem h3] at h4
    simp only [Option.some.injEq] at h4
    simp only [ofB, List.getElem_toArray, List.getElem_map, h4]
    unfold bt
    rw [Array.getD_eq_getD_getElem?, Array.getElem?_eq_getElem h1]
    simp
theorem num_name (s : ByteArray) (hs : s.size = 14) (h1 : bt s 1 = 45) (h : digs s 12 = true) : s = ofB (bt s 0 :: 45 :: tl 12 (vl s 12)) := by
  refine ofB_of s _ (by simp [hs, tl_length]) fun i hi => ?_
  match i with
  | 0 => rfl
  | 1 => simp [h1]
  | j + 2 =>
    simp only [List.length_cons, tl_length] at hi
    simp only [List.getElem?_cons_succ]
    rw [tl_get 12 _ j (by omega), bt_dig s h j (by omega)]
theorem name_num (s : ByteArray) (k n : Nat) (hk : k < 256) (hn : n < 1000000000000) (e : s = ofB (k :: 45 :: tl 12 n)) : s.size = 14 ∧ bt s 0 = k ∧ bt s 1 = 45 ∧ digs s 12 = true ∧ vl s 12 = n := by
  have hb : ∀ j, j < 12 → bt s (j + 2) = 48 + n / 10 ^ (11 - j) % 10 := fun j hj => by
    rw [e]
    exact bt_ofB _ _ _ (by simp only [List.getElem?_cons_succ]; exact tl_get 12 n j hj) (by omega)
  have hg : ∀ j, j ≤ 12 → digs s j = true ∧ vl s j = n / 10 ^ (12 - j) := fun j => by
    induction j with
    | zero => intro _; exact ⟨rfl, by simp [vl]; omega⟩
    | succ j ih =>
      intro hj
      obtain ⟨i1, i2⟩ := ih (by omega)
      have b := hb j (by omega)
      have e1 : 12 - j = (11 - j) + 1 := by omega
      have e2 : 12 - (j + 1) = 11 - j := by omega
      rw [e1, Nat.pow_succ, ← Nat.div_div_eq_div_mul] at i2
      refine ⟨by simp only [digs, i1, dig, b, Bool.true_and, decide_eq_true_eq]; omega, ?_⟩
      rw [e2]
      simp only [vl]
      rw [i2, b]
      omega
  refine ⟨by rw [e, ofB_size]; simp [tl_length], by rw [e]; exact bt_ofB _ 0 k rfl hk, by rw [e]; exact bt_ofB _ 1 45 rfl (by omega), (hg 12 (Nat.le_refl _)).1, ?_⟩
  rw [(hg 12 (Nat.le_refl _)).2]; simp
end Nms
end Go.Proofs.YtdbiliigbinmfaaDoor
