import Derived.Test.YtcmbogogakdeoaaDoorCBackM
import Derived.Test.YtcmbogogakdeoaaDoorByt
namespace Go.Proofs.YtcmbogogakdeoaaDoor
namespace Lg
open CMath Byt
set_option linter.unusedVariables false

abbrev W3 := ByteArray × Bool × ByteArray
def wrB (x : W3) : List Nat := if x.2.1 then 1 :: words (strB x.1) else 0 :: (words (strB x.1) ++ words (strB x.2.2))
def batB (ws : List W3) : List Nat := num ws.length ++ ws.flatMap wrB
def putB (first : Nat) (gs : List (List W3)) : List Nat := num first ++ (num gs.length ++ gs.flatMap batB)

theorem words_byte {s : List Nat} (hs : ∀ x ∈ s, x < 256) : ∀ x ∈ words s, x < 256 := by
  intro x hx
  rcases List.mem_append.1 hx with h | h
  · exact num_byte _ x h
  · exact hs x h
theorem wrB_byte (y : W3) : ∀ x ∈ wrB y, x < 256 := by
  intro x hx
  unfold wrB at hx
  split at hx
  · rcases List.mem_cons.1 hx with h | h
    · omega
    · exact words_byte (strB_byte _) x h
  · rcases List.mem_cons.1 hx with h | h
    · omega
    · rcases List.mem_append.1 h with h | h
      · exact words_byte (strB_byte _) x h
      · exact words_byte (strB_byte _) x h
theorem ws_byte (ws : List W3) : ∀ x ∈ ws.flatMap wrB, x < 256 := by
  intro x hx
  obtain ⟨y, _, hy⟩ := List.mem_flatMap.1 hx
  exact wrB_byte y x hy
theorem batB_byte (ws : List W3) : ∀ x ∈ batB ws, x < 256 := by
  intro x hx
  rcases List.mem_append.1 hx with h | h
  · exact num_byte _ x h
  · exact ws_byte ws x h
theorem gs_byte (gs : List (List W3)) : ∀ x ∈ gs.flatMap batB, x < 256 := by
  intro x hx
  obtain ⟨y, _, hy⟩ := List.mem_flatMap.1 hx
  exact batB_byte y x hy
theorem putB_byte (first : Nat) (gs : List (List W3)) : ∀ x ∈ putB first gs, x < 256 := by
  intro x hx
  rcases List.mem_append.1 hx with h | h
  · exact num_byte _ x h
  · rcases List.mem_append.1 h with h | h
    · exact num_byte _ x h
    · exact gs_byte gs x h
theorem flat_take {α : Type} {f : α → List Nat} {l : List α} {k : Nat} {x : α} (h : l[k]? = some x) : (l.take (k + 1)).flatMap f = (l.take k).flatMap f ++ f x := by
  rw [List.take_add_one, h]
  simp

/-- a write as it is read: it, what is left, the error -/
def noW : W3 := (⟨#[]⟩, false, ⟨#[]⟩)
def rdW (b : List Nat) : W3 × List Nat × Nat :=
  match b with
  | [] => (noW, [], 20)
  | k :: r =>
    if 1 < k then (noW, [], 21)
    else if (text r 64).2.2 ≠ 0 then (noW, [], (text r 64).2.2)
    else if (text r 64).1 = [] then (noW, [], 21)
    else if k = 1 then ((ofB (text r 64).1, true, ⟨#[]⟩), r.drop (text r 64).2.1, 0)
    else if (text (r.drop (text r 64).2.1) 512).2.2 ≠ 0 then (noW, [], (text (r.drop (text r 64).2.1) 512).2.2)
    else ((ofB (text r 64).1, false, ofB (text (r.drop (text r 64).2.1) 512).1), (r.drop (text r 64).2.1).drop (text (r.drop (text r 64).2.1) 512).2.1, 0)
def rdWs : Nat → List Nat → List W3 × List Nat × Nat
  | 0, b => ([], b, 0)
  | n + 1, b => if (rdW b).2.2 ≠ 0 then ([], [], (rdW b).2.2) else ((rdW b).1 :: (rdWs n (rdW b).2.1).1, (rdWs n (rdW b).2.1).2)
def rdB (b : List Nat) : List W3 × List Nat × Nat :=
  if (rd b 0 0).2.2 ≠ 0 then ([], [], (rd b 0 0).2.2)
  else if 16 < (rd b 0 0).1 then ([], [], 22)
  else rdWs (rd b 0 0).1 (b.drop (rd b 0 0).2.1)
def rdGs : Nat → List Nat → List (List W3) × List Nat × Nat
  | 0, b => ([], b, 0)
  | n + 1, b => if (rdB b).2.2 ≠ 0 then ([], [], (rdB b).2.2) else ((rdB b).1 :: (rdGs n (rdB b).2.1).1, (rdGs n (rdB b).2.1).2)
def cntW (gs : List (List W3)) : Nat := (gs.map List.length).sum
def Fit (first n : Nat) : Bool := decide (n = 0 ∨ (first ≤ 72057594037927935 ∧ n - 1 ≤ 72057594037927935 - first))
def getErr (b : List Nat) : Nat :=
  if (rd b 0 0).2.2 ≠ 0 then (rd b 0 0).2.2
  else if (rd (b.drop (rd b 0 0).2.1) 0 0).2.2 ≠ 0 then (rd (b.drop (rd b 0 0).2.1) 0 0).2.2
  else
    let g := rdGs (rd (b.drop (rd b 0 0).2.1) 0 0).1 ((b.drop (rd b 0 0).2.1).drop (rd (b.drop (rd b 0 0).2.1) 0 0).2.1)
    if g.2.2 ≠ 0 then g.2.2 else if g.2.1 ≠ [] then 21 else if Fit (rd b 0 0).1 (cntW g.1) then 0 else 22
def getGs (b : List Nat) : List (List W3) := if getErr b ≠ 0 then [] else (rdGs (rd (b.drop (rd b 0 0).2.1) 0 0).1 ((b.drop (rd b 0 0).2.1).drop (rd (b.drop (rd b 0 0).2.1) 0 0).2.1)).1
def getN (b : List Nat) : Nat := if getErr b ≠ 0 then 0 else (rd b 0 0).1

/-- a write that may be; as it is read again -/
def okW (x : W3) : Prop := 0 < x.1.size ∧ x.1.size ≤ 64 ∧ (x.2.1 = false → x.2.2.size ≤ 512)
def cutW (x : W3) : W3 := (x.1, x.2.1, if x.2.1 then ⟨#[]⟩ else x.2.2)
theorem ofB_strB (s : ByteArray) : ofB (strB s) = s := strB_inj (strB_ofB (strB_byte s))
theorem rdW_back (x : W3) (more : List Nat) (h : okW x) : rdW (wrB x ++ more) = (cutW x, more, 0) := by
  obtain ⟨k, d, v⟩ := x
  obtain ⟨h1, h2, h3⟩ := h
  dsimp only at h1 h2 h3
  have l1 := strB_length k
  have l2 := strB_length v
  have hne : strB k ≠ [] := by intro e; rw [e] at l1; simp at l1; omega
  cases d with
  | true =>
    have e := text_back (strB k) more 64 (by omega) (by omega)
    simp [wrB, rdW, cutW, e, hne, ofB_strB]
  | false =>
    have := h3 rfl
    have e := text_back (strB k) (words (strB v) ++ more) 64 (by omega) (by omega)
    have e2 := text_back (strB v) more 512 (by omega) (by omega)
    simp [wrB, rdW, cutW, e, hne, ofB_strB, e2, List.append_assoc]
theorem rdWs_back (ws : List W3) (more : List Nat) : (∀ x ∈ ws, okW x) → rdWs ws.length (ws.flatMap wrB ++ more) = (ws.map cutW, more, 0) := by
  induction ws with
  | nil => intro _; simp [rdWs]
  | cons x ws ih =>
    intro h
    have e := rdW_back x (ws.flatMap wrB ++ more) (h x (List.mem_cons_self ..))
    have e2 := ih (fun y hy => h y (List.mem_cons_of_mem _ hy))
    simp [rdWs, e, e2]
theorem rdB_back (ws : List W3) (more : List Nat) (h : ∀ x ∈ ws, okW x) (hl : ws.length ≤ 16) : rdB (batB ws ++ more) = (ws.map cutW, more, 0) := by
  have e := rd_words ws.length (ws.flatMap wrB ++ more) (by omega)
  have e2 := rdWs_back ws more h
  unfold rdB batB
  rw [List.append_assoc, e]
  simp only [ne_eq, not_true_eq_false, if_false, if_neg (show ¬ 16 < ws.length by omega)]
  rw [drop_len, e2]
theorem rdGs_back (gs : List (List W3)) (more : List Nat) : (∀ ws ∈ gs, (∀ x ∈ ws, okW x) ∧ ws.length ≤ 16) → rdGs gs.length (gs.flatMap batB ++ more) = (gs.map (List.map cutW), more, 0) := by
  induction gs with
  | nil => intro _; simp [rdGs]
  | cons x gs ih =>
    intro h
    have h0 := h x (List.mem_cons_self ..)
    have e := rdB_back x (gs.flatMap batB ++ more) h0.1 h0.2
    have e2 := ih (fun y hy => h y (List.mem_cons_of_mem _ hy))
    simp [rdGs, e, e2]
theorem cnt_cut (gs : List (List W3)) : cntW (gs.map (List.map cutW)) = cntW gs := by
  unfold cntW
  congr 1
  simp [Function.comp_def]
/-- P7.11 -/
theorem get_put (first : Nat) (gs : List (List W3)) (hf : first < 18446744073709551616) (hg : gs.length < 18446744073709551616) (h : ∀ ws ∈ gs, (∀ x ∈ ws, okW x) ∧ ws.length ≤ 16) (hn : Fit first (cntW gs) = true) : getErr (putB first gs) = 0 ∧ getN (putB first gs) = first ∧ getGs (putB first gs) = gs.map (List.map cutW) := by
  have e1 := rd_words first (num gs.length ++ gs.flatMap batB) hf
  have e2 := rd_words gs.length (gs.flatMap batB) hg
  have e3 := rdGs_back gs [] h
  rw [List.append_nil] at e3
  have d1 : (putB first gs).drop (num first).length = num gs.length ++ gs.flatMap batB := drop_len _ _
  have d2 : (num gs.length ++ gs.flatMap batB).drop (num gs.length).length = gs.flatMap batB := drop_len _ _
  have e0 : rd (putB first gs) 0 0 = (first, (num first).length, 0) := e1
  have hE : getErr (putB first gs) = 0 := by
    unfold getErr
    simp only [e0, d1, e2, d2, e3, cnt_cut, hn]
    simp
  refine ⟨hE, ?_, ?_⟩
  · unfold getN
    rw [hE, e0]
    rfl
  · unfold getGs
    rw [hE]
    simp only [e0, d1, e2, d2, e3]
    simp

end Lg
end Go.Proofs.YtcmbogogakdeoaaDoor
