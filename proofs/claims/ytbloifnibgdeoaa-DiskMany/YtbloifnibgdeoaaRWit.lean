import Derived.Test.YtbloifnibgdeoaaRFnd
import Derived.Laws.CopyOwn
namespace Go.Proofs.Ytbloifnibgdeoaa
namespace Dsk
open Go.RowKit Go.Shelf Go.Maps Go.Sort Byt Laws
set_option linter.unusedVariables false
set_option maxRecDepth 100000
set_option linter.unusedSimpArgs false

theorem run_copy_sz {P : Program} (w : World) (dT sT ty elem : TypeId) (g o dLen dCap : Nat) (a : Addr) (sLen sCap size : Nat) (cur : Array Value) (t : TypeId) (cs : List Value)
    (hu : P.underlying dT = some (.slice elem)) (hs : (P.info? elem).map (·.size) = some size)
    (hg : w.heap[g]? = some (.cells cur t (0, 0))) (hn : cs.length = Nat.min sLen dLen * size)
    (hsrc : ∀ j v, cs[j]? = some v → w.cell? (a.add j) = some v) (hfit : o + cs.length ≤ cur.size) (h1 : ∀ v ∈ cs, v.oneCell' = true) :
    (Builtin.copy_ #[dT, sT] ty #[.slice (some ⟨g, o, none⟩) dLen dCap, .slice (some a) sLen sCap]).run P w =
      .ok (goInt (Nat.min sLen dLen)) (w.setRow g (cur.toList.take o ++ cs ++ cur.toList.drop (o + cs.length)).toArray) := by
  have hl := run_loadCells_list (P := P) w a cs hsrc
  have hst := run_storeCells_at P g o t cs 0 cur w hg (by simpa using hfit) h1
  cases hq : P.info? elem with
  | none => simp [hq] at hs
  | some i =>
    have hi : i.size = size := by simpa [hq] using hs
    simp [Builtin.copy_, run_underlying hu, Builtin.lenOf, Builtin.firstCells, sizeOf, typeInfo, hq, hi, ← hn, hl, hst]
theorem run_copy_sz0 {P : Program} (w : World) (dT sT ty elem : TypeId) (d a : Option Addr) (dLen dCap sLen sCap size : Nat) (hu : P.underlying dT = some (.slice elem)) (hs : (P.info? elem).map (·.size) = some size) (hn : Nat.min sLen dLen = 0) :
    (Builtin.copy_ #[dT, sT] ty #[.slice d dLen dCap, .slice a sLen sCap]).run P w = .ok (goInt 0) w := by
  cases hq : P.info? elem with
  | none => simp [hq] at hs
  | some i =>
    have hn' : min sLen dLen = 0 := hn
    cases d <;> cases a <;> simp [Builtin.copy_, run_underlying hu, Builtin.lenOf, Builtin.firstCells, sizeOf, typeInfo, hq, hn', loadCells, loadCellsFrom, storeCells]

theorem step_copy_sz {P : Program} {ops : Array Oper} {o : Oper} {a : Act} {w : World} {K : Act → World → Prop} {Q : Exit → Act → World → Prop} {E : Prop} (hgd : o.guard = none) (d s : Operand) (dT sT : TypeId)
    (ho : o.op = .call { callee := .builtin .copy, args := #[d, s], argTypes := #[dT, sT] }) (elem : TypeId) (size : Nat) (hu : P.underlying dT = some (.slice elem)) (hsz : (P.info? elem).map (·.size) = some size)
    (dp sp : Option Addr) (dLen dCap sLen sCap : Nat) (hd : a.eval d = .slice dp dLen dCap) (hs : a.eval s = .slice sp sLen sCap)
    (g off : Nat) (cur : List Value) (t : TypeId) (hg : w.heap[g]? = some (.cells cur.toArray t (0, 0))) (cs : List Value) (m : Nat) (hm : m = Nat.min sLen dLen) (hn : cs.length = m * size)
    (hpos : 0 < m → dp = some ⟨g, off, none⟩ ∧ ∃ ad, sp = some ad ∧ ∀ j v, cs[j]? = some v → w.cell? (ad.add j) = some v)
    (hfit : off + cs.length ≤ cur.length) (h1 : ∀ v ∈ cs, v.oneCell' = true)
    (h : ∀ w', w' = w.setRow g (splice cur off cs).toArray → K (a.put o.dst (goInt m)) w') :
    if Region.wanted o (yielded ops a.tmps) = true then Oper.wp P o a w K Q else E := by
  have hw : Region.wanted o (yielded ops a.tmps) = true := by simp [Region.wanted, hgd]
  rw [if_pos hw]
  by_cases h0 : m = 0
  · subst h0
    obtain rfl : cs = [] := List.eq_nil_of_length_eq_zero (by omega)
    have hrun := run_copy_sz0 (P := P) w dT sT o.type elem dp sp dLen dCap sLen sCap size hu hsz hm.symm
    unfold Oper.wp
    simp [execOp, ho, resolve, invoke, builtin, hd, hs, hrun, Result.andThen]
    exact h w (by simp [splice]; exact (setRow_self w g cur.toArray t _ hg).symm)
  · obtain ⟨rfl, ad, rfl, hsrc⟩ := hpos (by omega)
    have hrun := run_copy_sz (P := P) w dT sT o.type elem g off dLen dCap ad sLen sCap size cur.toArray t cs hu hsz hg (by rw [hn, hm]) hsrc (by simpa using hfit) h1
    unfold Oper.wp
    simp [execOp, ho, resolve, invoke, builtin, hd, hs, hrun, Result.andThen]
    rw [hm] at h
    exact h _ (by simp [splice])
theorem infoE : (Try.prog.info? 98).map (fun i => (i.zero, i.size, i.bytes)) = some (some (.agg #[.string ByteArray.empty, .int .i64 0]), 2, 24) := by kernel_rfl
theorem enR_own {base : Nat} {w : World} {a : Option Addr} {n c : Nat} {l : List (Key × Nat)} (h : w.ownsRow base 98 2 (.slice a n c) n (enRow l)) : n = l.length ∧ n ≤ c ∧ EnR w a l := by
  have e1 := h.1
  rw [enRow_length] at e1
  have hn : n = l.length := by omega
  rcases h.2 with ⟨e, e0⟩ | ⟨g, cap, cur, e, h1, h2, h3, h4, h5, h6⟩
  · cases e
    refine ⟨hn, Nat.le_refl _, fun hne => ?_⟩
    exact absurd (List.eq_nil_of_length_eq_zero (by omega)) hne
  · cases e
    refine ⟨hn, h3, fun _ => ⟨g, rfl, fun i p hp => ?_⟩⟩
    have hi := (List.getElem?_eq_some_iff.1 hp).1
    obtain ⟨q1, q2⟩ := enRow_get hp
    rw [Go.Joins.cell_of_block h2, Go.Joins.cell_of_block h2]
    rw [← h6, List.getElem?_take] at q1 q2
    rw [if_pos (by omega)] at q1 q2
    exact ⟨by simpa using q1, by simpa using q2⟩

theorem with_cells {w3 w2 : World} {g2 i n c2 j1 : Nat} {t : TypeId} {cur C : List Value} (hu : w2.heap[g2]? = some (.cells cur.toArray t (0, 0))) (hl : cur.length = c2 * 2) (hC : C.length = (n - i) * 2) (hj : j1 = i + 1) (hc : n + 1 ≤ c2) (hp : i ≤ n) (hw : w3 = w2.setRow g2 (splice cur (j1 * 2) C).toArray) :
    (∃ x, w3.cell? ⟨g2, i * 2, none⟩ = some x) ∧ (∃ x, w3.cell? ⟨g2, i * 2 + 1, none⟩ = some x) ∧ w3.frozen? ⟨g2, i * 2, none⟩ = false ∧ w3.frozen? ⟨g2, i * 2 + 1, none⟩ = false := by
  have h3 : w3.heap[g2]? = some (.cells (splice cur (j1 * 2) C).toArray t (0, 0)) := by rw [hw]; exact setRow_heap w2 g2 _ _ t _ hu
  have hls : (splice cur (j1 * 2) C).length = c2 * 2 := by rw [length_splice _ _ _ (by omega), hl]
  refine ⟨⟨(splice cur (j1 * 2) C)[i * 2]'(by omega), ?_⟩, ⟨(splice cur (j1 * 2) C)[i * 2 + 1]'(by omega), ?_⟩, ?_, ?_⟩
  · rw [Go.Joins.cell_of_block h3]; simp
  · rw [Go.Joins.cell_of_block h3]; simp
  · simp [World.frozen?, h3]
  · simp [World.frozen?, h3]

theorem enRow_append (l r : List (Key × Nat)) : enRow (l ++ r) = enRow l ++ enRow r := by simp [enRow]
theorem enRow_split (l : List (Key × Nat)) (i : Nat) (h : i ≤ l.length) : enRow (l.take i) = (enRow l).take (i * 2) ∧ enRow (l.drop i) = (enRow l).drop (i * 2) := by
  have e : enRow l = enRow (l.take i) ++ enRow (l.drop i) := by rw [← enRow_append, List.take_append_drop]
  have el : (enRow (l.take i)).length = i * 2 := by rw [enRow_length, List.length_take]; omega
  constructor
  · rw [e, List.take_left' el]
  · rw [e, List.drop_left' el]
theorem split2 (cur : List Value) (k : Nat) (h : k + 2 ≤ cur.length) : ∃ A a b D, cur = A ++ a :: b :: D ∧ A.length = k := by
  refine ⟨cur.take k, cur[k]'(by omega), cur[k + 1]'(by omega), cur.drop (k + 2), ?_, by rw [List.length_take]; omega⟩
  have e1 : cur.drop k = cur[k]'(by omega) :: cur.drop (k + 1) := List.drop_eq_getElem_cons (by omega)
  have e2 : cur.drop (k + 1) = cur[k + 1]'(by omega) :: cur.drop (k + 2) := List.drop_eq_getElem_cons (by omega)
  rw [← e2, ← e1, List.take_append_drop]
theorem splice_set2 (A : List Value) (a b x y : Value) (D C : List Value) (k : Nat) (hk : A.length = k) : ((splice (A ++ a :: b :: D) (k + 2) C).set k x).set (k + 1) y = A ++ x :: y :: (C ++ D.drop C.length) := by
  subst hk
  have e1 : (A ++ a :: b :: D).take (A.length + 2) = A ++ [a, b] := by
    rw [List.take_append, List.take_of_length_le (by omega)]; simp
  have e2 : (A ++ a :: b :: D).drop (A.length + 2 + C.length) = D.drop C.length := by
    rw [List.drop_append, List.drop_eq_nil_of_le (by omega)]
    simp
    rw [show A.length + 2 + C.length - A.length = C.length + 2 by omega]
    rfl
  unfold splice
  rw [e1, e2]
  simp
theorem with_done {w w1 w2 w3 W : World} {base n c c2 g2 i j1 at_ : Nat} {a : Option Addr} {l : List (Key × Nat)} {cur C : List Value} {s : ByteArray}
    (hN : n = l.length) (hi : i = plc l s.data.toList) (hp : i ≤ n) (hk : look l s.data.toList = none) (k1 : Keep [] w w1) (hgr : (w1.alloc (.cells #[.string ByteArray.empty, .int .i64 0] 98)).grownBy w2 (Value.slice a n c).ownBlock) (hat : (Value.slice a n c).ownBlock = some g2 ∨ g2 = w1.heap.size + 1)
    (hu : w2.heap[g2]? = some (.cells cur.toArray 98 (0, 0))) (hl : cur.length = c2 * 2) (htk : cur.take ((n + 1) * 2) = enRow l ++ [.string ByteArray.empty, .int .i64 0]) (hC : C = (enRow l).drop (i * 2)) (hCl : C.length = (n - i) * 2) (hj : j1 = i + 1) (hc : n + 1 ≤ c2) (hcm : c2 ≤ 9223372036854775807) (hb : base ≤ g2)
    (hw : w3 = w2.drew.setRow g2 (splice cur (j1 * 2) C).toArray) (hW : W = (w3.setCell ⟨g2, i * 2, none⟩ (.string s)).setCell ⟨g2, i * 2 + 1, none⟩ (.int .i64 (at_ : Int))) :
    W.ownsRow base 98 2 (.slice (some ⟨g2, 0, none⟩) (n + 1) c2) (n + 1) (enRow (ins l s.data.toList at_)) ∧ Keep (Value.slice a n c).ownBlock.toList w W ∧ ((Value.slice a n c).ownBlock = some g2 ∨ w.heap.size ≤ g2) := by
  have h3 : w3.heap[g2]? = some (.cells (splice cur (j1 * 2) C).toArray 98 (0, 0)) := by rw [hw]; exact setRow_heap w2.drew g2 _ _ _ _ hu
  have e4 : w3.setCell ⟨g2, i * 2, none⟩ (.string s) = w3.setRow g2 ((splice cur (j1 * 2) C).toArray.setIfInBounds (i * 2) (.string s)) := setCell_eq_setRow w3 g2 (i * 2) _ _ _ _ h3
  have h4 : (w3.setCell ⟨g2, i * 2, none⟩ (.string s)).heap[g2]? = some (.cells ((splice cur (j1 * 2) C).toArray.setIfInBounds (i * 2) (.string s)) 98 (0, 0)) := by rw [e4]; exact setRow_heap w3 g2 _ _ _ _ h3
  have h5 : W.heap[g2]? = some (.cells (((splice cur (j1 * 2) C).set (i * 2) (.string s)).set (i * 2 + 1) (.int .i64 (at_ : Int))).toArray 98 (0, 0)) := by
    rw [hW, setCell_eq_setRow _ g2 (i * 2 + 1) _ _ _ _ h4, setRow_heap _ g2 _ _ _ _ h4]
    simp
  obtain ⟨A, x, y, D, hcur, hA⟩ := split2 cur (i * 2) (by omega)
  have hrow : ((splice cur (j1 * 2) C).set (i * 2) (.string s)).set (i * 2 + 1) (.int .i64 (at_ : Int)) = A ++ .string s :: .int .i64 (at_ : Int) :: (C ++ D.drop C.length) := by
    rw [hcur, show j1 * 2 = i * 2 + 2 by omega]
    exact splice_set2 A x y _ _ D C (i * 2) hA
  rw [hrow] at h5
  have hA' : A = enRow (l.take i) := by
    rw [(enRow_split l i (by omega)).1]
    have : (cur.take ((n + 1) * 2)).take (i * 2) = A := by
      rw [List.take_take, Nat.min_eq_left (by omega), hcur, List.take_left' hA]
    rw [← this, htk, List.take_append_of_le_length (by rw [enRow_length]; omega)]
  have hins : enRow (ins l s.data.toList at_) = A ++ .string s :: .int .i64 (at_ : Int) :: C := by
    rw [ins_new at_ hk, ← hi, enRow_append, hA', hC, ← (enRow_split l i (by omega)).2]
    rfl
  have hlt : g2 < w2.heap.size := (Array.getElem?_eq_some_iff.1 hu).1
  have hDl : D.length + (i * 2 + 2) = c2 * 2 := by have := congrArg List.length hcur; simp at this; omega
  have k2 : Keep (Value.slice a n c).ownBlock.toList w w2 := ((k1.mono (by simp)).trans (Keep.alloc _ _ _)).trans (Keep.grown hgr)
  have k3 : Keep [g2] w2 w3 := by
    rw [hw]
    exact ⟨rfl, rfl, rfl, by simp [World.setRow], fun k hk hn => setRow_other w2.drew g2 k _ (by simpa using hn)⟩
  have hat' : (Value.slice a n c).ownBlock = some g2 ∨ w.heap.size ≤ g2 := by
    rcases hat with h | h
    · exact .inl h
    · exact .inr (by have := k1.size; omega)
  refine ⟨⟨by rw [hins]; simp [hA, hCl]; omega, .inr ⟨g2, c2, _, rfl, hb, h5, hc, by unfold maxLen; omega, by simp [hA, hCl]; omega, ?_⟩⟩, ?_, hat'⟩
  · rw [hins]
    simp only
    rw [show A ++ Value.string s :: Value.int .i64 (at_ : Int) :: (C ++ D.drop C.length) = (A ++ Value.string s :: Value.int .i64 (at_ : Int) :: C) ++ D.drop C.length by simp]
    exact List.take_left' (by simp [hA, hCl]; omega)
  · rw [hW]
    refine k2.later ((k3.trans (Keep.set w3 g2 (i * 2) _)).trans (Keep.set _ g2 (i * 2 + 1) _)) (fun z hz => ?_)
    simp at hz
    subst hz
    rcases hat' with h | h
    · exact .inl (by rw [h]; simp)
    · exact .inr h

set_option maxHeartbeats 1000000 in
theorem with_new (base : Nat) (v : Value) (n : Nat) (l : List (Key × Nat)) (w : World) (h : w.ownsRow base 98 2 v n (enRow l)) (hb : base ≤ w.heap.size) (hr : Rises l) (hl : n ≤ 10000000) (s : ByteArray) (at_ : Nat) (hk : look l s.data.toList = none) :
    Calls Try.prog 66 #[v, .string s, .int .i64 (at_ : Int)] w fun e w' => ∃ g cap, e = .returned (.slice (some ⟨g, 0, none⟩) (n + 1) cap) ∧ w'.ownsRow base 98 2 (.slice (some ⟨g, 0, none⟩) (n + 1) cap) (n + 1) (enRow (ins l s.data.toList at_)) ∧ Keep v.ownBlock.toList w w' ∧ (v.ownBlock = some g ∨ w.heap.size ≤ g) := by
  obtain ⟨a, c, rfl⟩ := own_slice h
  obtain ⟨i4, hi4, hz0, hz1, hz2⟩ := info_parts infoE
  obtain ⟨hn, hc, hE⟩ := enR_own h
  have HF := find_any a n c l w hr hE hn (by omega) hc s
  rw [hk] at HF
  have HO : True := trivial
  have HK : Hid (look l s.data.toList = none) := hk
  have hp := plc_le l s.data.toList
  obtain ⟨i, hi⟩ : ∃ i, i = plc l s.data.toList := ⟨_, rfl⟩
  rw [← hi] at HF hp
  rw [← hn] at hp
  have HI : Hid (i = plc l s.data.toList) := hi
  have HN : Hid (n = l.length) := hn
  have HFF : Hid (Calls Try.prog 73 #[.slice a n c, .string s] w fun e w' => e = .returned (.tuple #[.int .i64 (i : Nat), .bool false]) ∧ Keep [] w w' ∧ w'.ownsRow base 98 2 (.slice a n c) n (enRow l)) := HF.mono (fun e w' hw => by
    obtain ⟨h1, k, rfl⟩ := hw
    have k1 : Keep [] w (w.drewN k) := Keep.below (below_drewN (Below.refl _ _) _)
    exact ⟨h1, k1, k1.own h (by simp)⟩)
  clear HF hi hn hE hc h hk hr HO
  go_enter Try.func66, Try.ntmps66
  go_wp2_with (first
    | (go_at_call 73; refine HFF.out.mono ?_; rintro e w1 ⟨rfl, k1, h1⟩; have HK1 : Hid (Keep [] w w1) := k1; have HO1 : Hid (w1.ownsRow base 98 2 (.slice a n c) n (enRow l)) := h1; have hb1 : base ≤ w1.heap.size := Nat.le_trans hb k1.size; clear k1 h1)
    | (at_builtin; refine wpList_app _ (by rfl) (.tmp 22) (.tmp 24) 92 (by rfl) base 98 i4 _ 2 24 Try.underlying92 hi4 hz0 hz1 hz2 rfl (by omega) (.slice a n c) n (enRow l) (by rfl) (HO1.out.alloc _) ⟨w1.heap.size, 0, none⟩ 1 1 [.string ByteArray.empty, .int .i64 0] (by rfl) (by rfl) (World.news_of_block (heap_alloc_new w1 _)) (by intro u hu; simp at hu; rcases hu with rfl | rfl <;> rfl) (by intro _; omega) (by unfold maxLen; omega) (by omega) (by simp; omega) (w1.heap.size + 1) (by simp) ?_; intro g2 c2 w2 hown2 hgr2 hat2 hlt2; have H2 : Hid (w2.ownsRow base 98 2 (.slice (some ⟨g2, 0, none⟩) (n + 1) c2) (n + 1) (enRow l ++ [.string ByteArray.empty, .int .i64 0]) ∧ (w1.alloc (.cells #[.string ByteArray.empty, .int .i64 0] 98)).grownBy w2 (Value.slice a n c).ownBlock ∧ ((Value.slice a n c).ownBlock = some g2 ∨ g2 = w1.heap.size + 1)) := ⟨hown2, hgr2, hat2⟩; clear hown2 hgr2 hat2))
  obtain ⟨hown, hgr, hat⟩ := H2.out
  have HG : Hid ((w1.alloc (.cells #[.string ByteArray.empty, .int .i64 0] 98)).grownBy w2 (Value.slice a n c).ownBlock ∧ ((Value.slice a n c).ownBlock = some g2 ∨ g2 = w1.heap.size + 1)) := ⟨hgr, hat⟩
  obtain ⟨cur, hcur, hbg, hc1, hc2, hsz, htk⟩ : ∃ cur : List Value, w2.heap[g2]? = some (.cells cur.toArray 98 (0, 0)) ∧ base ≤ g2 ∧ n + 1 ≤ c2 ∧ c2 ≤ maxLen ∧ cur.length = c2 * 2 ∧ cur.take ((n + 1) * 2) = enRow l ++ [.string ByteArray.empty, .int .i64 0] := by
    rcases hown.2 with ⟨e, _⟩ | ⟨g, cap, cur, e, q1, q2, q3, q4, q5, q6⟩
    · cases e
    · cases e
      exact ⟨cur.toList, by simpa using q2, q1, q3, q4, by simpa using q5, q6⟩
  have hc3 : c2 ≤ 9223372036854775807 := by unfold maxLen at hc2; omega
  obtain ⟨C, hC⟩ : ∃ C, C = (enRow l).drop (i * 2) := ⟨_, rfl⟩
  have hCl : C.length = (n - i) * 2 := by rw [hC, List.length_drop, enRow_length, ← HN.out]; omega
  have hC1 : ∀ u ∈ C, u.oneCell' = true := by
    intro u hu
    rw [hC] at hu
    have := List.mem_of_mem_drop hu
    simp only [enRow, List.mem_flatMap] at this
    obtain ⟨p, _, hp'⟩ := this
    simp at hp'
    rcases hp' with rfl | rfl <;> rfl
  have hCc : ∀ j u, C[j]? = some u → w2.cell? ⟨g2, i * 2 + j, none⟩ = some u := by
    intro j u hj
    have hjl := (List.getElem?_eq_some_iff.1 hj).1
    rw [Go.Joins.cell_of_block hcur]
    have e1 : (cur.take ((n + 1) * 2))[i * 2 + j]? = some u := by
      rw [htk, List.getElem?_append_left (by rw [enRow_length, ← HN.out]; omega)]
      rw [hC, List.getElem?_drop] at hj
      exact hj
    rw [List.getElem?_take, if_pos (by omega)] at e1
    simpa using e1
  have HC : Hid ((∀ u ∈ C, u.oneCell' = true) ∧ (∀ j u, C[j]? = some u → w2.cell? ⟨g2, i * 2 + j, none⟩ = some u) ∧ C = (enRow l).drop (i * 2) ∧ C.length = (n - i) * 2) := ⟨hC1, hCc, hC, hCl⟩
  have HU : Hid (w2.heap[g2]? = some (.cells cur.toArray 98 (0, 0)) ∧ cur.length = c2 * 2 ∧ cur.take ((n + 1) * 2) = enRow l ++ [.string ByteArray.empty, .int .i64 0]) := ⟨hcur, hsz, htk⟩
  have hinf : (Try.prog.info? 98).map (·.size) = some 2 := by rw [hi4]; simp [hz1]
  have HIF : Hid ((Try.prog.info? 98).map (·.size) = some 2) := hinf
  clear hown hgr hat hcur hsz htk hC hCl hC1 hCc H2 hinf hc2 hz0
  obtain ⟨j1, hj1⟩ : ∃ j1 : Nat, j1 = i + 1 := ⟨_, rfl⟩
  have hwr : IntKind.i64.wrap ((i : Int) + 1) = (j1 : Int) := by
    rw [IntWalk.i64_in _ (by omega), hj1]; rfl
  have hjn : (j1 : Int) ≤ (n : Int) + 1 := by omega
  have hin : (i : Int) ≤ (n : Int) + 1 := by omega
  have hni : ¬ c2 = i := by omega
  have HJ : Hid (j1 = i + 1) := hj1
  have hji : ¬ j1 = i := by omega
  clear hj1
  have HUD : Hid (w2.drew.heap[g2]? = some (.cells cur.toArray 98 (0, 0))) := HU.out.1
  have HCD : Hid (∀ j u, C[j]? = some u → w2.drew.cell? ⟨g2, i * 2 + j, none⟩ = some u) := HC.out.2.1
  by_cases hcj : c2 = j1
  · go_region_law (refine step_copy_sz (by rfl) (.tmp 29) (.tmp 32) 92 92 (by rfl) 98 2 Try.underlying92 HIF.out (some ⟨g2, 0, none⟩) (some ⟨g2, i * 2, none⟩) (n + 1 - j1) 0 (n + 1 - i) (j1 - i) (by simp [Act.eval, Act.put]) (by simp [Act.eval, Act.put]) g2 (j1 * 2) cur 98 HUD.out C (n - i) (by have := HJ.out; show n - i = min (n + 1 - i) (n + 1 - j1); omega) HC.out.2.2.2 (by intro h0; have := HJ.out; omega) (by have := HJ.out; have := HU.out.2.1; have := HC.out.2.2.2; omega) HC.out.1 ?_; intro w3 hw3; have HW3 : Hid (w3 = w2.drew.setRow g2 (splice cur (j1 * 2) C).toArray) := hw3; clear hw3)
    obtain ⟨⟨x1, q1⟩, ⟨x2, q2⟩, q3, q4⟩ := with_cells HUD.out HU.out.2.1 HC.out.2.2.2 HJ.out hc1 hp HW3.out
    go_wp2
    go_ret
    obtain ⟨r1, r2, r3⟩ := with_done HN.out HI.out hp HK.out HK1.out HG.out.1 HG.out.2 HU.out.1 HU.out.2.1 HU.out.2.2 HC.out.2.2.1 HC.out.2.2.2 HJ.out hc1 hc3 hbg HW3.out (at_ := at_) rfl
    rw [hcj] at r1
    exact ⟨_, _, rfl, r1, r2, r3⟩
  · go_region_law (refine step_copy_sz (by rfl) (.tmp 29) (.tmp 32) 92 92 (by rfl) 98 2 Try.underlying92 HIF.out (some ⟨g2, j1 * 2, none⟩) (some ⟨g2, i * 2, none⟩) (n + 1 - j1) (c2 - j1) (n + 1 - i) (c2 - i) (by simp [Act.eval, Act.put]) (by simp [Act.eval, Act.put]) g2 (j1 * 2) cur 98 HUD.out C (n - i) (by have := HJ.out; show n - i = min (n + 1 - i) (n + 1 - j1); omega) HC.out.2.2.2 (by intro h0; exact ⟨rfl, _, rfl, fun j u hu => by rw [add_plain2]; exact HCD.out j u hu⟩) (by have := HJ.out; have := HU.out.2.1; have := HC.out.2.2.2; omega) HC.out.1 ?_; intro w3 hw3; have HW3 : Hid (w3 = w2.drew.setRow g2 (splice cur (j1 * 2) C).toArray) := hw3; clear hw3)
    obtain ⟨⟨x1, q1⟩, ⟨x2, q2⟩, q3, q4⟩ := with_cells HUD.out HU.out.2.1 HC.out.2.2.2 HJ.out hc1 hp HW3.out
    go_wp2
    go_ret
    obtain ⟨r1, r2, r3⟩ := with_done HN.out HI.out hp HK.out HK1.out HG.out.1 HG.out.2 HU.out.1 HU.out.2.1 HU.out.2.2 HC.out.2.2.1 HC.out.2.2.2 HJ.out hc1 hc3 hbg HW3.out (at_ := at_) rfl
    exact ⟨_, _, rfl, r1, r2, r3⟩
end Dsk
end Go.Proofs.Ytbloifnibgdeoaa
