import Derived.Test.YtnhhalabmmcemaaDoorQcM
import Derived.Test.YtnhhalabmmcemaaDoorMath
import Derived.Test.YtnhhalabmmcemaaDoorTaG
namespace Go.Proofs.YtnhhalabmmcemaaDoor
namespace Qb
open Go.RowKit CMath Byt Laws Irw Crw Cod
set_option linter.unusedVariables false
set_option linter.unusedSimpArgs false
set_option maxRecDepth 20000

/-- How many restart points there are. -/
def mres (r : Nat) : Nat → Nat
  | 0 => 0
  | n + 1 => mres r n + if n % r = 0 then 1 else 0
theorem mres_lt {r : Nat} (hr : 1 ≤ r) : ∀ n i, r * i < n ↔ i < mres r n := by
  intro n
  induction n with
  | zero => intro i; simp [mres]
  | succ n ih =>
    intro i
    rw [mres]
    by_cases hz : n % r = 0
    · rw [if_pos hz]
      have hq : r * (n / r) = n := by have := Nat.div_add_mod n r; omega
      have hm : mres r n = n / r := by
        have h1 := ih (n / r)
        have h2 : ¬ n / r < mres r n := fun h => by have := h1.2 h; omega
        by_cases h3 : mres r n < n / r
        · exfalso
          have h4 : ¬ (r * mres r n < n) := fun h => by have := (ih _).1 h; omega
          apply h4
          calc r * mres r n < r * (n / r) := Nat.mul_lt_mul_of_pos_left h3 (by omega)
            _ = n := hq
        · omega
      constructor
      · intro h
        rw [hm]
        rcases Nat.lt_or_ge i (n / r + 1) with h1 | h1
        · exact h1
        · exfalso
          have : r * (n / r + 1) ≤ r * i := Nat.mul_le_mul_left r h1
          rw [Nat.mul_add, hq] at this
          omega
      · intro h
        rw [hm] at h
        have : r * i ≤ r * (n / r) := Nat.mul_le_mul_left r (by omega)
        omega
    · rw [if_neg hz, show mres r n + 0 = mres r n from rfl, ← ih i]
      constructor
      · intro h
        rcases Nat.lt_or_ge (r * i) n with h1 | h1
        · exact h1
        · exfalso
          have : n = r * i := by omega
          rw [this, Nat.mul_mod_right] at hz
          exact hz rfl
      · intro h; omega
theorem mres_at {r n : Nat} (hr : 1 ≤ r) (hz : n % r = 0) : r * mres r n = n := by
  have hq : r * (n / r) = n := by have := Nat.div_add_mod n r; omega
  have hm : mres r n = n / r := by
    have h2 : ¬ n / r < mres r n := fun h => by have := (mres_lt hr n (n / r)).2 h; omega
    by_cases h3 : mres r n < n / r
    · exfalso
      have h4 : ¬ (r * mres r n < n) := fun h => by have := (mres_lt hr n _).1 h; omega
      apply h4
      calc r * mres r n < r * (n / r) := Nat.mul_lt_mul_of_pos_left h3 (by omega)
        _ = n := hq
    · omega
  rw [hm, hq]
/-- The places of the restart points. -/
theorem places {r : Nat} (hr : 1 ≤ r) (l : List En) : (pushes r st0 l).p.length = 4 * mres r l.length ∧ ∀ i, r * i < l.length → ((pushes r st0 l).p.drop (4 * i)).take 4 = four (pushes r st0 (l.take (r * i))).b.length := by
  rcases List.eq_nil_or_concat l with rfl | ⟨l', e, rfl⟩
  · exact ⟨rfl, fun i h => by simp at h⟩
  · rw [List.concat_eq_append]
    have ih := places hr l'
    have hn : (pushes r st0 l').n = l'.length := by rw [pushes_n]; show 0 + _ = _; omega
    have hp : (pushes r st0 (l' ++ [e])).p = plc r (pushes r st0 l') := by rw [pushes_snoc]; rfl
    rw [hp]
    unfold plc
    rw [hn, List.length_append, List.length_singleton, mres]
    by_cases hz : l'.length % r = 0
    · rw [if_pos hz, if_pos hz]
      refine ⟨by rw [List.length_append, ih.1, four_len]; omega, fun i hi => ?_⟩
      have hm := mres_at hr hz
      rcases Nat.lt_or_ge (r * i) l'.length with h1 | h1
      · have h2 := (mres_lt hr l'.length i).1 h1
        rw [List.drop_append_of_le_length (by rw [ih.1]; omega), List.take_append_of_le_length (by rw [List.length_drop, ih.1]; omega), ih.2 i h1, List.take_append_of_le_length (by omega)]
      · have hii : r * i = l'.length := by omega
        have hi2 : i = mres r l'.length := Nat.eq_of_mul_eq_mul_left (by omega) (hii.trans hm.symm)
        have : 4 * i = (pushes r st0 l').p.length := by rw [ih.1, hi2]
        rw [this, List.drop_left, hii, List.take_left]
        rfl
    · rw [if_neg hz, if_neg hz]
      refine ⟨by rw [ih.1]; omega, fun i hi => ?_⟩
      have h1 : r * i < l'.length := by
        rcases Nat.lt_or_ge (r * i) l'.length with h1 | h1
        · exact h1
        · exfalso
          have : l'.length = r * i := by omega
          rw [this, Nat.mul_mod_right] at hz
          exact hz rfl
      rw [ih.2 i h1, List.take_append_of_le_length (by omega)]
termination_by l.length
decreasing_by simp_all
/-- What is given from a restart point on. -/
theorem wk_from {r : Nat} {l : List En} (hok : ∀ e ∈ l, Ok e ∧ 0 ≤ e.2.1) {k : Nat} (hk : k ≤ l.length) (hz : k % r = 0) : (pushes r st0 (l.take k)).b.length ≤ (pushes r st0 l).b.length ∧ (wk ((pushes r st0 l).b.drop (pushes r st0 (l.take k)).b.length) []).map Prod.fst = l.drop k := by
  have e1 : pushes r st0 l = pushes r (pushes r st0 (l.take k)) (l.drop k) := by rw [← pushes_app, List.take_append_drop]
  have hn : (pushes r st0 (l.take k)).n = k := by rw [pushes_n, List.length_take]; show 0 + _ = _; omega
  have e2 := pushes_b r (l.drop k) (pushes r st0 (l.take k))
  rw [hn, ← e1] at e2
  rw [e2]
  refine ⟨by rw [List.length_append]; omega, ?_⟩
  rw [List.drop_left, wk_tl r _ (fun e he => hok e (List.mem_of_mem_drop he)) k _ [] (.inr hz), szs_map]
theorem mul_mod0 (r i : Nat) : (r * i) % r = 0 := Nat.mul_mod_right r i
/-- Keys rise. -/
theorem chain_all {l : List En} : ∀ {last : ByteArray}, chain last l → ∀ e ∈ l, Op.bytesLess last.toList e.1.toList = true := by
  induction l with
  | nil => intro last _ e he; simp at he
  | cons x l ih =>
    intro last h e he
    have hx : Op.bytesLess last.toList x.1.toList = true := by
      have := (adds_ok h.1).2
      rw [← Lib.toList_data, ← Lib.toList_data] at this
      exact this
    rcases List.mem_cons.1 he with rfl | he
    · exact hx
    · exact KMath.bl_trans _ _ _ hx (ih h.2 e he)
theorem chain_lt {l : List En} : ∀ {last : ByteArray}, chain last l → ∀ (i j : Nat) (x y : En), l[i]? = some x → l[j]? = some y → i < j → Op.bytesLess x.1.toList y.1.toList = true := by
  induction l with
  | nil => intro last _ i j x y hx; simp at hx
  | cons z l ih =>
    intro last h i j x y hx hy hij
    cases j with
    | zero => omega
    | succ j =>
      have hy' : l[j]? = some y := by simpa using hy
      cases i with
      | zero =>
        have : z = x := by simpa using hx
        subst this
        exact chain_all h.2 y (List.mem_of_getElem? hy')
      | succ i => exact ih h.2 i j x y (by simpa using hx) hy' (by omega)
/-- What Seek finds. -/
def skE (l : List En) (key : ByteArray) : Option En := l.find? (fun e => !Op.bytesLess e.1.toList key.toList)
theorem skE_drop {l : List En} {key : ByteArray} {k : Nat} (h : ∀ i x, i < k → l[i]? = some x → Op.bytesLess x.1.toList key.toList = true) : skE (l.drop k) key = skE l key := by
  unfold skE
  conv => rhs; rw [← List.take_append_drop k l]
  rw [List.find?_append]
  have : (l.take k).find? (fun e => !Op.bytesLess e.1.toList key.toList) = none := by
    rw [List.find?_eq_none]
    intro x hx
    obtain ⟨i, hi, e⟩ := List.mem_iff_getElem.1 hx
    have hi' : i < k ∧ i < l.length := by rw [List.length_take] at hi; omega
    rw [h i x hi'.1 (by rw [List.getElem_take] at e; rw [← e]; exact List.getElem?_eq_getElem hi'.2)]
    simp
  rw [this]
  rfl
end Qb
end Go.Proofs.YtnhhalabmmcemaaDoor
namespace Go.Proofs.YtnhhalabmmcemaaDoor
namespace Tbl
open Go.RowKit CMath Byt Laws Irw Crw Cod Qb
set_option linter.unusedVariables false
set_option linter.unusedSimpArgs false
set_option maxRecDepth 20000

/-- What is known of a table of these entries. -/
def mtF (es : List En) : Mt := es.foldl Mt.more mt0
theorem mtF_snoc (es : List En) (e : En) : mtF (es ++ [e]) = (mtF es).more e := by simp [mtF]
theorem mt_n (es : List En) : ∀ m : Mt, (es.foldl Mt.more m).n = m.n + es.length := by
  induction es with
  | nil => intro m; rfl
  | cons e es ih => intro m; rw [List.foldl_cons, ih]; simp [Mt.more]; omega
theorem mt_hi (es : List En) : ∀ m : Mt, (es.foldl Mt.more m).hi = lastE m.hi es := by
  induction es with
  | nil => intro m; rfl
  | cons e es ih => intro m; rw [List.foldl_cons, ih]; rfl
theorem mt_by (es : List En) : ∀ m : Mt, (es.foldl Mt.more m).by_ = m.by_ := by
  induction es with
  | nil => intro m; rfl
  | cons e es ih => intro m; rw [List.foldl_cons, ih]; rfl
theorem mtF_n (es : List En) : (mtF es).n = es.length := by unfold mtF; rw [mt_n]; simp [mt0]
theorem mtF_hi (es : List En) : (mtF es).hi = lastE ⟨#[]⟩ es := by unfold mtF; rw [mt_hi]; rfl
theorem mtF_by (es : List En) : (mtF es).by_ = 0 := by unfold mtF; rw [mt_by]; rfl
theorem lastE_app (l m : List En) : ∀ last, lastE last (l ++ m) = lastE (lastE last l) m := by
  induction l with
  | nil => intro last; rfl
  | cons e l ih => intro last; exact ih e.1
theorem lastE_any {l : List En} (h : l ≠ []) (a b : ByteArray) : lastE a l = lastE b l := by
  cases l with
  | nil => exact absurd rfl h
  | cons e l => rfl
theorem lastE_mem {l : List En} (h : l ≠ []) (a : ByteArray) : ∃ e ∈ l, lastE a l = e.1 := by
  rcases List.eq_nil_or_concat l with rfl | ⟨m, e, rfl⟩
  · exact absurd rfl h
  · exact ⟨e, by simp, by rw [List.concat_eq_append, lastE_snoc]⟩
/-- What stands in the index. -/
def ixs (R : Nat) : Nat → List (List En) → List En
  | _, [] => []
  | p, cs :: css => (lastE ⟨#[]⟩ cs, 0, false, ixV p (blk (pushes R st0 cs)).length) :: ixs R (p + (blk (pushes R st0 cs)).length) css
def laidOf (R : Nat) (css : List (List En)) : List Nat := (css.map fun cs => blk (pushes R st0 cs)).flatten
theorem laid_cons (R : Nat) (cs : List En) (css : List (List En)) : laidOf R (cs :: css) = blk (pushes R st0 cs) ++ laidOf R css := by simp [laidOf]
theorem laid_snoc (R : Nat) (cs : List En) (css : List (List En)) : laidOf R (css ++ [cs]) = laidOf R css ++ blk (pushes R st0 cs) := by simp [laidOf]
theorem ixs_snoc (R : Nat) (cs : List En) (css : List (List En)) : ∀ p, ixs R p (css ++ [cs]) = ixs R p css ++ [(lastE ⟨#[]⟩ cs, 0, false, ixV (p + (laidOf R css).length) (blk (pushes R st0 cs)).length)] := by
  induction css with
  | nil => intro p; simp [ixs, laidOf]
  | cons c css ih =>
    intro p
    rw [List.cons_append, ixs, ih, laid_cons, ixs, List.length_append]
    simp [Nat.add_assoc]
theorem ixs_len (R : Nat) (css : List (List En)) : ∀ p, (ixs R p css).length = css.length := by
  induction css with
  | nil => intro p; rfl
  | cons c css ih => intro p; simp [ixs, ih]
theorem ixs_chain (R : Nat) (css : List (List En)) : ∀ p last, (∀ cs ∈ css, cs ≠ []) → chain last css.flatten → p + (laidOf R css).length < 9223372036854775808 → chain last (ixs R p css) := by
  induction css with
  | nil => intro p last _ _ _; exact trivial
  | cons c css ih =>
    intro p last hne hc hp
    have hc0 := hne c (by simp)
    rw [List.flatten_cons, chain_app] at hc
    rw [laid_cons, List.length_append] at hp
    refine ⟨?_, ?_⟩
    · obtain ⟨e, he, hl⟩ := lastE_mem hc0 ⟨#[]⟩
      have hok := chain_ok hc.1 e he
      have hlt := chain_all hc.1 e he
      have hv := ixV_size p (blk (pushes R st0 c)).length (by omega) (by omega)
      have k1 := hok.k1
      have k2 := hok.k2
      rw [hl]
      have hf : fault (e.1, 0, false, ixV p (blk (pushes R st0 c)).length) = 0 := by
        have g1 : ¬ e.1.size = 0 := by omega
        have g2 : ¬ 64 < e.1.size := by omega
        have g3 : ¬ 512 < (ixV p (blk (pushes R st0 c)).length).size := by omega
        simp [fault, g1, g2, g3]
      unfold adds
      rw [if_neg (by rw [hf]; simp), if_pos]
      simpa [ByteArray.toList_eq] using hlt
    · have e1 : lastE ⟨#[]⟩ c = lastE last c := lastE_any hc0 _ _
      show chain (lastE ⟨#[]⟩ c) _
      rw [e1]
      exact ih _ _ (fun x hx => hne x (by simp [hx])) hc.2 (by omega)
/-- What a maker holds, of these blocks and these entries behind them. -/
structure Inv (R : Nat) (bits : Int) (S : Ts) (css : List (List En)) (c : List En) : Prop where
  ne : ∀ cs ∈ css, cs ≠ []
  ch : chain ⟨#[]⟩ (css.flatten ++ c)
  nn : ∀ e ∈ css.flatten ++ c, 0 ≤ e.2.1
  cur : S.cur = pushes R st0 c
  idx : S.idx = pushes R st0 (ixs R 0 css)
  laid : S.laid = laidOf R css
  mt : S.mt = ⟨(mtF (css.flatten ++ c)).wt, ((laidOf R css).length : Int), (css.flatten ++ c).length, (mtF (css.flatten ++ c)).lo, lastE ⟨#[]⟩ (css.flatten ++ c)⟩
  keys : S.keys = if 0 < bits then (css.flatten ++ c).map (·.1) else []
  op : S.ended = false
theorem Inv.first (R : Nat) (bits : Int) : Inv R bits ts0 [] [] :=
  ⟨by simp, trivial, by simp, rfl, rfl, rfl, rfl, by simp [ts0], rfl⟩
theorem layR_zero {S : Ts} {e : En} (h : layR S e = 0) : Op.bytesLess S.mt.hi.data.toList e.1.data.toList = true ∧ fault e = 0 ∧ adds S.cur.last e = 0 := by
  unfold layR at h
  split at h
  · rename_i h1; exact ⟨h1, (adds_ok h).1, h⟩
  · exact absurd h (why_ne e)
theorem Inv.mid {r bits : Int} {S : Ts} {css : List (List En)} {c : List En} (h : Inv (Rn r) bits S css c) {e : En} (hR : layR S e = 0) (h0 : 0 ≤ e.2.1) : Inv (Rn r) bits (midS r bits S e) css (c ++ [e]) := by
  obtain ⟨h1, h2, h3⟩ := layR_zero hR
  have hmt := h.mt
  refine ⟨h.ne, ?_, ?_, ?_, h.idx, h.laid, ?_, ?_, h.op⟩
  · rw [← List.append_assoc]
    refine chain_snoc h.ch ?_
    unfold adds
    rw [if_neg (by rw [h2]; simp), if_pos]
    rw [hmt] at h1
    exact h1
  · rw [← List.append_assoc]
    intro x hx
    rcases List.mem_append.1 hx with hx | hx
    · exact h.nn x hx
    · simp at hx; subst hx; exact h0
  · show push (Rn r) S.cur e = _
    rw [h.cur, pushes_snoc]
  · show S.mt.more e = _
    rw [hmt, ← List.append_assoc, mtF_snoc, lastE_snoc]
    simp [Mt.more, mtF_n]
    omega
  · show (if 0 < bits then S.keys ++ [e.1] else S.keys) = _
    rw [h.keys, ← List.append_assoc]
    by_cases hb : 0 < bits
    · simp [hb]
    · simp [hb]
theorem chain_last {l m : List En} {a : ByteArray} (h : chain a (l ++ m)) : chain (lastE a l) m := ((chain_app l m a).1 h).2
theorem Inv.end_ {r bits : Int} {S : Ts} {css : List (List En)} {c : List En} (h : Inv (Rn r) bits S css c) (hc : c ≠ []) (hl : (laidOf (Rn r) (css ++ [c])).length < 9223372036854775808) : Inv (Rn r) bits (endS r S) (css ++ [c]) [] := by
  have hfl : (css ++ [c]).flatten ++ [] = css.flatten ++ c := by simp
  have hhi : lastE ⟨#[]⟩ (css.flatten ++ c) = lastE ⟨#[]⟩ c := by rw [lastE_app]; exact lastE_any hc _ _
  have hixE : ixE S = (lastE ⟨#[]⟩ c, 0, false, ixV (0 + (laidOf (Rn r) css).length) (blk (pushes (Rn r) st0 c)).length) := by
    unfold ixE
    rw [h.mt, h.laid, h.cur, hhi]
    simp
  have hne : ∀ cs ∈ css ++ [c], cs ≠ [] := fun cs hcs => by
    rcases List.mem_append.1 hcs with hcs | hcs
    · exact h.ne cs hcs
    · simp at hcs; subst hcs; exact hc
  have hch := ixs_chain (Rn r) (css ++ [c]) 0 ⟨#[]⟩ hne (by simpa using h.ch) (by omega)
  rw [ixs_snoc, chain_app] at hch
  have hadd : adds S.idx.last (ixE S) = 0 := by
    rw [hixE, h.idx, pushes_lastE]
    exact hch.2.1
  refine ⟨hne, by rw [hfl]; exact h.ch, by rw [hfl]; exact h.nn, rfl, ?_, ?_, ?_, by rw [hfl]; exact h.keys, h.op⟩
  · show (if adds S.idx.last (ixE S) = 0 then push (Rn r) S.idx (ixE S) else S.idx) = _
    rw [if_pos hadd, ixs_snoc, pushes_snoc, hixE, h.idx]
  · show S.laid ++ blk S.cur = _
    rw [laid_snoc, h.laid, h.cur]
  · show (⟨S.mt.wt, ((S.laid.length + (blk S.cur).length : Nat) : Int), S.mt.n, S.mt.lo, S.mt.hi⟩ : Mt) = _
    rw [hfl, h.mt, h.laid, h.cur, laid_snoc]
    simp only [List.length_append]
theorem push_ne (R : Nat) (s : St) (e : En) : 0 < (push R s e).b.length := by
  have := entB_pos (sh R s e) e
  show 0 < (s.b ++ entB (sh R s e) e).length
  rw [List.length_append]; omega
theorem pushes_pos (R : Nat) {c : List En} (hc : c ≠ []) : 0 < (pushes R st0 c).b.length := by
  rcases List.eq_nil_or_concat c with rfl | ⟨m, e, rfl⟩
  · exact absurd rfl hc
  · rw [List.concat_eq_append, pushes_snoc]; exact push_ne _ _ _
/-- What all of it takes at most. -/
theorem Inv.sizes {R : Nat} {bits : Int} {S : Ts} {css : List (List En)} {c : List En} (h : Inv R bits S css c) : css.length ≤ css.flatten.length ∧ (∀ e ∈ css.flatten ++ c, Ok e ∧ 0 ≤ e.2.1) := by
  refine ⟨?_, fun e he => ⟨chain_ok h.ch e he, h.nn e he⟩⟩
  have hne := h.ne
  clear h
  induction css with
  | nil => simp
  | cons a css ih =>
    have h1 := ih (fun x hx => hne x (by simp [hx]))
    have h2 := List.length_pos_iff.2 (hne a (by simp))
    simp only [List.length_cons, List.flatten_cons, List.length_append]
    omega
theorem laid_len (R : Nat) (css : List (List En)) (h : ∀ e ∈ css.flatten, Ok e ∧ 0 ≤ e.2.1) (hne : ∀ cs ∈ css, cs ≠ []) : (laidOf R css).length ≤ 712 * css.flatten.length := by
  induction css with
  | nil => simp [laidOf]
  | cons a css ih =>
    have h1 := ih (fun x hx => h x (by simp at hx ⊢; right; exact hx)) (fun x hx => hne x (by simp [hx]))
    have h2 := List.length_pos_iff.2 (hne a (by simp))
    have h3 := pushes_len R a (fun x hx => h x (by simp [hx]))
    have h4 := pushes_plen R a st0
    have h5 : (st0.p).length = 0 := rfl
    rw [laid_cons, List.length_append, blk_len, List.flatten_cons, List.length_append]
    omega
theorem Inv.bnd {r bits : Int} {S : Ts} {css : List (List En)} {c : List En} (h : Inv (Rn r) bits S css c) (hn : (css.flatten ++ c).length ≤ 1000000) : Bnd S := by
  obtain ⟨h1, h2⟩ := h.sizes
  rw [List.length_append] at hn
  have a1 := pushes_len (Rn r) c (fun e he => h2 e (by simp [he]))
  have a2 := pushes_plen (Rn r) c st0
  have a3 := laid_len (Rn r) css (fun e he => h2 e (List.mem_append_left _ he)) h.ne
  have a4 : ∀ e ∈ ixs (Rn r) 0 css, Ok e ∧ 0 ≤ e.2.1 := by
    have hch := ixs_chain (Rn r) css 0 ⟨#[]⟩ h.ne ((chain_app _ _ _).1 h.ch).1 (by omega)
    intro e he
    refine ⟨chain_ok hch e he, ?_⟩
    clear a1 a2 a3 h1 h2 hch
    generalize (0 : Nat) = p at he
    have : ∀ (css : List (List En)) p, e ∈ ixs (Rn r) p css → 0 ≤ e.2.1 := by
      intro css
      induction css with
      | nil => intro p hp; simp [ixs] at hp
      | cons a css ih =>
        intro p hp
        simp only [ixs, List.mem_cons] at hp
        rcases hp with rfl | hp
        · exact Int.le_refl _
        · exact ih _ hp
    exact this _ _ he
  have a5 := pushes_len (Rn r) (ixs (Rn r) 0 css) a4
  have a6 := pushes_plen (Rn r) (ixs (Rn r) 0 css) st0
  have a7 := ixs_len (Rn r) css 0
  have a8 := pushes_n (Rn r) (ixs (Rn r) 0 css) st0
  have a9 := pushes_n (Rn r) c st0
  have h00 : st0.p.length = 0 := rfl
  have h01 : st0.n = 0 := rfl
  have hhi : (lastE ⟨#[]⟩ (css.flatten ++ c)).size ≤ 64 := by
    by_cases hz : css.flatten ++ c = []
    · rw [hz]; simp [lastE, ByteArray.size]
    · obtain ⟨e, he, hl⟩ := lastE_mem hz ⟨#[]⟩
      rw [hl]; exact (h2 e he).1.k2
  refine ⟨?_, ?_, ?_, ?_, ?_, ?_, ?_, ?_, ?_, ?_⟩
  · rw [h.cur]; omega
  · rw [h.cur]; omega
  · rw [h.cur]; omega
  · rw [h.laid]; omega
  · rw [h.idx]; omega
  · rw [h.idx]; omega
  · rw [h.idx]; omega
  · rw [h.mt]; show (lastE ⟨#[]⟩ (css.flatten ++ c)).size ≤ _; omega
  · rw [h.mt]; show (css.flatten ++ c).length ≤ _; rw [List.length_append]; omega
  · rw [h.keys]
    split
    · rw [List.length_map, List.length_append]; omega
    · simp
/-- One entry more. -/
theorem Inv.add {bb r bits : Int} {S : Ts} {css : List (List En)} {c : List En} (h : Inv (Rn r) bits S css c) (hn : (css.flatten ++ c).length ≤ 100000) (e : En) (h0 : 0 ≤ e.2.1) :
    (layR S e ≠ 0 ∧ tadd bb r bits S e = ([], layR S e, S)) ∨ (layR S e = 0 ∧ (tadd bb r bits S e).2.1 = 0 ∧ (tadd bb r bits S e).2.2.laid = S.laid ++ (tadd bb r bits S e).1 ∧ ∃ css' c', Inv (Rn r) bits (tadd bb r bits S e).2.2 css' c' ∧ css'.flatten ++ c' = css.flatten ++ c ++ [e]) := by
  by_cases hR : layR S e = 0
  · right
    have hm := h.mid hR h0
    unfold tadd
    rw [if_neg (by rw [h.op]; simp), if_neg (by rw [hR]; simp)]
    split
    · exact ⟨hR, rfl, (List.append_nil _).symm, css, c ++ [e], hm, (List.append_assoc _ _ _).symm⟩
    · obtain ⟨h1, h2⟩ := hm.sizes
      have a3 := laid_len (Rn r) (css ++ [c ++ [e]]) (fun x hx => h2 x (by simpa using hx)) (fun cs hcs => by
        rcases List.mem_append.1 hcs with hcs | hcs
        · exact h.ne cs hcs
        · simp at hcs; subst hcs; simp)
      have he := hm.end_ (by simp) (by
        have e1 : (css ++ [c ++ [e]]).flatten.length = (css.flatten ++ c).length + 1 := by simp; omega
        rw [e1] at a3
        omega)
      exact ⟨hR, rfl, rfl, css ++ [c ++ [e]], [], he, by simp⟩
  · left
    refine ⟨hR, ?_⟩
    unfold tadd
    rw [if_neg (by rw [h.op]; simp), if_pos hR]
/-- The last block is ended. -/
theorem Inv.last {r bits : Int} {S : Ts} {css : List (List En)} {c : List En} (h : Inv (Rn r) bits S css c) (hn : (css.flatten ++ c).length ≤ 100000) :
    ∃ css', Inv (Rn r) bits (lastS r S) css' [] ∧ css'.flatten = css.flatten ++ c := by
  unfold lastS
  by_cases hc : c = []
  · subst hc
    rw [if_neg (by unfold curSz; rw [h.cur]; simp [pushes, st0])]
    exact ⟨css, h, by simp⟩
  · rw [if_pos (by unfold curSz; rw [h.cur]; have := pushes_pos (Rn r) hc; omega)]
    obtain ⟨h1, h2⟩ := h.sizes
    have a3 := laid_len (Rn r) (css ++ [c]) (fun x hx => h2 x (by simpa using hx)) (fun cs hcs => by
      rcases List.mem_append.1 hcs with hcs | hcs
      · exact h.ne cs hcs
      · simp at hcs; subst hcs; exact hc)
    exact ⟨css ++ [c], h.end_ hc (by
        have e1 : (css ++ [c]).flatten.length = (css.flatten ++ c).length := by simp
        rw [e1] at a3
        omega), by simp⟩

end Tbl
end Go.Proofs.YtnhhalabmmcemaaDoor
