import Derived.Test.YtnhhalabmmcemaaDoorTaX
import Derived.BigQuiet
namespace Go.Proofs.YtnhhalabmmcemaaDoor
namespace Tbl
open Go.RowKit CMath Byt Laws Irw Crw Cod Qb
set_option linter.unusedVariables false
set_option linter.unusedSimpArgs false
set_option maxRecDepth 20000

/-! P10.7: what a table gives of its entries. -/
theorem ger_self (k : ByteArray) : ger k k = true := by
  unfold ger
  rw [KMath.bl_irrefl]; rfl
theorem ger_false {a b : ByteArray} (h : Op.bytesLess a.toList b.toList = true) : ger a b = false := by unfold ger; rw [h]; rfl
theorem ger_true {a b : ByteArray} (h : Op.bytesLess a.toList b.toList = true) : ger b a = true := by
  unfold ger
  cases h2 : Op.bytesLess b.toList a.toList with
  | false => rfl
  | true =>
    have := KMath.bl_trans _ _ _ h h2
    rw [KMath.bl_irrefl] at this; cases this
theorem ger_lt {a b : ByteArray} (h : ger a b = false) : Op.bytesLess a.toList b.toList = true := by
  unfold ger at h; simpa using h
theorem ger_up {a b k : ByteArray} (h : Op.bytesLess a.toList b.toList = true) (hk : ger a k = true) : ger b k = true := by
  cases hb : ger b k with
  | true => rfl
  | false =>
    have := KMath.bl_trans _ _ _ h (ger_lt hb)
    rw [ger_false this] at hk; cases hk
/-- The last of a chunk isn't below any of it. -/
theorem last_ge {cs : List En} {last : ByteArray} (hc : chain last cs) {e : En} (he : e ∈ cs) : ger (lastE ⟨#[]⟩ cs) e.1 = true := by
  rcases List.eq_nil_or_concat cs with rfl | ⟨m, x, rfl⟩
  · simp at he
  · rw [List.concat_eq_append] at *
    rw [lastE_snoc]
    rcases List.mem_append.1 he with he | he
    · obtain ⟨i, hi⟩ := List.getElem?_of_mem he
      have hil := (List.getElem?_eq_some_iff.1 hi).1
      have h1 : (m ++ [x])[i]? = some e := by rw [List.getElem?_append_left hil]; exact hi
      have h2 : (m ++ [x])[m.length]? = some x := by simp
      exact ger_true (chain_lt hc i m.length e x h1 h2 hil)
    · simp at he; subst he; exact ger_self _
/-- What lies in an earlier chunk is below what lies in a later one. -/
theorem part_lt {css : List (List En)} {last : ByteArray} (hc : chain last css.flatten) {i j : Nat} {ci cj : List En} (hi : css[i]? = some ci) (hj : css[j]? = some cj) (hij : i < j) {x y : En} (hx : x ∈ ci) (hy : y ∈ cj) : Op.bytesLess x.1.toList y.1.toList = true := by
  have hjl := (List.getElem?_eq_some_iff.1 hj).1
  have e : css.flatten = (css.take j).flatten ++ (css.drop j).flatten := by rw [← List.flatten_append, List.take_append_drop]
  have hx' : x ∈ (css.take j).flatten := by
    refine List.mem_flatten.2 ⟨ci, ?_, hx⟩
    refine List.mem_of_getElem? (i := i) ?_
    rw [List.getElem?_take_of_lt hij]; exact hi
  have hy' : y ∈ (css.drop j).flatten := by
    refine List.mem_flatten.2 ⟨cj, ?_, hy⟩
    refine List.mem_of_getElem? (i := 0) ?_
    rw [List.getElem?_drop]; exact hj
  obtain ⟨a, ha⟩ := List.getElem?_of_mem hx'
  obtain ⟨b, hb⟩ := List.getElem?_of_mem hy'
  have hal := (List.getElem?_eq_some_iff.1 ha).1
  rw [e] at hc
  refine chain_lt hc a ((css.take j).flatten.length + b) x y ?_ ?_ (by omega)
  · rw [List.getElem?_append_left hal]; exact ha
  · rw [List.getElem?_append_right (by omega)]
    rw [show (css.take j).flatten.length + b - (css.take j).flatten.length = b by omega]; exact hb
theorem part_chain {css : List (List En)} {last : ByteArray} (hc : chain last css.flatten) {i : Nat} {ci : List En} (hi : css[i]? = some ci) : ∃ l', chain l' ci := by
  obtain ⟨m, hm⟩ := flat_pre hi
  rw [hm, chain_app, chain_app] at hc
  exact ⟨_, hc.2.1⟩
theorem PsAt.get {R : Nat} {T : Nat → Nat} {w : World} {ps : List (ByteArray × Nat)} {css : List (List En)} (h : PsAt R T w ps css) {i : Nat} {p : ByteArray × Nat} (hp : ps[i]? = some p) : ∃ cs, css[i]? = some cs ∧ p.1 = lastE ⟨#[]⟩ cs := by
  obtain ⟨cs, r, h1, h2, _⟩ := PsAt.at_ ps css i p h hp
  exact ⟨cs, h1, h2⟩
/-- The parts' greatest keys rise. -/
theorem rise {R : Nat} {T : Nat → Nat} {w : World} {ps : List (ByteArray × Nat)} {css : List (List En)} (h : PsAt R T w ps css) (hc : chain ⟨#[]⟩ css.flatten) (hne : ∀ cs ∈ css, cs ≠ []) (key : ByteArray) : ∀ (a b : Nat) (x y : ByteArray × Nat), a ≤ b → ps[a]? = some x → ps[b]? = some y → ger x.1 key = true → ger y.1 key = true := by
  intro a b x y hab hx hy hg
  by_cases hq : a = b
  · subst hq; rw [hx] at hy; cases hy; exact hg
  · obtain ⟨ca, ha, ea⟩ := h.get hx
    obtain ⟨cb, hb, eb⟩ := h.get hy
    obtain ⟨e1, m1, l1⟩ := lastE_mem (hne ca (List.mem_of_getElem? ha)) ⟨#[]⟩
    obtain ⟨e2, m2, l2⟩ := lastE_mem (hne cb (List.mem_of_getElem? hb)) ⟨#[]⟩
    rw [ea, l1] at hg
    rw [eb, l2]
    exact ger_up (part_lt hc ha hb (by omega) m1 m2) hg
/-- Where the parts are cut for a key. -/
structure CutAt (ps : List (ByteArray × Nat)) (key : ByteArray) (j : Nat) : Prop where
  le : j ≤ ps.length
  lo : ∀ i x, i < j → ps[i]? = some x → ger x.1 key = false
  up : ∀ i x, j ≤ i → ps[i]? = some x → ger x.1 key = true
theorem cut_low {R : Nat} {T : Nat → Nat} {w : World} {ps : List (ByteArray × Nat)} {css : List (List En)} (h : PsAt R T w ps css) (hc : chain ⟨#[]⟩ css.flatten) {key : ByteArray} {j : Nat} (hj : CutAt ps key j) {i : Nat} {ci : List En} (hi : css[i]? = some ci) (hij : i < j) {e : En} (he : e ∈ ci) : ger e.1 key = false := by
  have hl : i < ps.length := by have := hj.le; omega
  have hx : ps[i]? = some ps[i] := List.getElem?_eq_getElem hl
  obtain ⟨cs, h1, h2⟩ := h.get hx
  rw [hi] at h1; cases h1
  have h3 := hj.lo i _ hij hx
  rw [h2] at h3
  obtain ⟨l', hc'⟩ := part_chain hc hi
  cases hg : ger e.1 key with
  | false => rfl
  | true =>
    have h4 := last_ge hc' he
    have h5 := ger_lt h3
    cases h6 : Op.bytesLess e.1.toList (lastE ⟨#[]⟩ ci).toList with
    | true => rw [ger_up h6 hg] at h3; cases h3
    | false =>
      -- they are the same key
      have h7 : ger e.1 (lastE ⟨#[]⟩ ci) = true := by unfold ger; rw [h6]; rfl
      have h8 : e.1.toList = (lastE ⟨#[]⟩ ci).toList := KMath.bl_tri _ _ h6 (by unfold ger at h4; simpa using h4)
      unfold ger at hg h3
      rw [h8] at hg
      rw [hg] at h3; cases h3
/-- What From gives for a key. -/
def frE (css : List (List En)) (key : ByteArray) : List En := css.flatten.filter fun e => ger e.1 key
theorem frE_cut {R : Nat} {T : Nat → Nat} {w : World} {ps : List (ByteArray × Nat)} {css : List (List En)} (h : PsAt R T w ps css) (hc : chain ⟨#[]⟩ css.flatten) {key : ByteArray} {j : Nat} (hj : CutAt ps key j) : frE (css.drop j) key = frE css key := by
  unfold frE
  have e : css.flatten = (css.take j).flatten ++ (css.drop j).flatten := by rw [← List.flatten_append, List.take_append_drop]
  rw [e, List.filter_append]
  have : (css.take j).flatten.filter (fun e => ger e.1 key) = [] := by
    refine List.filter_eq_nil_iff.2 fun x hx => ?_
    obtain ⟨ci, hci, hx'⟩ := List.mem_flatten.1 hx
    obtain ⟨i, hi⟩ := List.getElem?_of_mem hci
    have hil := (List.getElem?_eq_some_iff.1 hi).1
    rw [List.length_take] at hil
    rw [List.getElem?_take_of_lt (by omega)] at hi
    rw [cut_low h hc hj hi (by omega) hx']
    simp
  rw [this, List.nil_append]
theorem frE_at {css : List (List En)} (hc : chain ⟨#[]⟩ css.flatten) {i : Nat} {e : En} (he : css.flatten[i]? = some e) : frE css e.1 = css.flatten.drop i := by
  unfold frE
  conv => lhs; rw [← List.take_append_drop i css.flatten]
  rw [List.filter_append]
  have h1 : (css.flatten.take i).filter (fun x => ger x.1 e.1) = [] := by
    refine List.filter_eq_nil_iff.2 fun x hx => ?_
    obtain ⟨k, hk⟩ := List.getElem?_of_mem hx
    have hkl := (List.getElem?_eq_some_iff.1 hk).1
    rw [List.length_take] at hkl
    rw [List.getElem?_take_of_lt (by omega)] at hk
    rw [ger_false (chain_lt hc k i x e hk he (by omega))]
    simp
  have h2 : (css.flatten.drop i).filter (fun x => ger x.1 e.1) = css.flatten.drop i := by
    refine List.filter_eq_self.2 fun x hx => ?_
    obtain ⟨k, hk⟩ := List.getElem?_of_mem hx
    rw [List.getElem?_drop] at hk
    by_cases hz : k = 0
    · subst hz
      rw [Nat.add_zero, he] at hk; cases hk; exact ger_self _
    · exact ger_true (chain_lt hc i (i + k) e x he hk (by omega))
  rw [h1, h2, List.nil_append]
theorem frE_all {css : List (List En)} (hc : chain ⟨#[]⟩ css.flatten) : frE css ⟨#[]⟩ = css.flatten := by
  unfold frE
  exact List.filter_eq_self.2 fun x hx => ger_true (chain_all hc x hx)
/-- Get finds what lies in the table. -/
theorem gt_at {R : Nat} {T : Nat → Nat} {w : World} {ps : List (ByteArray × Nat)} {css : List (List En)} (h : PsAt R T w ps css) (hc : chain ⟨#[]⟩ css.flatten) {F : List Nat} {e : En} (he : e ∈ css.flatten) (hm : BMath.may F (strB e.1) = true) {j : Nat} (hj : CutAt ps e.1 j) : gtR css F j e.1 = some e := by
  obtain ⟨ci, hci, hx⟩ := List.mem_flatten.1 he
  obtain ⟨i, hi⟩ := List.getElem?_of_mem hci
  have hil := (List.getElem?_eq_some_iff.1 hi).1
  have hpl := PsAt.len _ _ h
  have h1 : ¬ i < j := fun hij => by
    have := cut_low h hc hj hi hij hx
    rw [ger_self] at this; cases this
  have h2 : ¬ j < i := fun hji => by
    have hx2 : ps[j]? = some (ps[j]'(by omega)) := List.getElem?_eq_getElem (by omega)
    obtain ⟨cs, c1, c2⟩ := h.get hx2
    have h3 := hj.up j _ (Nat.le_refl _) hx2
    by_cases hn : cs = []
    · subst hn
      rw [c2] at h3
      have h0 := chain_all hc e he
      rw [show lastE ⟨#[]⟩ ([] : List En) = ⟨#[]⟩ from rfl, ger_false h0] at h3
      cases h3
    · obtain ⟨e2, m2, l2⟩ := lastE_mem hn ⟨#[]⟩
      rw [c2, l2, ger_false (part_lt hc c1 hi hji m2 hx)] at h3
      cases h3
  obtain rfl : j = i := by omega
  unfold gtR
  rw [hi]
  show (if BMath.may F (strB e.1) = true then gtC ci e.1 else none) = _
  rw [if_pos hm]
  obtain ⟨l', hc'⟩ := part_chain hc hi
  obtain ⟨k, hk⟩ := List.getElem?_of_mem hx
  have hs : skE ci e.1 = some e := by
    unfold skE
    rw [← List.take_append_drop k ci, List.find?_append]
    have n1 : (ci.take k).find? (fun x => !Op.bytesLess x.1.toList e.1.toList) = none := by
      refine List.find?_eq_none.2 fun x hx => ?_
      obtain ⟨q, hq⟩ := List.getElem?_of_mem hx
      have hql := (List.getElem?_eq_some_iff.1 hq).1
      rw [List.length_take] at hql
      rw [List.getElem?_take_of_lt (by omega)] at hq
      rw [chain_lt hc' q k x e hq hk (by omega)]
      simp
    have hkl := (List.getElem?_eq_some_iff.1 hk).1
    have hke : ci[k] = e := by have := (List.getElem?_eq_some_iff.1 hk).2; exact this
    rw [n1, List.drop_eq_getElem_cons hkl, hke, List.find?_cons, KMath.bl_irrefl]
    rfl
  unfold gtC
  rw [hs]
  simp

end Tbl
end Go.Proofs.YtnhhalabmmcemaaDoor
namespace Go.Proofs.YtnhhalabmmcemaaDoor
namespace Tbl
open Go.RowKit Go.Shelf CMath Byt Laws Irw Crw Cod Qb Qe
set_option linter.unusedVariables false
set_option linter.unusedSimpArgs false
set_option maxRecDepth 100000
attribute [local go_sem] Oper.semAt_some

/-- The one place where the parts are cut. -/
def cutN (ps : List (ByteArray × Nat)) (key : ByteArray) : Nat := (ps.takeWhile fun p => !ger p.1 key).length
theorem cutN_lo {key : ByteArray} : ∀ (ps : List (ByteArray × Nat)) (i : Nat) (x : ByteArray × Nat), i < cutN ps key → ps[i]? = some x → ger x.1 key = false
  | [], i, x, _, h => by simp at h
  | p :: ps, i, x, hi, h => by
    unfold cutN at hi
    rw [List.takeWhile_cons] at hi
    split at hi
    · rename_i hp
      cases i with
      | zero => simp at h; subst h; simpa using hp
      | succ i => exact cutN_lo ps i x (by simp at hi; exact hi) (by simpa using h)
    · simp at hi
theorem cutN_le (ps : List (ByteArray × Nat)) (key : ByteArray) : cutN ps key ≤ ps.length := (List.takeWhile_sublist _).length_le
theorem cutN_at {key : ByteArray} : ∀ (ps : List (ByteArray × Nat)) (x : ByteArray × Nat), ps[cutN ps key]? = some x → ger x.1 key = true
  | [], x, h => by simp at h
  | p :: ps, x, h => by
    by_cases hp : ger p.1 key = true
    · have : cutN (p :: ps) key = 0 := by unfold cutN; rw [List.takeWhile_cons, if_neg (by rw [hp]; simp)]; rfl
      rw [this] at h; simp at h; subst h; exact hp
    · have : cutN (p :: ps) key = cutN ps key + 1 := by unfold cutN; rw [List.takeWhile_cons, if_pos (by simpa using hp)]; rfl
      rw [this] at h
      exact cutN_at ps x (by simpa using h)
theorem CutAt.is {ps : List (ByteArray × Nat)} {key : ByteArray} {j : Nat} (h : CutAt ps key j) : j = cutN ps key := by
  have h1 := cutN_le ps key
  have h2 := h.le
  rcases Nat.lt_trichotomy j (cutN ps key) with hl | he | hl
  · have hx : ps[j]? = some (ps[j]'(by omega)) := List.getElem?_eq_getElem (by omega)
    have a := h.up j _ (Nat.le_refl _) hx
    rw [cutN_lo ps j _ hl hx] at a; cases a
  · exact he
  · have hx : ps[cutN ps key]? = some (ps[cutN ps key]'(by omega)) := List.getElem?_eq_getElem (by omega)
    have a := h.lo _ _ hl hx
    rw [cutN_at ps _ hx] at a; cases a
/-- Several marks are taken, and what outlasts each stays. -/
theorem leaves_marksP {F : Fence} {n : Nat} {P : Program} {fn : Func} {tmps : Array Value} {R : Ending → World → Prop} {B0 : Nat} {Pd : World → Prop} (hPd : ∀ w D, Pd w → B0 ≤ D → w.heap[D]? = some (.deferred (some [])) → Pd (w.putObj D (.deferred none))) : ∀ (Ds : List Nat) (w : World), Pd w → (∀ D ∈ Ds, B0 ≤ D ∧ w.heap[D]? = some (.deferred (some []))) → Ds.Nodup →
    (∀ w', Pd w' → LeavesIn F n P fn tmps R [] .returning w') → LeavesInM F n P fn tmps R (Ds.map fun D => { target := .collected D, args := #[] }) .returning w
  | [], w, hp, _, _, h => h w hp
  | D :: Ds, w, hp, hD, hnd, h => by
    obtain ⟨hnD, hnd'⟩ := List.nodup_cons.1 hnd
    obtain ⟨hle, hobj⟩ := hD D List.mem_cons_self
    refine ⟨by simp, .inl ⟨_, _, rfl, run_takeDeferred hobj, ?_⟩⟩
    refine leaves_marksP hPd Ds _ (hPd w D hp hle hobj) (fun E hE => ⟨(hD E (List.mem_cons_of_mem _ hE)).1, ?_⟩) hnd' h
    rw [World.putObj_heap_other (by rintro rfl; exact hnD hE)]
    exact (hD E (List.mem_cons_of_mem _ hE)).2
/-- What stands while From's iterator goes on. -/
structure Fi (u : Nat → Prop) (J : List En → (Nat → Nat) → World → Prop) (N l Bq B pb : Nat) (cc : Array Value) (cty : TypeId) (key : ByteArray) (ps : List (ByteArray × Nat)) (F : List Nat) (m : Mt) (R : Nat) (css : List (List En)) (Ds : List Nat) (es : List En) (T : Nat → Nat) (W : World) : Prop where
  j : J es T W
  tb : TbO 20 T W B ps F m
  ps : PsAt R T W ps css
  bq : W.heap[Bq]? = some (.cells #[.string key] 9)
  tq : T Bq = 0
  yb : W.heap[N]? = some (.cells #[.func (.yield l) #[] #[]] 94)
  ty : T N = 0
  pk : W.heap[pb]? = some (.cells cc cty)
  tp : T pb = 21
  hi : ∀ b, W.heap.size ≤ b → T b = 0
  ma : ∀ D ∈ Ds, N ≤ D ∧ W.heap[D]? = some (.deferred (some []))
theorem Fi.grown {u : Nat → Prop} {J : List En → (Nat → Nat) → World → Prop} {N l Bq B pb : Nat} {cc : Array Value} {cty : TypeId} {key : ByteArray} {ps : List (ByteArray × Nat)} {F : List Nat} {m : Mt} {R : Nat} {css : List (List En)} {Ds : List Nat} {es : List En} {T : Nat → Nat} {A C : World} {row : Option Nat} {M : Nat} (h : Fi u J N l Bq B pb cc cty key ps F m R css Ds es T A) (hJ : Lasts N J) (hNM : N ≤ M) (hD : ∀ D ∈ Ds, D < M) (hg : A.grownBy C row) (hr : ∀ r, row = some r → M ≤ r ∧ ∃ o : Obj, A.heap[r]? = some o ∧ o.isCells = false) : Fi u J N l Bq B pb cc cty key ps F m R css Ds es T C := by
  have hr2 : ∀ x, row = some x → ∃ o : Obj, A.heap[x]? = some o ∧ o.isCells = false := fun x e => (hr x e).2
  exact ⟨hJ es T A C row h.j hg (fun r e => ⟨by have := (hr r e).1; omega, (hr r e).2⟩), h.tb.grown hg hr2, h.ps.grown hg hr2, obj_grown hg hr2 h.bq, h.tq, obj_grown hg hr2 h.yb, h.ty, obj_grown hg hr2 h.pk, h.tp, fun b hb => h.hi b (Nat.le_trans hg.size hb), fun D hm => ⟨(h.ma D hm).1, (hg.block D (Array.getElem?_eq_some_iff.1 (h.ma D hm).2).1 (fun e => by have := (hr D e.symm).1; have := hD D hm; omega)).trans (h.ma D hm).2⟩⟩
theorem Fi.below {u : Nat → Prop} {J : List En → (Nat → Nat) → World → Prop} {N l Bq B pb : Nat} {cc : Array Value} {cty : TypeId} {key : ByteArray} {ps : List (ByteArray × Nat)} {F : List Nat} {m : Mt} {R : Nat} {css : List (List En)} {Ds : List Nat} {es : List En} {T : Nat → Nat} {A C : World} (h : Fi u J N l Bq B pb cc cty key ps F m R css Ds es T A) (hJ : Lasts N J) (hb : Below A.heap.size A C) : Fi u J N l Bq B pb cc cty key ps F m R css Ds es T C :=
  ⟨hJ es T A C none h.j ⟨hb.os, hb.tape, hb.output, hb.size, fun b hb' _ => hb.block b hb'⟩ (fun r e => by cases e), h.tb.below hb, h.ps.goes (Goes.below (t := fun _ => False) hb) (fun z => z), (hb.block _ (Array.getElem?_eq_some_iff.1 h.bq).1).trans h.bq, h.tq, (hb.block _ (Array.getElem?_eq_some_iff.1 h.yb).1).trans h.yb, h.ty, (hb.block _ (Array.getElem?_eq_some_iff.1 h.pk).1).trans h.pk, h.tp, fun b hb' => h.hi b (Nat.le_trans hb.size hb'), fun D hm => ⟨(h.ma D hm).1, (hb.block D (Array.getElem?_eq_some_iff.1 (h.ma D hm).2).1).trans (h.ma D hm).2⟩⟩
theorem Fi.step {u : Nat → Prop} {J : List En → (Nat → Nat) → World → Prop} {N l Bq B pb : Nat} {cc : Array Value} {cty : TypeId} {key : ByteArray} {ps : List (ByteArray × Nat)} {F : List Nat} {m : Mt} {R : Nat} {css : List (List En)} {Ds : List Nat} {es : List En} {T : Nat → Nat} {A C : World} {es' : List En} {T' : Nat → Nat} (h : Fi u J N l Bq B pb cc cty key ps F m R css Ds es T A) (hu : ¬ u 0 ∧ ¬ u 20 ∧ ¬ u 21) (hj : J es' T' C) (hg : Goes u T A T' C) (hz : ∀ b, C.heap.size ≤ b → T' b = 0) (hk : KeepsFrom N A C) : Fi u J N l Bq B pb cc cty key ps F m R css Ds es' T' C := by
  have lq := (Array.getElem?_eq_some_iff.1 h.bq).1
  have ly := (Array.getElem?_eq_some_iff.1 h.yb).1
  have lp := (Array.getElem?_eq_some_iff.1 h.pk).1
  have k : ∀ b, b < A.heap.size → T b = 0 → C.heap[b]? = A.heap[b]? ∧ T' b = 0 := fun b hb hz => ⟨hg.block b hb (by rw [hz]; exact hu.1), (hg.tag b hb (by rw [hz]; exact hu.1)).trans hz⟩
  exact ⟨hj, h.tb.goes hg hu.1 hu.2.1 hu.2.2, h.ps.goes hg hu.1, (k _ lq h.tq).1.trans h.bq, (k _ lq h.tq).2, (k _ ly h.ty).1.trans h.yb, (k _ ly h.ty).2, (hg.block _ lp (by rw [h.tp]; exact hu.2.2)).trans h.pk, (hg.tag _ lp (by rw [h.tp]; exact hu.2.2)).trans h.tp, hz, fun D hm => ⟨(h.ma D hm).1, hk.same D _ (h.ma D hm).1 (h.ma D hm).2 rfl⟩⟩
theorem Fi.more {u : Nat → Prop} {J : List En → (Nat → Nat) → World → Prop} {N l Bq B pb : Nat} {cc : Array Value} {cty : TypeId} {key : ByteArray} {ps : List (ByteArray × Nat)} {F : List Nat} {m : Mt} {R : Nat} {css : List (List En)} {Ds : List Nat} {es : List En} {T : Nat → Nat} {A C : World} (h : Fi u J N l Bq B pb cc cty key ps F m R css Ds es T A) {D : Nat} (h1 : N ≤ D) (h2 : A.heap[D]? = some (.deferred (some []))) : Fi u J N l Bq B pb cc cty key ps F m R css (D :: Ds) es T A :=
  ⟨h.j, h.tb, h.ps, h.bq, h.tq, h.yb, h.ty, h.pk, h.tp, h.hi, fun E hE => by
    rcases List.mem_cons.1 hE with rfl | hE
    · exact ⟨h1, h2⟩
    · exact h.ma E hE⟩
theorem frE_app (a b : List (List En)) (key : ByteArray) : frE (a ++ b) key = frE a key ++ frE b key := by unfold frE; rw [List.flatten_append, List.filter_append]
theorem frE_one (cs : List En) (key : ByteArray) : frE [cs] key = cs.filter fun e => ger e.1 key := by unfold frE; simp
theorem frE_next {css : List (List En)} {j : Nat} {cs : List En} (h : css[j]? = some cs) (key : ByteArray) : frE (css.take (j + 1)) key = frE (css.take j) key ++ cs.filter fun e => ger e.1 key := by
  rw [List.take_add_one, h, Option.toList_some, frE_app, frE_one]
theorem frE_pre {css : List (List En)} {j : Nat} {cs es : List En} (h : css[j]? = some cs) (key : ByteArray) (hp : es <+: cs) : frE (css.take j) key ++ (es.filter fun e => ger e.1 key) <+: frE css key := by
  have e : frE css key = frE (css.take (j + 1)) key ++ frE (css.drop (j + 1)) key := by rw [← frE_app, List.take_append_drop]
  obtain ⟨t, rfl⟩ := hp
  rw [e, frE_next h, List.filter_append]
  exact ⟨(t.filter fun e => ger e.1 key) ++ frE (css.drop (j + 1)) key, by simp [List.append_assoc]⟩
end Tbl
end Go.Proofs.YtnhhalabmmcemaaDoor
