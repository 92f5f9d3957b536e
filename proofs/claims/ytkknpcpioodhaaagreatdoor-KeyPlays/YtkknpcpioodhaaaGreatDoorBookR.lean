import Derived.Test.YtkknpcpioodhaaaGreatDoorProg
import Derived.Test.YtkknpcpioodhaaaGreatDoorBookO
import Derived.Test.YtkknpcpioodhaaaGreatDoorSame
import Derived.WalkKit
import Derived.WalkSpells
import Derived.WalkLawsBesides
import Derived.Laws.AppendOwnNone
namespace Go.Proofs.YtkknpcpioodhaaaGreatDoor
namespace Book
open Go.RowKit KMath Cmp Ent Chk Wei Ents Laws
set_option linter.unusedVariables false

/-- Tags of blocks that are not there yet: none. -/
def norm (T : Nat → Nat) (w : World) : Nat → Nat := fun b => if b < w.heap.size then T b else 0
theorem norm_in (T : Nat → Nat) (w : World) {b : Nat} (h : b < w.heap.size) : norm T w b = T b := by unfold norm; rw [if_pos h]
theorem norm_out (T : Nat → Nat) (w : World) {b : Nat} (h : w.heap.size ≤ b) : norm T w b = 0 := by unfold norm; rw [if_neg (by omega)]
theorem Core.norm {T : Nat → Nat} {w : World} {K : Nat} {f : Nat → Value} {L : Nat → List Value} (h : Core T w K f L) : Core (norm T w) w K f L :=
  ⟨h.fld, by rw [norm_in _ _ h.fld.1]; exact h.tag, fun j h1 h2 => ⟨(h.spine j h1 h2).1, fun b hb => by rw [norm_in _ _ ((h.spine j h1 h2).1.lt b hb).2]; exact (h.spine j h1 h2).2 b hb⟩⟩
theorem Its.norm {b : Nat} {T : Nat → Nat} {w : World} {l : List (Item × Item)} (h : Its b T w l) : Its b (norm T w) w l := fun i p hi => by
  obtain ⟨h1, h2, h3, h4, h5, h6⟩ := h i p hi
  exact ⟨h1, h2, h3, h4, by rw [norm_in _ _ h1.lt]; exact h5, by rw [norm_in _ _ h2.lt]; exact h6⟩
theorem Inv.norm {T : Nat → Nat} {w : World} {K : Nat} {f : Nat → Value} {L : Nat → List Value} {o x : List (Item × Item)} {M D : List Int} {N : Nat} (h : Inv T w K f L o x M D N) : Inv (norm T w) w K f L o x M D N :=
  { h with core := h.core.norm, outs := h.outs.norm, waits := h.waits.norm }

theorem Core.keep0 {T : Nat → Nat} {w w' : World} {K : Nat} {f : Nat → Value} {L : Nat → List Value} {bs : List Nat} (h : Core T w K f L) (hk : Keep bs w w') (hb : ∀ b ∈ bs, T b = 0) : Core T w' K f L :=
  ⟨h.fld.keep hk (fun hm => by have := hb K hm; rw [h.tag] at this; omega), h.tag, fun j h1 h2 => ⟨hk.own (h.spine j h1 h2).1 (fun g hg hm => by have := hb g hm; have := (h.spine j h1 h2).2 g hg; omega), (h.spine j h1 h2).2⟩⟩
theorem Inv.keep0 {T : Nat → Nat} {w w' : World} {K : Nat} {f : Nat → Value} {L : Nat → List Value} {o x : List (Item × Item)} {M D : List Int} {N : Nat} {bs : List Nat} (h : Inv T w K f L o x M D N) (hk : Keep bs w w') (hb : ∀ b ∈ bs, T b = 0) : Inv T w' K f L o x M D N :=
  { h with core := h.core.keep0 hk hb, outs := h.outs.keep hk (fun c hc => by have := hb c hc; omega), waits := h.waits.keep hk (fun c hc => by have := hb c hc; omega) }

/-- The cells of writes. -/
def cellsW (ws : List Wr) : List Value := ws.flatMap fun x => [.string x.1, .bool x.2.1, .string x.2.2]
theorem cellsW_length (l : List Wr) : (cellsW l).length = l.length * 3 := by
  induction l with
  | nil => rfl
  | cons x l ih => simp [cellsW] at ih ⊢; omega
theorem cellsW_get (l : List Wr) (i : Nat) (x : Wr) (h : l[i]? = some x) :
    (cellsW l)[i * 3]? = some (.string x.1) ∧ (cellsW l)[i * 3 + 1]? = some (.bool x.2.1) ∧ (cellsW l)[i * 3 + 2]? = some (.string x.2.2) := by
  induction l generalizing i with
  | nil => simp at h
  | cons y l ih =>
    cases i with
    | zero => simp at h; subst h; simp [cellsW]
    | succ i =>
      have := ih i (by simpa using h)
      simp only [cellsW, List.flatMap_cons] at this ⊢
      rw [show (i + 1) * 3 = i * 3 + 3 by omega, show i * 3 + 3 + 1 = (i * 3 + 1) + 3 by omega, show i * 3 + 3 + 2 = (i * 3 + 2) + 3 by omega]
      rw [List.getElem?_append_right (by simp), List.getElem?_append_right (by simp), List.getElem?_append_right (by simp)]
      simpa using this
theorem cellsW_inv (l : List Wr) (j : Nat) (u : Value) (h : (cellsW l)[j]? = some u) :
    ∃ i x, l[i]? = some x ∧ ((j = i * 3 ∧ u = .string x.1) ∨ (j = i * 3 + 1 ∧ u = .bool x.2.1) ∨ (j = i * 3 + 2 ∧ u = .string x.2.2)) := by
  have hj : j < (cellsW l).length := (List.getElem?_eq_some_iff.1 h).1
  rw [cellsW_length] at hj
  have hi : j / 3 < l.length := by omega
  obtain ⟨h0, h1, h2⟩ := cellsW_get l (j / 3) _ (List.getElem?_eq_getElem hi)
  refine ⟨j / 3, _, List.getElem?_eq_getElem hi, ?_⟩
  rcases (show j = j / 3 * 3 ∨ j = j / 3 * 3 + 1 ∨ j = j / 3 * 3 + 2 by omega) with e | e | e
  · rw [← e, h] at h0; exact .inl ⟨e, by simpa using h0⟩
  · rw [← e, h] at h1; exact .inr (.inl ⟨e, by simpa using h1⟩)
  · rw [← e, h] at h2; exact .inr (.inr ⟨e, by simpa using h2⟩)
theorem cellsW_one (l : List Wr) : ∀ u ∈ cellsW l, u.oneCell' = true := by
  intro u hu
  obtain ⟨j, hj⟩ := List.getElem?_of_mem hu
  obtain ⟨i, x, _, h⟩ := cellsW_inv l j u hj
  rcases h with ⟨_, rfl⟩ | ⟨_, rfl⟩ | ⟨_, rfl⟩ <;> rfl
theorem cellsW_set (l : List Wr) : ∀ (k : Nat) (x : Wr), k < l.length → (((cellsW l).set (k * 3) (.string x.1)).set (k * 3 + 1) (.bool x.2.1)).set (k * 3 + 2) (.string x.2.2) = cellsW (l.set k x) := by
  induction l with
  | nil => intro k x h; simp at h
  | cons y l ih =>
    intro k x h
    cases k with
    | zero => simp [cellsW]
    | succ k =>
      have := ih k x (by simpa using h)
      have e1 : (k + 1) * 3 = k * 3 + 1 + 1 + 1 := by omega
      rw [e1]
      simp only [cellsW, List.flatMap_cons, List.cons_append, List.nil_append, List.set_cons_succ] at this ⊢
      rw [← this]
theorem news_of {w : World} {a : Option Addr} {ws : List Wr} (h : IsWr w a ws) :
    ∀ ad, a = some ad → ∀ j u, (cellsW ws)[j]? = some u → w.cell? (ad.add j) = some u := by
  intro ad had j u hu
  obtain ⟨i, x, hx, hc⟩ := cellsW_inv ws j u hu
  obtain ⟨b, off, h', hlt, hr⟩ := h.1 (by intro e; rw [e] at hx; simp at hx)
  rw [had] at h'
  cases h'
  obtain ⟨c0, c1, c2⟩ := hr i x hx
  have key : ∀ t, (⟨b, off, none⟩ : Addr).add t = ⟨b, off + t, none⟩ := fun t => by unfold Addr.add; by_cases ht : t = 0 <;> simp [ht]
  rw [key]
  rcases hc with ⟨rfl, rfl⟩ | ⟨rfl, rfl⟩ | ⟨rfl, rfl⟩
  · exact c0
  · rw [← Nat.add_assoc]; exact c1
  · rw [← Nat.add_assoc]; exact c2
/-- The list that is lent, as one sees it. -/
theorem own_wr {w : World} {base : Nat} {au : Option Addr} {cu : Nat} {ws : List Wr} (h : w.ownsRow base 56 3 (.slice au ws.length cu) ws.length (cellsW ws)) (hs : ∀ x ∈ ws, x.1.size ≤ maxLen ∧ x.2.2.size ≤ maxLen) (hl : ws.length ≤ maxLen) : IsWr w au ws := by
  refine ⟨fun hne => ?_, hl, hs⟩
  rcases h.2 with ⟨_, h0⟩ | ⟨g, cap, cur, hv, _⟩
  · exact absurd (List.eq_nil_of_length_eq_zero h0) hne
  · cases hv
    refine ⟨g, 0, rfl, (h.lt g rfl).2, fun i x hx => ?_⟩
    have hi := (List.getElem?_eq_some_iff.1 hx).1
    obtain ⟨c0, c1, c2⟩ := cellsW_get ws i x hx
    rw [Nat.zero_add, h.cellAt _ (by omega), h.cellAt _ (by omega), h.cellAt _ (by omega)]
    exact ⟨c0, c1, c2⟩

/-- append of a slice that may be nil, as one step of a region that draws. -/
theorem step_appV {P : Program} (w : World) {ops : Array Oper} {o : Oper} {a : Act} {K : Act → World → Prop} {Q : Exit → Act → World → Prop} {E : Prop} (hgd : o.guard = none) (s x : Operand) (t : TypeId)
    (ho : o.op = .call { callee := .builtin .append, args := #[s, x], argTypes := #[t, t] })
    (base : Nat) (e : TypeId) (i : TypeInfo) (z : Value) (size bytes : Nat) (ht : P.underlying t = some (.slice e)) (hi : P.info? e = some i) (hz : i.zero = some z)
    (hsize : i.size = size) (hby : i.bytes = bytes) (hzs : z.cells.size = size) (hsz : 0 < size)
    (v : Value) (n : Nat) (xs : List Value) (hs : a.eval s = v) (hown : w.ownsRow base e size v n xs)
    (ao : Option Addr) (m c : Nat) (hn : ao = none → m = 0 ∧ c = 0) (news : List Value) (hx : a.eval x = .slice ao m c) (hl : news.length = m * size) (hnews : ∀ ad, ao = some ad → ∀ j u, news[j]? = some u → w.cell? (ad.add j) = some u) (h1 : ∀ u ∈ news, u.oneCell' = true)
    (h63 : n + m ≤ maxLen) (hbytes : (n + m) * bytes ≤ 140737488355328) (hbase : base ≤ w.heap.size)
    (h : ∀ av cv w', w'.ownsRow base e size (.slice av (n + m) cv) (n + m) (xs ++ news) → w.grownBy w' v.ownBlock → ((Value.slice av (n + m) cv).ownBlock = v.ownBlock ∨ (Value.slice av (n + m) cv).ownBlock = some w.heap.size) → K (a.put o.dst (.slice av (n + m) cv)) w') :
    if Region.wanted o (yielded ops a.tmps) = true then Oper.wp P o a w K Q else E := by
  have hw : Region.wanted o (yielded ops a.tmps) = true := by simp [Region.wanted, hgd]
  rw [if_pos hw]
  have shape : ∀ {w' : World} {v' : Value} {N : Nat} {ys : List Value}, w'.ownsRow base e size v' N ys → ∃ av cv, v' = .slice av N cv := by
    intro w' v' N ys h'
    rcases h'.2 with ⟨hv, h0⟩ | ⟨g, cap, cur, hv, _⟩
    · exact ⟨none, 0, by rw [hv, h0]⟩
    · exact ⟨_, cap, hv⟩
  cases ao with
  | none =>
    obtain ⟨rfl, rfl⟩ := hn rfl
    have hnil : news = [] := by simpa using hl
    subst hnil
    obtain ⟨av, cv, rfl⟩ := shape hown
    have hrun := run_append_owned_none (P := P) (w := w) base t o.type e i size ht hi (.slice av n cv) n xs hown
    unfold Oper.wp
    simp [execOp, ho, resolve, invoke, builtin, hs, hx, hrun, Result.andThen]
    exact h av cv w (by simpa using hown) (World.grownBy.refl _ _) (.inl rfl)
  | some ad =>
    obtain ⟨v', w', hr, h2, h3, h4, h5⟩ := run_append_own_at (P := P) w base t o.type e i z size bytes ht hi hz hsize hby hzs hsz v n xs hown ad m c news hl (hnews ad rfl) h1 h63 hbytes hbase
    obtain ⟨av, cv, rfl⟩ := shape h2
    unfold Oper.wp execOp
    simp only [ho, resolve, invoke, builtin, Sem.run_bind, Sem.run_pure, Result.andThen_ok, List.map_toArray, List.map_cons, List.map_nil, hs, hx, hr]
    exact h av cv w' h2 h3 h5

/-- What stands at a place of KeyPlays. w: the world in which it began. -/
structure KP (w : World) (K N : Nat) (wr : World) (T : Nat → Nat) (au : Option Addr) (cu : Nat) (us : List Wr) : Prop where
  inv : ∃ f L o x M D, Inv T wr K f L o x M D N
  base : Below w.heap.size w wr
  low : ∀ b, b < w.heap.size → T b = 0
  high : ∀ b, wr.heap.size ≤ b → T b = 0
  own : wr.ownsRow w.heap.size 56 3 (.slice au us.length cu) us.length (cellsW us)
  tag : ∀ b, (Value.slice au us.length cu).ownBlock = some b → T b = 0

theorem KP.below {w : World} {K N : Nat} {wr w' : World} {T : Nat → Nat} {au : Option Addr} {cu : Nat} {us : List Wr} (h : KP w K N wr T au cu us) (hb : Below wr.heap.size wr w') : KP w K N w' T au cu us := by
  obtain ⟨f, L, o, x, M, D, hI⟩ := h.inv
  exact ⟨⟨f, L, o, x, M, D, hI.below hb⟩, h.base.trans (hb.mono h.base.size), h.low, fun b hb' => h.high b (Nat.le_trans hb.size hb'), own_below h.own hb, h.tag⟩
theorem KP.held {w : World} {K N : Nat} {wr : World} {T : Nat → Nat} {au : Option Addr} {cu : Nat} {us : List Wr} (h : KP w K N wr T au cu us) : ∃ f o x, Held wr K f o x := by
  obtain ⟨f, L, o, x, M, D, hI⟩ := h.inv
  exact ⟨f, o, x, hI.held⟩
/-- Behind a call that changed the book. -/
theorem KP.past {w : World} {K N : Nat} {wr w' : World} {T T' : Nat → Nat} {au : Option Addr} {cu : Nat} {us : List Wr} (h : KP w K N wr T au cu us) (hI : ∃ f L o x M D, Inv T' w' K f L o x M D (N + 1)) (hp : Past 9000000 T wr T' w') : KP w K (N + 1) w' (norm T' w') au cu us := by
  obtain ⟨f, L, o, x, M, D, hI⟩ := hI
  refine ⟨⟨f, L, o, x, M, D, hI.norm⟩, h.base.trans ⟨hp.os, hp.tape, hp.output, hp.size, fun b hb => (hp.block b (Nat.lt_of_lt_of_le hb h.base.size) (.inl (h.low b hb))).1⟩, fun b hb => ?_, fun b hb => norm_out _ _ hb, ?_, fun b hb => ?_⟩
  · have hb' := Nat.lt_of_lt_of_le hb h.base.size
    rw [norm_in _ _ (Nat.lt_of_lt_of_le hb' hp.size), (hp.block b hb' (.inl (h.low b hb))).2, h.low b hb]
  · exact Spine.block h.own fun g hg => (hp.block g (h.own.lt g hg).2 (.inl (h.tag g hg))).1
  · have hl := (h.own.lt b hb).2
    rw [norm_in _ _ (Nat.lt_of_lt_of_le hl hp.size), (hp.block b hl (.inl (h.tag b hb))).2, h.tag b hb]
/-- used = append(used[:0], l...). -/
theorem KP.lent {w : World} {K N : Nat} {wr w0 w' : World} {T : Nat → Nat} {au av : Option Addr} {cu cv : Nat} {us ws : List Wr} (h : KP w K N wr T au cu us) (h0 : Keep [] wr w0) (hgr : w0.grownBy w' (Value.slice au us.length cu).ownBlock)
    (hown : w'.ownsRow w.heap.size 56 3 (.slice av ws.length cv) ws.length (cellsW ws)) (hat : (Value.slice av ws.length cv).ownBlock = (Value.slice au us.length cu).ownBlock ∨ (Value.slice av ws.length cv).ownBlock = some w0.heap.size) : KP w K N w' T av cv ws := by
  obtain ⟨f, L, o, x, M, D, hI⟩ := h.inv
  have k : Keep ((Value.slice au us.length cu).ownBlock.toList) wr w' := (h0.mono (by simp)).trans (Keep.grown hgr)
  have kt : ∀ b ∈ (Value.slice au us.length cu).ownBlock.toList, T b = 0 ∧ w.heap.size ≤ b := fun b hb => by
    have hb' : (Value.slice au us.length cu).ownBlock = some b := by simpa using hb
    exact ⟨h.tag b hb', (h.own.lt b hb').1⟩
  refine ⟨⟨f, L, o, x, M, D, hI.keep0 k (fun b hb => (kt b hb).1)⟩, ?_, h.low, fun b hb => h.high b (Nat.le_trans k.size hb), hown, fun b hb => ?_⟩
  · exact h.base.trans ⟨k.os, k.tape, k.output, k.size, fun b hb => k.block b (Nat.lt_of_lt_of_le hb h.base.size) (fun hm => by have := (kt b hm).2; omega)⟩
  · rcases hat with e | e
    · rw [e] at hb; exact h.tag b hb
    · rw [e] at hb
      have : w0.heap.size = b := by simpa using hb
      exact h.high b (by have := h0.size; omega)
/-- used[n] = Write{Key: "!", Val: "!"}. -/
theorem KP.store {w : World} {K N : Nat} {wr : World} {T : Nat → Nat} {g cu n : Nat} {us : List Wr} {kk vv : ByteArray} {dd : Bool} (h : KP w K N wr T (some ⟨g, 0, none⟩) cu us) (hn : n < us.length) :
    KP w K N (((wr.setCell ⟨g, n * 3, none⟩ (.string kk)).setCell ⟨g, n * 3 + 1, none⟩ (.bool dd)).setCell ⟨g, n * 3 + 2, none⟩ (.string vv)) T (some ⟨g, 0, none⟩) cu (us.set n (kk, dd, vv)) := by
  obtain ⟨f, L, o, x, M, D, hI⟩ := h.inv
  have k : Keep [g] wr (((wr.setCell ⟨g, n * 3, none⟩ (.string kk)).setCell ⟨g, n * 3 + 1, none⟩ (.bool dd)).setCell ⟨g, n * 3 + 2, none⟩ (.string vv)) := ((Keep.set _ _ _ _).trans (Keep.set _ _ _ _)).trans (Keep.set _ _ _ _)
  have tg := h.tag g rfl
  have lg := (h.own.lt g rfl).1
  have h1 := (((World.ownsRow.stored h.own (n * 3) (.string kk)).1.stored (n * 3 + 1) (.bool dd)).1.stored (n * 3 + 2) (.string vv)).1
  have e := cellsW_set us n (kk, dd, vv) hn
  simp only at e
  rw [e] at h1
  refine ⟨⟨f, L, o, x, M, D, hI.keep0 k (fun b hb => by simp at hb; rw [hb]; exact tg)⟩, ?_, h.low, fun b hb => h.high b (Nat.le_trans k.size hb), by rw [List.length_set]; exact h1, fun b hb => ?_⟩
  · exact h.base.trans ⟨k.os, k.tape, k.output, k.size, fun b hb => k.block b (Nat.lt_of_lt_of_le hb h.base.size) (fun hm => by simp at hm; omega)⟩
  · have : g = b := by simpa [Value.ownBlock] using hb
    rw [← this]; exact tg

end Book
end Go.Proofs.YtkknpcpioodhaaaGreatDoor
