import Derived.Test.YtbloifnibgdeoaaProg
import Derived.Test.YtbloifnibgdeoaaDSpe
import Derived.WalkKit
import Derived.WalkSpells
import Derived.WalkLawsBesides
import Derived.Maps.AppendAt
import Derived.Laws.AppendOwnNone
namespace Go.Proofs.Ytbloifnibgdeoaa
namespace Dsk
open Go.RowKit Go.Maps Go.Sort Byt Laws
set_option linter.unusedVariables false
set_option maxRecDepth 100000

/-- append of bytes onto bytes of the call's own, with where they lie then. -/
theorem wpList_appAt {P : Program} {w : World} {ops : Array Oper} {rest : List Oper} {o : Oper} {a : Act} {Q : Exit → Act → World → Prop} (hgd : o.guard = none) (s x : Operand) (t : TypeId)
    (ho : o.op = .call { callee := .builtin .append, args := #[s, x], argTypes := #[t, t] })
    (base : Nat) (e : TypeId) (i : TypeInfo) (ht : P.underlying t = some (.slice e)) (hi : P.info? e = some i) (hz : i.zero = some (.int .u8 0)) (hsize : i.size = 1) (hby : i.bytes = 1)
    (v : Value) (l : List Nat) (n : Nat) (hs : a.eval s = v) (hown : w.ownsRow base e 1 v n (cellsB l))
    (ao : Option Addr) (m c : Nat) (r : List Nat) (hx : a.eval x = .slice ao m c) (hm : m = r.length) (hn : ao = none → c = 0) (hr : IsB w ao r)
    (h47 : n + m ≤ 140737488355328) (hbase : base ≤ w.heap.size)
    (h : ∀ v' w', w'.ownsRow base e 1 v' (n + m) (cellsB (l ++ r)) → w.grownBy w' v.ownBlock → (v'.ownBlock = v.ownBlock ∨ v'.ownBlock = some w.heap.size) → wpList P ops Q rest (a.put o.dst v') w') : wpList P ops Q (o :: rest) a w := by
  subst hm
  cases ao with
  | none =>
    have hr0 := hr.none
    subst hr0
    obtain rfl := hn rfl
    refine wpList_append_own_none hgd s x t ho base e i 1 ht hi v n _ hs hown hx (h v w (by simpa using hown) (World.grownBy.refl _ _) (.inl rfl))
  | some ad =>
    refine wpList_append_own_at w hgd s x t ho base e i (.int .u8 0) 1 1 ht hi hz hsize hby rfl (by omega) v n _ hs hown ad r.length c (cellsB r) hx (by rw [cellsB_length]; omega) (news_of hr ad rfl) (cellsB_one r) (by unfold maxLen; omega) (by omega) hbase fun v' w' h2 h3 h4 h5 => h v' w' (by rw [cellsB_append]; exact h2) h3 h5

/-- append of bytes onto those of a file. -/
theorem wpList_appHb {P : Program} {w : World} {ops : Array Oper} {rest : List Oper} {o : Oper} {a : Act} {Q : Exit → Act → World → Prop} (hgd : o.guard = none) (s x : Operand) (t : TypeId)
    (ho : o.op = .call { callee := .builtin .append, args := #[s, x], argTypes := #[t, t] })
    (i : TypeInfo) (ht : P.underlying t = some (.slice 5)) (hi : P.info? 5 = some i) (hz : i.zero = some (.int .u8 0)) (hsize : i.size = 1) (hby : i.bytes = 1)
    (a' : Option Addr) (c : Nat) (l : List Nat) (hs : a.eval s = .slice a' l.length c) (hown : Hb w a' c l)
    (ao : Option Addr) (m cc : Nat) (r : List Nat) (hx : a.eval x = .slice ao m cc) (hm : m = r.length) (hn : ao = none → cc = 0) (hr : IsB w ao r) (h47 : l.length + m ≤ 140737488355328)
    (h : ∀ a1 c1 w1, Hb w1 a1 c1 (l ++ r) → w.grownBy w1 (Value.slice a' l.length c).ownBlock → ((Value.slice a1 (l ++ r).length c1).ownBlock = (Value.slice a' l.length c).ownBlock ∨ ∀ x, (Value.slice a1 (l ++ r).length c1).ownBlock = some x → w.heap.size ≤ x) → wpList P ops Q rest (a.put o.dst (.slice a1 (l ++ r).length c1)) w1) : wpList P ops Q (o :: rest) a w := by
  have hby2 : ∀ y ∈ l ++ r, y < 256 := fun y hy => by
    rcases List.mem_append.1 hy with hy | hy
    · exact hown.byte y hy
    · exact hr.2 y hy
  rcases hown.own with ⟨⟨g, rfl⟩, hc⟩ | ho1
  · subst hm
    by_cases hr0 : r = []
    · subst hr0
      have hrun : (Builtin.append_ #[t, t] o.type #[.slice (some ⟨g, 0, none⟩) l.length c, .slice ao 0 cc]).run P w = .ok (.slice (some ⟨g, 0, none⟩) l.length c) w := by
        cases ao with
        | none => simp [Builtin.append_, run_underlying ht, sizeOf, typeInfo, hi, Builtin.lenOf, hc, run_firstCells_none, storeCells, Result.andThen]
        | some ad =>
          have := run_append_room_cells (P := P) w t o.type 5 i ht hi g 0 l.length c ad 0 cc [] (by simp) (by simp) (by simp) (by omega) (by simp) (by simp)
          simpa [World.setCells] using this
      refine wpList_plain hgd fun K hK => ?_
      unfold Oper.wp
      simp only [List.length_nil] at hx
      simp [execOp, ho, resolve, invoke, builtin, hs, hx, hrun, Result.andThen]
      have := h (some ⟨g, 0, none⟩) c w (by rw [List.append_nil]; exact hown) (World.grownBy.refl _ _) (by rw [List.append_nil]; exact .inl rfl)
      rw [List.append_nil] at this
      exact hK _ _ this
    · obtain ⟨b, off, rfl, hrow⟩ := hr.1 hr0
      have hpos : 0 < r.length := List.length_pos_iff.2 hr0
      refine wpList_append_grows w hgd s x t ho 5 i (.int .u8 0) 1 1 ht hi hz hsize hby rfl (by omega) (some ⟨g, 0, none⟩) l.length c (cellsB l) hs (fun e => by cases e) (by rw [cellsB_length]; omega) (fun ad e j u hu => ?_) ⟨b, off, none⟩ r.length cc (cellsB r) hx (by rw [cellsB_length]; omega) (news_of hr _ rfl) (cellsB_one r) (by omega) (by unfold maxLen; omega) (by omega) fun v' w' h2 h3 => ?_
      · cases e
        exact news_of hown.isB _ rfl j u hu
      · rw [← cellsB_append, ← List.length_append] at h2
        obtain ⟨a1, c1, rfl, hnew⟩ := New.of h2 hby2
        exact h a1 c1 w' (Hb.of (New.lower hnew (Nat.zero_le _))) ⟨h3.os, h3.tape, h3.output, h3.size, fun k hk _ => h3.block k hk (by simp)⟩ (.inr fun x hx => (hnew.row.lt x hx).1)
  · subst hm
    refine wpList_appAt hgd s x t ho 0 5 i ht hi hz hsize hby _ l l.length hs ho1 ao r.length cc r hx rfl hn hr h47 (Nat.zero_le _) fun v' w' h1 h2 h3 => ?_
    rw [← List.length_append] at h1
    obtain ⟨a1, c1, rfl, hnew⟩ := New.of h1 hby2
    exact h a1 c1 w' (Hb.of hnew) h2 (h3.imp id fun e x hx => by rw [hx] at e; cases e; exact Nat.le_refl _)
theorem lenOf_some {fl : List Fl} {i : Nat} {f : Fl} (h : fl[i]? = some f) : lenOf fl i = f.data.length := by simp [lenOf, h]
theorem lenOf_set_other {fl : List Fl} {i j : Nat} (f : Fl) (h : j ≠ i) : lenOf (fl.set i f) j = lenOf fl j := by
  unfold lenOf
  rw [List.getElem?_set_ne (Ne.symm h)]
theorem lenOf_set_same {fl : List Fl} {i : Nat} (f : Fl) (h : i < fl.length) : lenOf (fl.set i f) i = f.data.length := by
  unfold lenOf
  rw [List.getElem?_set_self h]; rfl
theorem usedOf_set_no {fl : List Fl} {i : Nat} (f' : Fl) : ∀ {l : List (Key × Nat)}, i ∉ l.map (·.2) → usedOf (fl.set i f') l = usedOf fl l
  | [], _ => rfl
  | p :: r, h => by
    simp only [List.map_cons, List.mem_cons, not_or] at h
    have ih := usedOf_set_no (fl := fl) (i := i) f' (l := r) h.2
    unfold usedOf at ih ⊢
    rw [List.map_cons, List.map_cons, List.sum_cons, List.sum_cons, ih, lenOf_set_other _ (Ne.symm h.1)]
theorem usedOf_set {fl : List Fl} {i : Nat} {f : Fl} (f' : Fl) (hf : fl[i]? = some f) : ∀ {l : List (Key × Nat)}, (l.map (·.2)).Nodup → i ∈ l.map (·.2) → usedOf (fl.set i f') l + f.data.length = usedOf fl l + f'.data.length
  | [], _, h => by simp at h
  | p :: r, hn, h => by
    have hlt : i < fl.length := (List.getElem?_eq_some_iff.1 hf).1
    simp only [List.map_cons, List.nodup_cons] at hn
    by_cases e : p.2 = i
    · have ih := usedOf_set_no (fl := fl) (i := i) f' (l := r) (by rw [← e]; exact hn.1)
      unfold usedOf at ih ⊢
      rw [List.map_cons, List.map_cons, List.sum_cons, List.sum_cons, ih, e, lenOf_set_same _ hlt, lenOf_some hf]
      omega
    · have hm : i ∈ r.map (·.2) := by
        simp only [List.map_cons, List.mem_cons] at h
        rcases h with h | h
        · exact absurd h.symm e
        · exact h
      have ih := usedOf_set f' hf hn.2 hm
      unfold usedOf at ih ⊢
      rw [List.map_cons, List.map_cons, List.sum_cons, List.sum_cons, lenOf_set_other _ e]
      omega

/-- What a file has, with bytes behind. -/
def Dm.lay (m : Dm) (i : Nat) (l : List Nat) : Dm := { m with fl := m.fl.modify i fun f => { f with data := f.data ++ l } }

theorem fcell_set (a a' : Option Addr) (c c' : Nat) (f : Fl) (l : List Nat) : ∀ j, j < 2 → upd (fcell a c f) 0 (.slice a' (f.data ++ l).length c') j = fcell a' c' { f with data := f.data ++ l } j
  | 0, _ => by rw [upd_same]; rfl
  | 1, _ => by rw [upd_other _ _ (by omega)]; rfl
  | n + 2, h => by omega

/-- The state behind lay. -/
theorem Pdi.lay {T : Nat → Nat} {w w1 : World} {d mb : Nat} {fb : Nat → Nat} {m : Dm} {cv : Value} {D : DataW (Option Addr)} (h : Pdi T w d mb fb m cv D) {i : Nat} {f : Fl} (hf : m.fl[i]? = some f) (hi : i ∈ m.now.map (·.2)) {a a' : Option Addr} {c c' : Nat}
    (hfa : FileAt T w (fb i) i f a c) {l : List Nat} (hl : ∀ x ∈ l, x < 256) (hbig : f.data.length + l.length ≤ 2147483648) (hu : m.used + l.length ≤ 9223372036854775807)
    (hg : w.grownBy w1 (Value.slice a f.data.length c).ownBlock) (hown : Hb w1 a' c' (f.data ++ l))
    (hat : (Value.slice a' (f.data ++ l).length c').ownBlock = (Value.slice a f.data.length c).ownBlock ∨ ∀ x, (Value.slice a' (f.data ++ l).length c').ownBlock = some x → w.heap.size ≤ x) :
    ∃ T', Pdi T' ((w1.setCell ⟨fb i, 0, none⟩ (.slice a' (f.data ++ l).length c')).setCell ⟨d, 5, none⟩ (.int .i64 ((m.used : Int) + (l.length : Int)))) d mb fb (m.lay i l) cv D ∧ Goes T T' w ((w1.setCell ⟨fb i, 0, none⟩ (.slice a' (f.data ++ l).length c')).setCell ⟨d, 5, none⟩ (.int .i64 ((m.used : Int) + (l.length : Int)))) := by
  generalize hvv : Value.slice a' (f.data ++ l).length c' = v' at *
  obtain ⟨old, hold⟩ : ∃ old, old = (Value.slice a f.data.length c).ownBlock := ⟨_, rfl⟩
  rw [← hold] at hg hat
  have holdT : ∀ x ∈ old.toList, T x = 11 + 2 * i := by
    intro x hx
    rw [hold] at hx
    cases a with
    | none => simp [Value.ownBlock] at hx
    | some ad => simp [Value.ownBlock] at hx; subst hx; exact hfa.mine ad rfl
  have hdlt : d < w.heap.size := h.top.1.1
  have hflt : fb i < w.heap.size := hfa.fld.1
  have htf := hfa.tag
  have htd := h.td
  have k1 : Keep old.toList w w1 := Keep.grown hg
  have hs1 := k1.size
  have k2 := Keep.set w1 (fb i) 0 v'
  have k3 := Keep.set (w1.setCell ⟨fb i, 0, none⟩ v') d 5 (.int .i64 ((m.used : Int) + (l.length : Int)))
  have k23 : Keep (old.toList ++ [fb i, d]) w ((w1.setCell ⟨fb i, 0, none⟩ v').setCell ⟨d, 5, none⟩ (.int .i64 ((m.used : Int) + (l.length : Int)))) :=
    ((k1.mono (by intro x hx; simp [hx])).trans (k2.mono (by intro x hx; simp at hx; simp [hx]))).trans (k3.mono (by intro x hx; simp at hx; simp [hx]))
  have hsz : ((w1.setCell ⟨fb i, 0, none⟩ v').setCell ⟨d, 5, none⟩ (.int .i64 ((m.used : Int) + (l.length : Int)))).heap.size = w1.heap.size := by simp
  obtain ⟨T', hT⟩ : ∃ T' : Nat → Nat, T' = fun x => if v'.ownBlock = some x then 11 + 2 * i else T x := ⟨_, rfl⟩
  have tg : ∀ x, v'.ownBlock = some x → T' x = 11 + 2 * i := fun x hx => by rw [hT]; simp [hx]
  have tn : ∀ x, v'.ownBlock ≠ some x → T' x = T x := fun x hx => by rw [hT]; simp [hx]
  have ht : ∀ x, x < w.heap.size → T' x = T x := by
    intro x hx
    by_cases e : v'.ownBlock = some x
    · rw [tg x e]
      rcases hat with hat | hat
      · exact (holdT x (by rw [← hat, e]; simp)).symm
      · have := hat x e; omega
    · exact tn x e
  have hin : ∀ x ∈ old.toList ++ [fb i, d], T' x = 11 + 2 * i ∨ T' x = 10 + 2 * i ∨ T' x = 1 := by
    intro x hx
    rcases List.mem_append.1 hx with hx | hx
    · left
      have := holdT x hx
      rw [ht x, this]
      have hm : (Value.slice a f.data.length c).ownBlock = some x := by rw [← hold]; simpa using hx
      exact hfa.own.lt x hm
    · simp at hx
      rcases hx with rfl | rfl
      · right; left; rw [ht _ hflt]; exact htf
      · right; right; rw [ht _ hdlt]; exact htd
  have hm' : (m.lay i l).used = m.used + l.length := by
    have e : (m.lay i l).fl = m.fl.set i { f with data := f.data ++ l } := by
      simp only [Dm.lay]
      refine List.ext_getElem? fun j => ?_
      rw [List.getElem?_modify, List.getElem?_set]
      by_cases e : i = j
      · subst e
        obtain ⟨hlt, hge⟩ := List.getElem?_eq_some_iff.1 hf
        simp [hlt, hge]
      · simp [e]
    have := usedOf_set { f with data := f.data ++ l } hf h.apart hi
    unfold Dm.used
    rw [e]
    simp only [List.length_append] at this
    show usedOf _ m.now = _
    unfold Dm.used at *
    omega
  have hgv : ∀ g, v'.ownBlock = some g → g ≠ fb i ∧ g ≠ d ∧ g < w1.heap.size := by
    intro g hgv
    have h1 := hown.lt g (by rw [hvv]; exact hgv)
    refine ⟨?_, ?_, h1⟩
    · rintro rfl
      have := tg _ hgv
      rw [ht _ hflt, htf] at this; omega
    · rintro rfl
      have := tg _ hgv
      rw [ht _ hdlt, htd] at this; omega
  refine ⟨T', ⟨?_, ?_, ?_, ?_, ?_, ?_, ?_, h.dir, ?_, ?_, h.apart, ?_, h.room, h.most, h.csz⟩, ?_⟩
  · -- top
    have t1 := (h.top.keep k1 (fun hx => by have := holdT d hx; omega)).keep k2 (by simp; intro e; rw [e, htf] at htd; omega)
    refine ⟨(t1.1.set 5 (by omega) _).eq (nine rfl rfl rfl rfl rfl ?_ rfl rfl rfl), t1.2⟩
    rw [upd_same]
    show _ = Value.int .i64 (((m.lay i l).used : Nat) : Int)
    rw [hm']; simp
  · rw [ht d hdlt]; exact htd
  · rw [ht mb h.map.lt]; exact h.tm
  · intro b hb
    rw [hsz] at hb
    rw [tn b (fun e => by have := (hgv b e).2.2; omega)]
    exact h.fresh b (by omega)
  · refine k23.own h.chg (fun g hg' hm => ?_)
    have := h.tc g hg'
    have := hin g hm
    have := ht g (h.chg.lt g hg').2
    omega
  · intro b hb
    rw [ht b (h.chg.lt b hb).2]; exact h.tc b hb
  · obtain ⟨es, clock, h1, h2⟩ := h.map
    refine ⟨es, clock, (k23.block mb h.map.lt (fun hm => ?_)).trans h1, h2⟩
    have := hin mb hm
    have := ht mb h.map.lt
    have := h.tm
    omega
  · intro j g hj
    by_cases e : j = i
    · subst e
      have : g = { f with data := f.data ++ l } := by
        simp only [Dm.lay, List.getElem?_modify] at hj
        rw [hf] at hj; simp at hj; exact hj.symm
      subst this
      refine ⟨a', c', ⟨by rw [ht _ hflt]; exact htf, ?_, ?_, ?_, ?_, ?_⟩⟩
      · have f1 := hfa.fld.keep k1 (fun hx => by have := holdT _ hx; omega)
        rw [← hvv] at *
        have f2 := (f1.set 0 (by omega) (.slice a' (f.data ++ l).length c')).eq (fcell_set a a' c c' f l)
        exact f2.keep k3 (by simp; intro e; rw [e, htd] at htf; omega)
      · exact (hown.keep k2 (fun g hg' hm => by rw [hvv] at hg'; simp at hm; exact (hgv g hg').1 hm)).keep k3 (fun g hg' hm => by rw [hvv] at hg'; simp at hm; exact (hgv g hg').2.1 hm)
      · intro ad e; exact tg ad.block (by rw [← hvv, e]; rfl)
      · have := hfa.sure; simp only [List.length_append]; omega
      · simp only [List.length_append]; omega
    · have hj' : m.fl[j]? = some g := by
        simp only [Dm.lay, List.getElem?_modify] at hj
        have e' : ¬ i = j := Ne.symm e
        simp only [if_neg e'] at hj
        simpa using hj
      obtain ⟨a2, c2, hfj⟩ := h.file j g hj'
      exact ⟨a2, c2, (hfj.tags ht).keep k23 (fun x hx => by have := hin x hx; omega) (fun x hx => by have := hin x hx; omega)⟩
  · intro p hp
    show p.2 < (m.fl.modify i _).length
    rw [List.length_modify]; exact h.ids p hp
  · intro c hc
    show (∀ j, _ → j < (m.fl.modify i _).length) ∧ (∀ j, _ → j < (m.fl.modify i _).length)
    rw [List.length_modify]; exact h.cids c hc
  · refine ⟨k23.os, k23.tape, k23.output, k23.size, fun b hb hz => ⟨k23.block b hb (fun hm => ?_), by rw [ht b hb]; exact hz⟩⟩
    have := hin b hm
    rw [ht b hb, hz] at this
    omega
theorem Pdi.layFacts {T : Nat → Nat} {w w1 : World} {d mb : Nat} {fb : Nat → Nat} {m : Dm} {cv : Value} {D : DataW (Option Addr)} (h : Pdi T w d mb fb m cv D) {i : Nat} {f : Fl} {a : Option Addr} {c : Nat} (hfa : FileAt T w (fb i) i f a c) (hg : w.grownBy w1 (Value.slice a f.data.length c).ownBlock) :
    w1.cell? ⟨fb i, 0, none⟩ = some (.slice a f.data.length c) ∧ w1.frozen? ⟨fb i, 0, none⟩ = false ∧ (∀ v, (w1.setCell ⟨fb i, 0, none⟩ v).cell? ⟨d, 5, none⟩ = some (.int .i64 m.used)) ∧ (∀ v, (w1.setCell ⟨fb i, 0, none⟩ v).frozen? ⟨d, 5, none⟩ = false) := by
  have k1 := Keep.grown hg
  have holdT : ∀ x ∈ (Value.slice a f.data.length c).ownBlock.toList, T x = 11 + 2 * i := by
    intro x hx
    cases a with
    | none => simp [Value.ownBlock] at hx
    | some ad => simp [Value.ownBlock] at hx; subst hx; exact hfa.mine ad rfl
  have htf := hfa.tag
  have htd := h.td
  have f1 := hfa.fld.keep k1 (fun hx => by have := holdT _ hx; omega)
  have t1 := h.top.keep k1 (fun hx => by have := holdT d hx; omega)
  refine ⟨(f1.2 0 (by omega)).1, (f1.2 0 (by omega)).2, fun v => ?_, fun v => ?_⟩
  · have t2 := t1.keep (Keep.set w1 (fb i) 0 v) (by simp; intro e; rw [e, htf] at htd; omega)
    exact (t2.1.2 5 (by omega)).1
  · have t2 := t1.keep (Keep.set w1 (fb i) 0 v) (by simp; intro e; rw [e, htf] at htd; omega)
    exact (t2.1.2 5 (by omega)).2

theorem infoB : (Try.prog.info? 5).map (fun i => (i.zero, i.size, i.bytes)) = some (some (.int .u8 0), 1, 1) := by kernel_rfl
set_option maxHeartbeats 1000000 in
/-- lay: bytes behind those of a file. -/
theorem lay_any {T : Nat → Nat} {w : World} {d mb : Nat} {fb : Nat → Nat} {m : Dm} (h : Pd T w d mb fb m) {i : Nat} {f : Fl} (hf : m.fl[i]? = some f) (hi : i ∈ m.now.map (·.2)) (ab : Option Addr) (n cb : Nat) (l : List Nat) (hb : IsB w ab l) (nb : ab = none → cb = 0) (hn : n = l.length)
    (hbig : f.data.length + l.length ≤ 2147483648) (hu : m.used + l.length ≤ 9223372036854775807) :
    Calls Try.prog 70 #[.pointer (some ⟨d, 0, none⟩), .pointer (some ⟨fb i, 0, none⟩), .slice ab n cb] w fun e w' => e = .returned (.tuple #[]) ∧ ∃ T', Pd T' w' d mb fb (m.lay i l) ∧ Goes T T' w w' := by
  obtain ⟨cv, D, h⟩ := h
  obtain ⟨a, c, hfa⟩ := h.file i f hf
  obtain ⟨i8, hi8, hz0, hz1, hz2⟩ := info_parts infoB
  have HH : Hid (Pdi T w d mb fb m cv D) := h
  have HF : Hid (FileAt T w (fb i) i f a c) := hfa
  have HB : Hid (IsB w ab l) := hb
  have NB : Hid (ab = none → cb = 0) := nb
  have HM : Hid (m.fl[i]? = some f) := hf
  have HI : Hid (i ∈ m.now.map (·.2)) := hi
  have cf0 := (hfa.fld.2 0 (by omega)).1
  simp only [fcell, if_true] at cf0
  have HN : Hid (n = l.length) := hn
  have hn9 : m.used + n ≤ 9223372036854775807 := by omega
  clear h hfa hb nb hf hi hn
  go_enter Try.func70, Try.ntmps70
  go_wp2_with (at_builtin; refine wpList_appHb (by rfl) (.tmp 10) (.tmp 11) 30 (by rfl) i8 Try.underlying30 hi8 hz0 hz1 hz2 a c f.data (by rfl) HF.out.own ab n cb l (by rfl) HN.out NB.out HB.out (by have := HN.out; omega) ?_; intro a1 c1 w1 hown1 hgr1 hat1; obtain ⟨z1, z2, z3, z4⟩ := HH.out.layFacts HF.out hgr1; have HG : Hid (w.grownBy w1 (Value.slice a f.data.length c).ownBlock) := hgr1; have HA : Hid ((Value.slice a1 (f.data ++ l).length c1).ownBlock = (Value.slice a f.data.length c).ownBlock ∨ ∀ x, (Value.slice a1 (f.data ++ l).length c1).ownBlock = some x → w.heap.size ≤ x) := hat1; have HW : Hid (Hb w1 a1 c1 (f.data ++ l)) := hown1; clear hown1 hgr1 hat1 cf0)
  refine bodyPost_end (results_none Try.results70 _ _ _) rfl ?_
  have e1 := HN.out
  subst e1
  rw [← List.length_append]
  obtain ⟨T', p1, p2⟩ := HH.out.lay HM.out HI.out HF.out HB.out.2 hbig hu HG.out HW.out HA.out
  exact ⟨rfl, T', ⟨cv, D, p1⟩, p2⟩
end Dsk
end Go.Proofs.Ytbloifnibgdeoaa
