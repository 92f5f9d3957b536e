import Derived.Test.YtbloifnibgdeoaaProg
import Derived.Test.YtbloifnibgdeoaaDNot
import Derived.Maps.OwnOps
import Derived.WalkKit
import Derived.WalkSpells
import Derived.WalkLawsBesides
namespace Go.Proofs.Ytbloifnibgdeoaa
namespace Dsk
open Go.RowKit Go.Maps Go.Sort Byt Laws
set_option linter.unusedVariables false
set_option maxRecDepth 100000

abbrev ky (s : ByteArray) : Key := s.data.toList
theorem keyed : Keyed Try.prog 9 := string_keyed Try.underlying9
theorem keyOf_s (s : ByteArray) (hs : s.size ≤ maxLen) : keyOf Try.prog 9 (.string s) = some (.string (ky s)) := by
  simp [keyOf, Try.underlying9, mapKey]
  exact hs
theorem zeroF (w : World) : (zeroValue 87).run Try.prog w = .ok (.pointer none) w := by kernel_rfl

section
variable {T : Nat → Nat} {w : World} {d mb : Nat} {fb : Nat → Nat} {m : Dm} {cv : Value} {D : DataW (Option Addr)}

theorem look_run (ho : w.ownsMap Try.prog 9 ptrR mb m.now.length D) (hd : DirIs D fb m.now) (s : ByteArray) (hs : s.size ≤ maxLen) :
    (Instr.lookup 82 (.map (some mb)) (.string s) false).run Try.prog w = .ok (pv fb (look m.now (ky s))) w := by
  obtain ⟨v, ps, hrun, hv⟩ := ho.lookup keyed Try.underlying82 (zeroF w) (show ptrR (.pointer none) = some (.held none, []) from rfl) (keyOf_s s hs)
  rw [hd.at_] at hv
  rw [hrun, ptrR_inv hv]
  cases look m.now (ky s) <;> rfl
/-- m[name]. -/
theorem wpList_look {ops : Array Oper} {rest : List Oper} {o : Oper} {a : Act} {Q : Exit → Act → World → Prop} (h : Pdi T w d mb fb m cv D) (s : ByteArray) (hs : s.size ≤ maxLen) (hg : o.guard = none) (x y : Operand) (hop : o.op = Op.lookup 82 x y false)
    (hm : a.eval x = .map (some mb)) (hx : a.eval y = .string s) (hK : wpList Try.prog ops Q rest (a.put o.dst (pv fb (look m.now (ky s)))) w) : wpList Try.prog ops Q (o :: rest) a w := by
  refine wpList_plain hg fun K' hK' => ?_
  have hrun := look_run h.map h.dir s hs
  unfold Oper.wp
  simp [execOp, hop, hm, hx, hrun, Result.andThen]
  exact hK' _ _ hK
theorem size_now (h : Pdi T w d mb fb m cv D) : Maps.size D = m.now.length := size_dir h.dir h.map keyed Try.underlying9
/-- len(m). -/
theorem wpList_lenD {ops : Array Oper} {rest : List Oper} {o : Oper} {a : Act} {Q : Exit → Act → World → Prop} (h : Pdi T w d mb fb m cv D) (hg : o.guard = none) (x : Operand) (hop : o.op = Op.call { callee := Callee.builtin Builtin.len, args := #[x], argTypes := #[82] })
    (hm : a.eval x = .map (some mb)) (hK : wpList Try.prog ops Q rest (a.put o.dst (.int .i64 (m.now.length : Nat))) w) : wpList Try.prog ops Q (o :: rest) a w := by
  refine wpList_len_own w hg x 82 hop 9 87 Try.underlying82 ptrR mb _ D hm h.map ?_
  rw [size_now h]; exact hK
end

theorem tight {w : World} {P : Program} {k : TypeId} {R : Value → Option (DataW (Option Addr) × List MemPlace)} {b n n' : Nat} {D : DataW (Option Addr)} (h : w.ownsMap P k R b n D) (hs : Maps.size D = n') : w.ownsMap P k R b n' D := by
  obtain ⟨es, clock, h1, h2, h3, rfl⟩ := h
  refine ⟨es, clock, h1, h2, ?_, rfl⟩
  rw [← hs]
  simp [Maps.size, length_sorted]
theorem look_fresh {l : List (Key × Nat)} {n : Nat} (h : ∀ p ∈ l, p.2 < n) {k : Key} {i : Nat} (hl : look l k = some i) : i < n := h _ (look_some hl)
theorem DirIs.fb {D : DataW (Option Addr)} {fb fb' : Nat → Nat} {l : List (Key × Nat)} (h : DirIs D fb l) {n : Nat} (hn : ∀ p ∈ l, p.2 < n) (he : ∀ i, i < n → fb' i = fb i) : DirIs D fb' l :=
  ⟨h.map, h.rises, fun k => by
    rw [h.at_ k]
    cases e : look l k with
    | none => rfl
    | some i => simp [he i (look_fresh hn e)], h.has⟩
theorem pv_fb {fb fb' : Nat → Nat} {n : Nat} (he : ∀ i, i < n → fb' i = fb i) {o : Option Nat} (h : ∀ i, o = some i → i < n) : pv fb' o = pv fb o := by
  cases o with
  | none => rfl
  | some i => simp [pv, he i (h i rfl)]
theorem chgRow_fb {fb fb' : Nat → Nat} {n : Nat} (he : ∀ i, i < n → fb' i = fb i) : ∀ {l : List Chg}, (∀ c ∈ l, (∀ i, c.was = some i → i < n) ∧ (∀ i, c.over = some i → i < n)) → chgRow fb' l = chgRow fb l
  | [], _ => rfl
  | c :: r, h => by
    have h1 := h c (by simp)
    have ih := chgRow_fb he (l := r) (fun c hc => h c (by simp [hc]))
    unfold chgRow at ih ⊢
    rw [List.flatMap_cons, List.flatMap_cons, ih]
    simp only [chgCells, pv_fb he h1.1, pv_fb he h1.2]
theorem len_ins {l : List (Key × Nat)} {k : Key} (h : look l k = none) (v : Nat) : (ins l k v).length = l.length + 1 := by
  induction l with
  | nil => rfl
  | cons p r ih =>
    simp only [look] at h
    split at h
    · cases h
    · rename_i hne
      simp only [ins]
      split
      · simp
      · simp [ih h]
theorem ids_ins {l : List (Key × Nat)} {k : Key} (h : look l k = none) (v : Nat) : ((ins l k v).map (·.2)).Perm (v :: l.map (·.2)) := by
  induction l with
  | nil => exact List.Perm.refl _
  | cons p r ih =>
    simp only [look] at h
    split at h
    · cases h
    · rename_i hne
      simp only [ins]
      split
      · exact List.Perm.refl _
      · simp only [List.map_cons]
        exact (List.Perm.cons _ (ih h)).trans (List.Perm.swap _ _ _)
theorem usedOf_perm {fl : List Fl} {l : List (Key × Nat)} : usedOf fl l = ((l.map (·.2)).map (lenOf fl)).sum := by simp [usedOf, Function.comp_def]
theorem usedOf_ins {fl : List Fl} {l : List (Key × Nat)} {k : Key} (h : look l k = none) (v : Nat) : usedOf fl (ins l k v) = lenOf fl v + usedOf fl l := by
  rw [usedOf_perm, usedOf_perm, ((ids_ins h v).map _).sum_nat]
  simp
theorem usedOf_more {fl : List Fl} {l : List (Key × Nat)} (f : Fl) (h : ∀ p ∈ l, p.2 < fl.length) : usedOf (fl ++ [f]) l = usedOf fl l := by
  unfold usedOf
  congr 1
  refine List.map_congr_left fun p hp => ?_
  unfold lenOf
  rw [List.getElem?_append_left (h p hp)]

theorem fld_of_block {n : Nat} {w : World} {b : Nat} {cs : Array Value} {t : TypeId} {f : Nat → Value} (h : w.heap[b]? = some (.cells cs t (0, 0))) (hf : ∀ j, j < n → cs[j]? = some (f j)) : Fld n w b f :=
  ⟨(Array.getElem?_eq_some_iff.1 h).1, fun j hj => ⟨by rw [← hf j hj]; simp [World.cell?, h], by simp [World.frozen?, h]⟩⟩
/-- A new file of that name. -/
def Dm.born (m : Dm) (k : Key) : Dm := { m with fl := m.fl ++ [({ data := [], sure := 0 } : Fl)], now := ins m.now k m.fl.length }
theorem Pdu.born {T : Nat → Nat} {w w2 : World} {d mb : Nat} {fb : Nat → Nat} {m : Dm} {cv : Value} {D : DataW (Option Addr)} {u : Nat} (h : Pdu T w d mb fb m cv D u) {k : Key} (hn : look m.now k = none) (hl : m.now.length < 8388608) {n : Nat}
    (hown : w2.ownsMap Try.prog 9 ptrR mb n (D.put (.string k) (.held (some ⟨w.heap.size, 0, none⟩)))) (hg : (w.alloc (.cells #[.slice none 0 0, .int .i64 0] 90)).grownBy w2 (some mb)) :
    ∃ T', Pdu T' w2 d mb (upd fb m.fl.length w.heap.size) (m.born k) cv (D.put (.string k) (.held (some ⟨w.heap.size, 0, none⟩))) u ∧ Goes T T' w w2 := by
  have htd := h.td
  have htm := h.tm
  have hdlt : d < w.heap.size := h.top.1.1
  have hmlt : mb < w.heap.size := h.map.lt
  have k0 : Keep [mb] w (w.alloc (.cells #[.slice none 0 0, .int .i64 0] 90)) := Keep.alloc _ _ _
  have k1 : Keep [mb] (w.alloc (.cells #[.slice none 0 0, .int .i64 0] 90)) w2 := Keep.grown hg
  have kk : Keep [mb] w w2 := k0.trans k1
  have hs2 : w.heap.size < w2.heap.size := Nat.lt_of_lt_of_le (by simp) k1.size
  obtain ⟨T', hT⟩ : ∃ T' : Nat → Nat, T' = upd T w.heap.size (10 + 2 * m.fl.length) := ⟨_, rfl⟩
  have ht : ∀ x, x < w.heap.size → T' x = T x := fun x hx => by rw [hT, upd_other _ _ (by omega)]
  have hnew : T' w.heap.size = 10 + 2 * m.fl.length := by rw [hT, upd_same]
  have hfb : ∀ i, i < m.fl.length → upd fb m.fl.length w.heap.size i = fb i := fun i hi => upd_other _ _ (by omega)
  have hin : ∀ x ∈ [mb], T' x = 2 := by intro x hx; simp at hx; subst hx; rw [ht _ hmlt]; exact htm
  have hdir : DirIs (D.put (.string k) (.held (some ⟨w.heap.size, 0, none⟩))) (upd fb m.fl.length w.heap.size) (ins m.now k m.fl.length) := by
    have := (h.dir.fb h.ids hfb).put k m.fl.length
    rw [upd_same] at this
    exact this
  have hlen := len_ins hn m.fl.length
  refine ⟨T', ⟨?_, ?_, ?_, ?_, ?_, ?_, ?_, hdir, ?_, ?_, ?_, ?_, h.room, ?_, h.csz⟩, ?_⟩
  · have t1 := h.top.keep kk (by simp; intro e; rw [e, htm] at htd; omega)
    exact t1
  · rw [ht _ hdlt]; exact htd
  · rw [ht _ hmlt]; exact htm
  · intro b hb
    rw [hT, upd_other _ _ (by omega)]
    exact h.fresh b (by omega)
  · show w2.ownsRow 0 112 4 cv m.ch.length (chgRow (upd fb m.fl.length w.heap.size) m.ch)
    rw [chgRow_fb hfb h.cids]
    exact kk.own h.chg (fun g hg' hm => by have := h.tc g hg'; simp at hm; rw [hm, htm] at this; omega)
  · intro b hb; rw [ht b (h.chg.lt b hb).2]; exact h.tc b hb
  · refine tight hown ?_
    show _ = (ins m.now k m.fl.length).length
    exact size_dir hdir hown keyed Try.underlying9
  · intro j f hj
    have hj' : (m.fl ++ [({ data := [], sure := 0 } : Fl)])[j]? = some f := hj
    by_cases e : j < m.fl.length
    · rw [List.getElem?_append_left e] at hj'
      obtain ⟨a, c, hf⟩ := h.file j f hj'
      rw [hfb j e]
      exact ⟨a, c, (hf.tags ht).keep kk (fun x hx => by have := hin x hx; omega) (fun x hx => by have := hin x hx; omega)⟩
    · have e' : j = m.fl.length := by
        have := (List.getElem?_eq_some_iff.1 hj').1
        simp at this; omega
      subst e'
      simp at hj'
      subst hj'
      rw [upd_same]
      have hb : w2.heap[w.heap.size]? = some (.cells #[.slice none 0 0, .int .i64 0] 90) := by
        exact (k1.block _ (by simp) (by simp; omega)).trans (heap_alloc_new w _)
      exact ⟨none, 0, ⟨hnew, fld_of_block hb (fun j hj => by
        match j, hj with
        | 0, _ => rfl
        | 1, _ => rfl), Hb.of ⟨World.ownsRow_nil _ _ _ _, by simp⟩, fun ad e => (by cases e), Nat.le_refl _, Nat.zero_le _⟩⟩
  · intro p hp
    show p.2 < (m.fl ++ [({ data := [], sure := 0 } : Fl)]).length
    rw [List.length_append]
    rcases ins_mem hp with rfl | hp
    · simp
    · have := h.ids p hp; simp; omega
  · show ((ins m.now k m.fl.length).map (·.2)).Nodup
    rw [(ids_ins hn m.fl.length).nodup_iff, List.nodup_cons]
    refine ⟨fun hm => ?_, h.apart⟩
    obtain ⟨p, hp, e⟩ := List.mem_map.1 hm
    have := h.ids p hp
    omega
  · intro c hc
    show (∀ i, _ → i < (m.fl ++ [({ data := [], sure := 0 } : Fl)]).length) ∧ (∀ i, _ → i < (m.fl ++ [({ data := [], sure := 0 } : Fl)]).length)
    have := h.cids c hc
    rw [List.length_append]
    exact ⟨fun i hi => by have := this.1 i hi; omega, fun i hi => by have := this.2 i hi; omega⟩
  · show (ins m.now k m.fl.length).length ≤ 1073741824
    omega
  · refine ⟨kk.os, kk.tape, kk.output, kk.size, fun b hb hz => ⟨kk.block b hb (fun hm => ?_), by rw [ht b hb]; exact hz⟩⟩
    have := hin b hm
    rw [ht b hb, hz] at this
    omega
theorem Pdi.born {T : Nat → Nat} {w w2 : World} {d mb : Nat} {fb : Nat → Nat} {m : Dm} {cv : Value} {D : DataW (Option Addr)} (h : Pdi T w d mb fb m cv D) {k : Key} (hn : look m.now k = none) (hl : m.now.length < 8388608) {n : Nat}
    (hown : w2.ownsMap Try.prog 9 ptrR mb n (D.put (.string k) (.held (some ⟨w.heap.size, 0, none⟩)))) (hg : (w.alloc (.cells #[.slice none 0 0, .int .i64 0] 90)).grownBy w2 (some mb)) :
    ∃ T', Pdi T' w2 d mb (upd fb m.fl.length w.heap.size) (m.born k) cv (D.put (.string k) (.held (some ⟨w.heap.size, 0, none⟩))) ∧ Goes T T' w w2 := by
  obtain ⟨T', h1, h2⟩ := Pdu.born h hn hl hown hg
  have e : (m.born k).used = m.used := by
    show usedOf (m.fl ++ [({ data := [], sure := 0 } : Fl)]) (ins m.now k m.fl.length) = usedOf m.fl m.now
    rw [usedOf_ins hn, usedOf_more _ h.ids]
    simp [lenOf]
  refine ⟨T', ?_, h2⟩
  show Pdu _ _ _ _ _ _ _ _ (m.born k).used
  rw [e]; exact h1
end Dsk
end Go.Proofs.Ytbloifnibgdeoaa
