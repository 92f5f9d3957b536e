import Derived.Test.YtbloifnibgdeoaaDMea
import Derived.Deep.RegionLaw
import Derived.Deep.DrawnRows
namespace Go.Proofs.Ytbloifnibgdeoaa
namespace Dsk
open Go.RowKit Go.Shelf Go.Maps Go.Sort Byt Laws
set_option linter.unusedVariables false
set_option maxRecDepth 100000

/-- A file of that name, with bytes. -/
def Dm.bornF (m : Dm) (k : Key) (f : Fl) : Dm := { m with fl := m.fl ++ [f], now := ins m.now k m.fl.length }
theorem Pdu.bornF {T : Nat → Nat} {w w1 w2 : World} {d mb : Nat} {fb : Nat → Nat} {m : Dm} {cv : Value} {D : DataW (Option Addr)} {u : Nat} (h : Pdu T w d mb fb m cv D u) {k : Key} (hn : look m.now k = none) (hl : m.now.length < 8388608) {n : Nat} {f : Fl} {a1 : Option Addr} {c1 : Nat}
    (hb : Below w.heap.size w w1) (hnew : New 5 w.heap.size w1 a1 c1 f.data) (hsu : f.sure ≤ f.data.length) (hbig : f.data.length ≤ 2147483648)
    (hown : w2.ownsMap Try.prog 9 ptrR mb n (D.put (.string k) (.held (some ⟨w1.heap.size, 0, none⟩)))) (hg : (w1.alloc (.cells #[.slice a1 f.data.length c1, .int .i64 f.sure] 90)).grownBy w2 (some mb)) :
    ∃ T', Pdu T' w2 d mb (upd fb m.fl.length w1.heap.size) (m.bornF k f) cv (D.put (.string k) (.held (some ⟨w1.heap.size, 0, none⟩))) u ∧ Goes T T' w w2 := by
  have htd := h.td
  have htm := h.tm
  have hdlt : d < w.heap.size := h.top.1.1
  have hmlt : mb < w.heap.size := h.map.lt
  have hs1 := hb.size
  have k0 : Keep [mb] w (w1.alloc (.cells #[.slice a1 f.data.length c1, .int .i64 f.sure] 90)) := (Keep.below hb).trans (Keep.alloc _ _ _)
  have k1 : Keep [mb] (w1.alloc (.cells #[.slice a1 f.data.length c1, .int .i64 f.sure] 90)) w2 := Keep.grown hg
  have kk : Keep [mb] w w2 := k0.trans k1
  have hs2 : w1.heap.size < w2.heap.size := Nat.lt_of_lt_of_le (by simp) k1.size
  have hdat : ∀ b, (Value.slice a1 f.data.length c1).ownBlock = some b → w.heap.size ≤ b ∧ b < w1.heap.size := fun b hb' => hnew.row.lt b hb'
  obtain ⟨T', hT⟩ : ∃ T' : Nat → Nat, T' = fun x => if x = w1.heap.size then 10 + 2 * m.fl.length else if (Value.slice a1 f.data.length c1).ownBlock = some x then 11 + 2 * m.fl.length else T x := ⟨_, rfl⟩
  have ht : ∀ x, x < w.heap.size → T' x = T x := fun x hx => by
    rw [hT]
    simp only
    rw [if_neg (by omega), if_neg (fun e => by have := (hdat x e).1; omega)]
  have hnewT : T' w1.heap.size = 10 + 2 * m.fl.length := by rw [hT]; simp
  have hdatT : ∀ b, (Value.slice a1 f.data.length c1).ownBlock = some b → T' b = 11 + 2 * m.fl.length := fun b hb' => by
    rw [hT]; simp only
    rw [if_neg (by have := (hdat b hb').2; omega), if_pos hb']
  have hfb : ∀ i, i < m.fl.length → upd fb m.fl.length w1.heap.size i = fb i := fun i hi => upd_other _ _ (by omega)
  have hin : ∀ x ∈ [mb], T' x = 2 := by intro x hx; simp at hx; subst hx; rw [ht _ hmlt]; exact htm
  have hdir : DirIs (D.put (.string k) (.held (some ⟨w1.heap.size, 0, none⟩))) (upd fb m.fl.length w1.heap.size) (ins m.now k m.fl.length) := by
    have := (h.dir.fb h.ids hfb).put k m.fl.length
    rw [upd_same] at this
    exact this
  have hlen := len_ins hn m.fl.length
  refine ⟨T', ⟨?_, ?_, ?_, ?_, ?_, ?_, ?_, hdir, ?_, ?_, ?_, ?_, h.room, ?_, h.csz⟩, ?_⟩
  · exact h.top.keep kk (by simp; intro e; rw [e, htm] at htd; omega)
  · rw [ht _ hdlt]; exact htd
  · rw [ht _ hmlt]; exact htm
  · intro b hb'
    rw [hT]; simp only
    rw [if_neg (by omega), if_neg (fun e => by have := (hdat b e).2; omega)]
    exact h.fresh b (by omega)
  · show w2.ownsRow 0 112 4 cv m.ch.length (chgRow (upd fb m.fl.length w1.heap.size) m.ch)
    rw [chgRow_fb hfb h.cids]
    exact kk.own h.chg (fun g hg' hm => by have := h.tc g hg'; simp at hm; rw [hm, htm] at this; omega)
  · intro b hb'; rw [ht b (h.chg.lt b hb').2]; exact h.tc b hb'
  · refine tight hown ?_
    show _ = (ins m.now k m.fl.length).length
    exact size_dir hdir hown keyed Try.underlying9
  · intro j g hj
    have hj' : (m.fl ++ [f])[j]? = some g := hj
    by_cases e : j < m.fl.length
    · rw [List.getElem?_append_left e] at hj'
      obtain ⟨a, c, hf⟩ := h.file j g hj'
      rw [hfb j e]
      exact ⟨a, c, (hf.tags ht).keep kk (fun x hx => by have := hin x hx; omega) (fun x hx => by have := hin x hx; omega)⟩
    · have e' : j = m.fl.length := by
        have := (List.getElem?_eq_some_iff.1 hj').1
        simp at this; omega
      subst e'
      simp at hj'
      subst hj'
      rw [upd_same]
      have hbk : w2.heap[w1.heap.size]? = some (.cells #[.slice a1 f.data.length c1, .int .i64 f.sure] 90) :=
        (k1.block _ (by simp) (by simp; omega)).trans (heap_alloc_new w1 _)
      have kA : Keep [] w1 (w1.alloc (.cells #[.slice a1 f.data.length c1, .int .i64 f.sure] 90)) := Keep.alloc _ _ _
      refine ⟨a1, c1, ⟨hnewT, fld_of_block hbk (fun j hj => by
        match j, hj with
        | 0, _ => rfl
        | 1, _ => rfl), ?_, fun ad e => hdatT ad.block (by rw [e]; rfl), hsu, hbig⟩⟩
      have r1 := k1.own (kA.own hnew.row (by simp)) (fun x hx hm => by simp at hm; subst hm; have := (hdat _ hx).1; omega)
      exact Hb.of (New.lower ⟨r1, hnew.byte⟩ (Nat.zero_le _))
  · intro p hp
    show p.2 < (m.fl ++ [f]).length
    rw [List.length_append]
    rcases ins_mem hp with rfl | hp
    · simp
    · have := h.ids p hp; simp; omega
  · show ((ins m.now k m.fl.length).map (·.2)).Nodup
    rw [(ids_ins hn m.fl.length).nodup_iff, List.nodup_cons]
    refine ⟨fun hm => ?_, h.apart⟩
    obtain ⟨p, hp, e⟩ := List.mem_map.1 hm
    have := h.ids p hp
    omega
  · intro c hc
    show (∀ i, _ → i < (m.fl ++ [f]).length) ∧ (∀ i, _ → i < (m.fl ++ [f]).length)
    have := h.cids c hc
    rw [List.length_append]
    exact ⟨fun i hi => by have := this.1 i hi; omega, fun i hi => by have := this.2 i hi; omega⟩
  · show (ins m.now k m.fl.length).length ≤ 1073741824
    omega
  · refine ⟨kk.os, kk.tape, kk.output, kk.size, fun b hb' hz => ⟨kk.block b hb' (fun hm => ?_), by rw [ht b hb']; exact hz⟩⟩
    have := hin b hm
    rw [ht b hb', hz] at this
    omega
theorem Pdu.below {T : Nat → Nat} {w w' : World} {d mb : Nat} {fb : Nat → Nat} {m : Dm} {cv : Value} {D : DataW (Option Addr)} {u : Nat} (h : Pdu T w d mb fb m cv D u) (hb : Below w.heap.size w w') : Pdu T w' d mb fb m cv D u := by
  have hk : Keep [] w w' := Keep.below hb
  refine { h with top := h.top.keep hk (by simp), fresh := fun b hb' => h.fresh b (Nat.le_trans hb.size hb'), chg := hk.own h.chg (by simp), map := ?_, file := fun i f hf => ?_ }
  · obtain ⟨es, clock, h1, h2⟩ := h.map
    exact ⟨es, clock, (hb.block mb h.map.lt).trans h1, h2⟩
  · obtain ⟨a, c, hf⟩ := h.file i f hf
    exact ⟨a, c, hf.keep hk (by simp) (by simp)⟩

/-- The files of which a disk is made. -/
def flOf (fs : List Fj) : List Fl := fs.map fun f => ⟨f.data, f.sure.toNat⟩
def addAll : List (Key × Nat) → Nat → List Fj → List (Key × Nat)
  | l, _, [] => l
  | l, i, f :: r => addAll (ins l (ky f.name) i) (i + 1) r
theorem addAll_snoc (f : Fj) : ∀ (fs : List Fj) (l : List (Key × Nat)) (i : Nat), addAll l i (fs ++ [f]) = ins (addAll l i fs) (ky f.name) (i + fs.length)
  | [], l, i => rfl
  | g :: r, l, i => by
    have := addAll_snoc f r (ins l (ky g.name) i) (i + 1)
    simp only [List.cons_append, addAll, this, List.length_cons]
    congr 1; omega
/-- A new disk. -/
def newM (room : Nat) (fs : List Fj) : Dm := ⟨Rig.zero, room, flOf fs, addAll [] 0 fs, [], false⟩
theorem newM_snoc (room : Nat) (fs : List Fj) (f : Fj) : newM room (fs ++ [f]) = (newM room fs).bornF (ky f.name) ⟨f.data, f.sure.toNat⟩ := by
  simp only [newM, Dm.bornF, flOf, addAll_snoc, List.map_append, List.map_cons, List.map_nil, List.length_map, Nat.zero_add]
end Dsk
end Go.Proofs.Ytbloifnibgdeoaa
