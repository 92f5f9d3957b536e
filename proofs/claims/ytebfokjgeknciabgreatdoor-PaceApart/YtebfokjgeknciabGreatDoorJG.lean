import Derived.Test.YtebfokjgeknciabGreatDoorProg
import Derived.Test.YtebfokjgeknciabGreatDoorJI
import Derived.WalkKit
import Derived.WalkSpells
import Derived.WalkLawsBesides
import Derived.ArgAppend
import Derived.OwnWalk
import Derived.Deep.RegionLaw
import Derived.Deep.DrawnRows
namespace Go.Proofs.YtebfokjgeknciabGreatDoor
namespace BookI
open Go.RowKit Laws Irw
set_option linter.unusedVariables false
attribute [local go_sem ↓] Go.wp_at_zero Go.wp_at_succ

theorem info66 : (Tryz.prog.info? 33).map (fun i => (i.zero, i.size, i.bytes)) = some (some (.slice none 0 0), 1, 24) := by kernel_rfl
theorem info3 : (Tryz.prog.info? 3).map (fun i => (i.zero, i.size, i.bytes)) = some (some (.int .i64 0), 1, 8) := by kernel_rfl
theorem cells_s {s : Int} : cellsI [s] = [.int .i64 s] := rfl
/-- The cells of an owned row, as an append reads them. -/
theorem own_news {w : World} {base : Nat} {e : TypeId} {size g n c : Nat} {xs : List Value} (h : w.ownsRow base e size (.slice (some ⟨g, 0, none⟩) n c) n xs) : ∀ j u, xs[j]? = some u → w.cell? ((⟨g, 0, none⟩ : Addr).add j) = some u := h.cells rfl
theorem own_base {w : World} {base base' : Nat} {e : TypeId} {size n : Nat} {v : Value} {xs : List Value} (h : w.ownsRow base e size v n xs) (hb : ∀ g, v.ownBlock = some g → base' ≤ g) : w.ownsRow base' e size v n xs := by
  obtain ⟨h1, h2⟩ := h
  refine ⟨h1, ?_⟩
  rcases h2 with h2 | ⟨g, c, cur, hv, hg, hr⟩
  · exact .inl h2
  · exact .inr ⟨g, c, cur, hv, hb g (by rw [hv]; rfl), hr⟩

theorem OwnI.prefix {w : World} {g c n : Nat} {es l : List Int} (h : w.ownsRow 0 3 1 (.slice (some ⟨g, 0, none⟩) n c) n (cellsI es)) (hn : l.length ≤ n) (hl : es.take l.length = l) : OwnI w (g, c, l) := by
  obtain ⟨h1, h2⟩ := h
  refine OwnI.of ⟨cells1 l, ?_⟩
  rcases h2 with ⟨h2, _⟩ | ⟨g', cap, cur, hv, hg, hh, hc1, hc2, hc3, hr⟩
  · cases h2
  · cases hv
    refine .inr ⟨_, _, cur, rfl, hg, hh, Nat.le_trans hn hc1, hc2, hc3, ?_⟩
    have e : cur.toList.take (l.length * 1) = (cur.toList.take (n * 1)).take (l.length * 1) := by rw [List.take_take]; congr 1; omega
    show cur.toList.take (l.length * 1) = cellsI l
    rw [e, hr, Nat.mul_one]
    unfold cellsI
    rw [← List.map_take, hl]

/-- One list is laid on: the inner loop's relation. -/
def Grown (wo wi : World) (a : Item) (v : Value) (m : Nat) : Prop :=
  Keep [a.1] wo wi ∧ OwnI wi a ∧ ((a.2.1 = nilC ∧ m = 0 ∧ v = .slice none 0 0) ∨ ∃ gb cb es', ((gb = a.1 ∧ cb = a.2.1) ∨ wo.heap.size ≤ gb) ∧ es'.length = a.2.2.length + m ∧ es'.take a.2.2.length = a.2.2 ∧ v = .slice (some ⟨gb, 0, none⟩) (a.2.2.length + m) cb ∧ wi.ownsRow 0 3 1 (.slice (some ⟨gb, 0, none⟩) (a.2.2.length + m) cb) (a.2.2.length + m) (cellsI es'))
theorem Grown.start {w : World} {a : Item} {v : Value} (h : OwnI w a) (hv : v = vI a) : Grown w w a v 0 := by
  refine ⟨Keep.refl _ _, h, ?_⟩
  by_cases hn : a.2.1 = nilC
  · exact .inl ⟨hn, rfl, hv.trans (vI_nil hn)⟩
  · exact .inr ⟨a.1, a.2.1, a.2.2, .inl ⟨rfl, rfl⟩, rfl, List.take_length, hv.trans (vI_not hn), h.own hn⟩

theorem Grown.fits {wo wi w2 : World} {a : Item} {gb cb m : Nat} {es' : List Int} {s : Int} {o : Obj} (ha : a.1 < wo.heap.size) (hk : Keep [a.1] wo wi) (hoa : OwnI wi a) (hg : (gb = a.1 ∧ cb = a.2.1) ∨ wo.heap.size ≤ gb) (hl : es'.length = a.2.2.length + m) (hp : es'.take a.2.2.length = a.2.2)
    (hgr : (wi.alloc o).grownBy w2 (some gb)) (hown : w2.ownsRow 0 3 1 (.slice (some ⟨gb, 0, none⟩) (a.2.2.length + m + 1) cb) (a.2.2.length + m + 1) (cellsI es' ++ [.int .i64 s])) : Grown wo w2 a (.slice (some ⟨gb, 0, none⟩) (a.2.2.length + m + 1) cb) (m + 1) := by
  have k2 : Keep [gb] wi w2 := (Keep.alloc [gb] wi o).trans (Keep.grown hgr)
  have e2 : cellsI es' ++ [.int .i64 s] = cellsI (es' ++ [s]) := by rw [cellsI_append, cells_s]
  rw [e2] at hown
  have hp2 : (es' ++ [s]).take a.2.2.length = a.2.2 := by rw [List.take_append_of_le_length (by omega)]; exact hp
  refine ⟨hk.later k2 (fun x hx => ?_), ?_, .inr ⟨gb, cb, es' ++ [s], hg, by simp [hl]; omega, hp2, rfl, hown⟩⟩
  · simp at hx
    subst hx
    rcases hg with ⟨e, _⟩ | e
    · left; simp [e]
    · exact .inr e
  · rcases hg with ⟨e, e'⟩ | e
    · have := OwnI.prefix hown (by omega) hp2
      rw [e, e'] at this
      exact this
    · exact hoa.block (k2.block _ hoa.lt (by simp; omega))
theorem Grown.grows {wo wi w2 : World} {a : Item} {m : Nat} {es' : List Int} {v' : Value} {s : Int} {o : Obj} (hk : Keep [a.1] wo wi) (hoa : OwnI wi a) (hl : es'.length = a.2.2.length + m) (hp : es'.take a.2.2.length = a.2.2)
    (hgr : (wi.alloc o).grownBy w2 none) (hown : w2.ownsRow (wi.alloc o).heap.size 3 1 v' (a.2.2.length + m + 1) (cellsI es' ++ [.int .i64 s])) : Grown wo w2 a v' (m + 1) := by
  have k2 : Keep [] wi w2 := (Keep.alloc [] wi o).trans (Keep.grown hgr)
  have e2 : cellsI es' ++ [.int .i64 s] = cellsI (es' ++ [s]) := by rw [cellsI_append, cells_s]
  rw [e2] at hown
  have hp2 : (es' ++ [s]).take a.2.2.length = a.2.2 := by rw [List.take_append_of_le_length (by omega)]; exact hp
  rcases hown.2 with ⟨_, h0⟩ | ⟨g, c, cur, hv, hg, _⟩
  · omega
  · subst hv
    have hz := hk.size
    simp at hg
    exact ⟨hk.later k2 (by simp), hoa.block (k2.block _ hoa.lt (by simp)), .inr ⟨g, c, es' ++ [s], .inr (by omega), by simp [hl]; omega, hp2, rfl, own_base hown (fun _ _ => Nat.zero_le _)⟩⟩
theorem Grown.first {wo wi w2 : World} {a : Item} {v' : Value} {s : Int} {o : Obj} (hn : a.2.1 = nilC) (hk : Keep [a.1] wo wi) (hoa : OwnI wi a)
    (hgr : (wi.alloc o).grownBy w2 none) (hown : w2.ownsRow (wi.alloc o).heap.size 3 1 v' (0 + 1) (cellsI [] ++ [.int .i64 s])) : Grown wo w2 a v' (0 + 1) := by
  have h0 := hoa.empty hn
  exact Grown.grows (es' := []) (m := 0) hk hoa (by rw [h0]; rfl) (by rw [h0]; rfl) hgr (by rw [h0]; exact hown)

theorem Core.keep {T : Nat → Nat} {w w' : World} {K : Nat} {f : Nat → Value} {L : Nat → List Value} {bs : List Nat} (h : Core T w K f L) (hk : Keep bs w w') (hb : ∀ b ∈ bs, 21 ≤ T b) : Core T w' K f L :=
  ⟨h.fld.keep hk (fun hm => by have := hb K hm; rw [h.tag] at this; omega), h.tag, fun j h1 h2 => ⟨hk.own (h.spine j h1 h2).1 (fun g hg hm => by have := hb g hm; have := (h.spine j h1 h2).2 g hg; omega), (h.spine j h1 h2).2⟩⟩
theorem Keep.past {t : Nat} {T : Nat → Nat} {w w' : World} {bs : List Nat} (hk : Keep bs w w') (hb : ∀ b ∈ bs, T b ≠ 0 ∧ T b < t) : Past t T w T w' :=
  ⟨hk.os, hk.tape, hk.output, hk.size, fun b hl hx => ⟨hk.block b hl (fun hm => by have := hb b hm; omega), rfl⟩⟩
theorem Core.retag {T : Nat → Nat} {w : World} {K : Nat} {f : Nat → Value} {L : Nat → List Value} (h : Core T w K f L) (g t : Nat) (hK : g ≠ K) (hs : ∀ j, 13 ≤ j → j < 21 → ∀ b, (f j).ownBlock = some b → b ≠ g) : Core (upd T g t) w K f L :=
  ⟨h.fld, by rw [upd_other _ _ (Ne.symm hK)]; exact h.tag, fun j h1 h2 => ⟨(h.spine j h1 h2).1, fun b hb => by rw [upd_other _ _ (hs j h1 h2 b hb)]; exact (h.spine j h1 h2).2 b hb⟩⟩
theorem Core.retag' {T : Nat → Nat} {w : World} {K : Nat} {f : Nat → Value} {L : Nat → List Value} (h : Core T w K f L) (g t : Nat) (hg : 21 ≤ T g) : Core (upd T g t) w K f L :=
  h.retag g t (fun e => by rw [e, h.tag] at hg; omega) (fun j h1 h2 b hb e => by have := (h.spine j h1 h2).2 b hb; rw [e] at this; omega)
theorem Past.retag {t : Nat} {T : Nat → Nat} {w : World} (g s : Nat) (h0 : T g ≠ 0) (h1 : T g < t) : Past t T w (upd T g s) w :=
  ⟨rfl, rfl, rfl, Nat.le_refl _, fun b hb hx => ⟨rfl, upd_other _ _ (fun e => by rw [e] at hx; omega)⟩⟩

/-- The tags behind one list's being laid on. -/
def tagG (T : Nat → Nat) (a gb : Nat) : Nat → Nat := upd (upd T a 100) gb 100
theorem tagG_other {T : Nat → Nat} {a gb b : Nat} (h1 : b ≠ a) (h2 : b ≠ gb) : tagG T a gb b = T b := by unfold tagG; rw [upd_other _ _ h2, upd_other _ _ h1]
theorem tagG_or {T : Nat → Nat} {a gb b : Nat} (h1 : b ≠ a) (h2 : T b = 100) : tagG T a gb b = 100 := by
  unfold tagG
  by_cases e : b = gb
  · rw [e, upd_same]
  · rw [upd_other _ _ e, upd_other _ _ h1]; exact h2
theorem tagG_a (T : Nat → Nat) (a gb : Nat) : tagG T a gb a = 100 := by
  unfold tagG
  by_cases e : a = gb
  · rw [e, upd_same]
  · rw [upd_other _ _ e, upd_same]
theorem grownTags {T : Nat → Nat} {wo wi : World} {K : Nat} {f : Nat → Value} {L : Nat → List Value} {o : List (Item × Item)} {fr : List Item} {k gb cb : Nat} {a : Item} (hC : Core T wo K f L) (hO : Outs fr k T wo o) (hF : Fr k T wo fr) (ha : fr[k]? = some a) (hfl : fr.length ≤ 100000)
    (hk : Keep [a.1] wo wi) (hoa : OwnI wi a) (hg : (gb = a.1 ∧ cb = a.2.1) ∨ wo.heap.size ≤ gb) :
    Core (tagG T a.1 gb) wi K f L ∧ Outs fr (k + 1) (tagG T a.1 gb) wi o ∧ Fr (k + 1) (tagG T a.1 gb) wi fr ∧ Past 1000000 T wo (tagG T a.1 gb) wi := by
  obtain ⟨oa, ta, _⟩ := hF k a (Nat.le_refl _) ha
  have hkl := (List.getElem?_eq_some_iff.1 ha).1
  have hal := oa.lt
  have c1 : Core (upd T a.1 100) wo K f L := hC.retag' _ _ (by omega)
  have c2 : Core (tagG T a.1 gb) wo K f L := by
    unfold tagG
    rcases hg with ⟨e, _⟩ | e
    · subst e; exact c1.retag' _ _ (by rw [upd_same]; omega)
    · exact c1.tagNew _ _ e
  have p1 : Past 1000000 T wo (upd T a.1 100) wo := Past.retag _ _ (by omega) (by omega)
  have p2 : Past 1000000 (upd T a.1 100) wo (tagG T a.1 gb) wo := by
    unfold tagG
    rcases hg with ⟨e, _⟩ | e
    · subst e; exact Past.retag _ _ (by rw [upd_same]; omega) (by rw [upd_same]; omega)
    · exact Past.tagNew _ _ e
  have hta := tagG_a T a.1 gb
  have nb : ∀ b, b < wo.heap.size → b ≠ a.1 → b ≠ gb := fun b h1 h2 e => by
    rcases hg with ⟨e', _⟩ | e'
    · exact h2 (e.trans e')
    · omega
  refine ⟨c2.keep hk (by simp [hta]), fun p hm => ?_, fun i x hi hx => ?_, (p1.trans p2).trans (Keep.past hk (by simp [hta]))⟩
  · obtain ⟨h1, h2, h3, h4, h5, h6⟩ := hO p hm
    have n2 : p.2.1 ≠ a.1 := fun e => by rw [e] at h5; clear h6; omega
    have r2 := h2.keep (hk.block _ h2.1 (by simpa using n2)) hk.size
    rcases h6 with h6 | ⟨i, i1, i2, i3⟩
    · have n1 : p.1.1 ≠ a.1 := fun e => by rw [e] at h6; omega
      exact ⟨h1.keep (hk.block _ h1.1 (by simpa using n1)) hk.size, r2, h3, h4, tagG_or n2 h5, .inl (tagG_or n1 h6)⟩
    · by_cases e : i = k
      · subst e
        rw [ha] at i2
        cases i2
        exact ⟨hoa.row, r2, h3, h4, tagG_or n2 h5, .inl hta⟩
      · have n1 : p.1.1 ≠ a.1 := fun e => by rw [e] at i3; omega
        exact ⟨h1.keep (hk.block _ h1.1 (by simpa using n1)) hk.size, r2, h3, h4, tagG_or n2 h5, .inr ⟨i, by omega, i2, by rw [tagG_other n1 (nb _ h1.1 n1)]; exact i3⟩⟩
  · obtain ⟨h1, h2, h3⟩ := hF i x (by omega) hx
    have n1 : x.1 ≠ a.1 := fun e => by rw [e] at h2; omega
    exact ⟨h1.block (hk.block _ h1.lt (by simpa using n1)), by rw [tagG_other n1 (nb _ h1.lt n1)]; exact h2, h3⟩

/-- The outer loop's relation. -/
def GrowSt (T : Nat → Nat) (w : World) (K : Nat) (f : Nat → Value) (L : Nat → List Value) (o : List (Item × Item)) (fr : List Item) (k : Nat) (wr : World) : Prop :=
  ∃ T' f' L' r, Core T' wr K f' L' ∧ (Outs fr k T' wr (o ++ r) ∧ Fr k T' wr fr) ∧ L' 13 = (o ++ r).map (fun p => vI p.1) ∧ L' 14 = (o ++ r).map (fun p => vI p.2) ∧ r.length = k ∧ (∀ j, j ≠ 13 → j ≠ 14 → f' j = f j ∧ L' j = L j) ∧ Past 1000000 T w T' wr

/-- A copy in a block of its own. -/
theorem copied {W w1 : World} {e : TypeId} {n g c : Nat} {xs : List Value} {o : Obj} (hgr : ((W.alloc o).drew).grownBy w1 (Value.slice (some ⟨W.heap.size, 0, none⟩) 0 0).ownBlock) (hat : (Value.slice (some ⟨W.heap.size, 0, none⟩) 0 0).ownBlock = some g ∨ g = W.heap.size + 1)
    (hown : w1.ownsRow 0 e 1 (.slice (some ⟨g, 0, none⟩) (0 + n) c) (0 + n) ([] ++ xs)) : Below W.heap.size W w1 ∧ W.heap.size ≤ g ∧ w1.ownsRow 0 e 1 (.slice (some ⟨g, 0, none⟩) n c) n xs := by
  refine ⟨(((Below.refl _ _).alloc (Nat.le_refl _) o).drew).grown hgr (by simp) (fun k hk => ?_), ?_, by simpa using hown⟩
  · have : W.heap.size = k := by simpa [Value.ownBlock] using hk
    omega
  · rcases hat with h | h
    · have : W.heap.size = g := by simpa [Value.ownBlock] using h
      omega
    · omega

/-- Core.app as a walk meets it: one thing is laid in a block of its own first. -/
theorem appJ {T : Nat → Nat} {w w1 : World} {K : Nat} {f : Nat → Value} {L : Nat → List Value} {j : Nat} {x : Value} {aj : Option Addr} {cj g cap : Nat} {o : Obj} (h1 : 13 ≤ j) (h2 : j < 21) (h : Core T w K f L) (hf : f j = .slice aj (L j).length cj)
    (hgr : (w.alloc o).grownBy w1 (Value.slice aj (L j).length cj).ownBlock) (hat : (Value.slice aj (L j).length cj).ownBlock = some g ∨ g = w.heap.size + 1)
    (hown : w1.ownsRow 0 (ety j) 1 (.slice (some ⟨g, 0, none⟩) ((L j).length + 1) cap) ((L j).length + 1) (L j ++ [x])) :
    Fld w1 K f ∧ Core (upd T g j) (w1.setCell ⟨K, j, none⟩ (.slice (some ⟨g, 0, none⟩) ((L j).length + 1) cap)) K (upd f j (.slice (some ⟨g, 0, none⟩) ((L j).length + 1) cap)) (upd L j (L j ++ [x])) ∧
      Past 21 T w (upd T g j) (w1.setCell ⟨K, j, none⟩ (.slice (some ⟨g, 0, none⟩) ((L j).length + 1) cap)) := by
  rw [← hf] at hgr hat
  exact ⟨h.mid j h1 h2 (Keep.alloc [] w o) hgr, h.app j h1 h2 x (Keep.alloc [] w o) hgr (by rcases hat with h' | h'; exact .inl h'; exact .inr (by omega)) hown⟩
/-- The same, behind a copy that was made first, in a block of its own (its tag: t). -/
theorem appC {T : Nat → Nat} {W w w1 : World} {K : Nat} {f : Nat → Value} {L : Nat → List Value} {j : Nat} {x : Value} {aj : Option Addr} {cj g cap g3 : Nat} {o : Obj} {Lj : List Value} (t : Nat) (h1 : 13 ≤ j) (h2 : j < 21) (h : Core T W K f L) (hL : L j = Lj) (hf : f j = .slice aj Lj.length cj) (hB : Below W.heap.size W w) (hg3 : W.heap.size ≤ g3)
    (hgr : (w.alloc o).grownBy w1 (Value.slice aj Lj.length cj).ownBlock) (hat : (Value.slice aj Lj.length cj).ownBlock = some g ∨ g = w.heap.size + 1)
    (hown : w1.ownsRow 0 (ety j) 1 (.slice (some ⟨g, 0, none⟩) (Lj.length + 1) cap) (Lj.length + 1) (Lj ++ [x])) :
    Fld w1 K f ∧ Core (upd (upd T g3 t) g j) (w1.setCell ⟨K, j, none⟩ (.slice (some ⟨g, 0, none⟩) (Lj.length + 1) cap)) K (upd f j (.slice (some ⟨g, 0, none⟩) (Lj.length + 1) cap)) (upd L j (Lj ++ [x])) ∧
      Past 21 T W (upd (upd T g3 t) g j) (w1.setCell ⟨K, j, none⟩ (.slice (some ⟨g, 0, none⟩) (Lj.length + 1) cap)) ∧
      Past 21 (upd T g3 t) w (upd (upd T g3 t) g j) (w1.setCell ⟨K, j, none⟩ (.slice (some ⟨g, 0, none⟩) (Lj.length + 1) cap)) := by
  subst hL
  obtain ⟨a1, a2, a3⟩ := appJ h1 h2 ((h.tagNew g3 t hg3).below hB) hf hgr hat hown
  exact ⟨a1, a2, ((Past.tagNew g3 t hg3).trans (Past.below hB)).trans a3, a3⟩
theorem app40 {T : Nat → Nat} {w w1 : World} {K : Nat} {f : Nat → Value} {L : Nat → List Value} {x : Value} {aj : Option Addr} {cj g cap : Nat} {o : Obj} (h : Core T w K f L) (hf : f 13 = .slice aj (L 13).length cj)
    (hgr : (w.alloc o).grownBy w1 (Value.slice aj (L 13).length cj).ownBlock) (hat : (Value.slice aj (L 13).length cj).ownBlock = some g ∨ g = w.heap.size + 1)
    (hown : w1.ownsRow 0 33 1 (.slice (some ⟨g, 0, none⟩) ((L 13).length + 1) cap) ((L 13).length + 1) (L 13 ++ [x])) :
    Fld w1 K f ∧ Core (upd T g 13) (w1.setCell ⟨K, 13, none⟩ (.slice (some ⟨g, 0, none⟩) ((L 13).length + 1) cap)) K (upd f 13 (.slice (some ⟨g, 0, none⟩) ((L 13).length + 1) cap)) (upd L 13 (L 13 ++ [x])) ∧
      Past 21 T w (upd T g 13) (w1.setCell ⟨K, 13, none⟩ (.slice (some ⟨g, 0, none⟩) ((L 13).length + 1) cap)) := appJ (by omega) (by omega) h hf hgr hat hown

/-- What stands behind growInts. -/
def GrowDone (T : Nat → Nat) (w : World) (K : Nat) (f : Nat → Value) (L : Nat → List Value) (o : List (Item × Item)) (k : Nat) (wr : World) : Prop :=
  ∃ T' f' L' r, Core T' wr K f' L' ∧ Outs [] 0 T' wr (o ++ r) ∧ L' 13 = (o ++ r).map (fun p => vI p.1) ∧ L' 14 = (o ++ r).map (fun p => vI p.2) ∧ r.length = k ∧ f' 17 = .slice none 0 0 ∧ f' 20 = .slice none 0 0 ∧ L' 17 = [] ∧ L' 20 = [] ∧ (∀ j, j ≠ 13 → j ≠ 14 → j ≠ 17 → j ≠ 20 → f' j = f j ∧ L' j = L j) ∧ Past 1000000 T w T' wr

/-- A spine is let go. -/
theorem Core.clear {T : Nat → Nat} {w : World} {K : Nat} {f : Nat → Value} {L : Nat → List Value} (h : Core T w K f L) (j : Nat) (h1 : 13 ≤ j) (h2 : j < 21) : Core T (w.setCell ⟨K, j, none⟩ (.slice none 0 0)) K (upd f j (.slice none 0 0)) (upd L j []) := by
  refine ⟨h.fld.set j (by omega) _, h.tag, fun i i1 i2 => ?_⟩
  by_cases e : i = j
  · subst e
    rw [upd_same, upd_same]
    exact ⟨World.ownsRow_nil _ _ _ _, fun b hb => by cases hb⟩
  · rw [upd_other _ _ e, upd_other _ _ e]
    obtain ⟨s1, s2⟩ := h.spine i i1 i2
    refine ⟨(Keep.set w K j _).own s1 (fun g hg hm => ?_), s2⟩
    have e1 := s2 g hg
    simp at hm
    rw [hm, h.tag] at e1
    omega

theorem growEnd {T : Nat → Nat} {w wo : World} {K : Nat} {f : Nat → Value} {L : Nat → List Value} {o : List (Item × Item)} {fr : List Item} (h : GrowSt T w K f L o fr fr.length wo) :
    GrowDone T w K f L o fr.length ((wo.setCell ⟨K, 17, none⟩ (.slice none 0 0)).setCell ⟨K, 20, none⟩ (.slice none 0 0)) := by
  obtain ⟨T1, f1, L1, r, hC, ⟨hI, _⟩, e40, e41, hr, hs, hP⟩ := h
  have p1 : Past 21 T1 wo T1 (wo.setCell ⟨K, 17, none⟩ (.slice none 0 0)) := Past.set hC.tag (by omega) _ _
  have c1 := hC.clear 17 (by omega) (by omega)
  have p2 : Past 21 T1 (wo.setCell ⟨K, 17, none⟩ (.slice none 0 0)) T1 ((wo.setCell ⟨K, 17, none⟩ (.slice none 0 0)).setCell ⟨K, 20, none⟩ (.slice none 0 0)) := Past.set hC.tag (by omega) _ _
  refine ⟨T1, _, _, r, c1.clear 20 (by omega) (by omega), (hI.done (Nat.le_refl _)).past (p1.trans p2) (by omega), ?_, ?_, hr, ?_, ?_, ?_, ?_, fun j h1 h2 h3 h4 => ?_, hP.trans ((p1.trans p2).mono (by omega))⟩
  · rw [upd_other _ _ (by omega), upd_other _ _ (by omega)]; exact e40
  · rw [upd_other _ _ (by omega), upd_other _ _ (by omega)]; exact e41
  · rw [upd_other _ _ (by omega), upd_same]
  · rw [upd_same]
  · rw [upd_other _ _ (by omega), upd_same]
  · rw [upd_same]
  · rw [upd_other _ _ h4, upd_other _ _ h3, upd_other _ _ h4, upd_other _ _ h3]; exact hs j h1 h2

theorem growStep {T T2 T3 T5 : Nat → Nat} {w wr W3 w3 W5 : World} {K : Nat} {f f1 f5 : Nat → Value} {L L1 L5 : Nat → List Value} {o r : List (Item × Item)} {fr : List Item} {k n gb cb g3 c3 : Nat} {es' : List Int}
    (hP2 : Past 1000000 T w T2 wr) (hI2 : Outs fr (k + 1) T2 wr (o ++ r) ∧ Fr (k + 1) T2 wr fr) (hE : L1 13 = (o ++ r).map (fun p => vI p.1) ∧ L1 14 = (o ++ r).map (fun p => vI p.2) ∧ r.length = k ∧ ∀ j, j ≠ 13 → j ≠ 14 → f1 j = f j ∧ L1 j = L j)
    (hP3 : Past 21 T2 wr T3 W3) (hb : OwnI W3 (gb, cb, es') ∧ T3 gb = 100 ∧ es'.length = n + 30) (hn : n ≤ 1000000000000)
    (hW3 : Below W3.heap.size W3 w3 ∧ W3.heap.size ≤ g3 ∧ w3.ownsRow 0 3 1 (.slice (some ⟨g3, 0, none⟩) (n + 30) c3) (n + 30) (cellsI es'))
    (hC5 : Core T5 W5 K f5 L5) (hP5 : Past 21 T3 W3 T5 W5) (hP5' : Past 21 (upd T3 g3 100) w3 T5 W5)
    (h40 : L5 13 = L1 13 ++ [.slice (some ⟨gb, 0, none⟩) (n + 30) cb]) (h41 : L5 14 = L1 14 ++ [.slice (some ⟨g3, 0, none⟩) (n + 30) c3]) (hs : ∀ j, j ≠ 13 → j ≠ 14 → f5 j = f1 j ∧ L5 j = L1 j) : GrowSt T w K f L o fr (k + 1) W5 := by
  obtain ⟨b1, b2, b3⟩ := hb
  obtain ⟨e1, e2, e3, e4⟩ := hE
  obtain ⟨i1, i2⟩ := hP5.item b1 (.inr (by show 21 ≤ T3 gb; omega))
  have t1 : OwnI w3 (g3, c3, es') := OwnI.of (by rw [b3]; exact hW3.2.2)
  have hc3 : c3 ≠ nilC := own_cap hW3.2.2
  have hcb : cb ≠ nilC := fun hh => by
    have h0 : es' = [] := b1.empty hh
    rw [h0] at b3
    simp at b3
  have t2 : upd T3 g3 100 g3 = 100 := upd_same _ _ _
  obtain ⟨j1, j2⟩ := hP5'.item t1 (.inr (by show 21 ≤ upd T3 g3 100 g3; omega))
  refine ⟨T5, f5, L5, r ++ [((gb, cb, es'), (g3, c3, es'))], hC5, ⟨?_, (hI2.2.past hP3 (by omega)).past hP5 (by omega)⟩, ?_, ?_, by simp [e3], fun j h1 h2 => ⟨(hs j h1 h2).1.trans (e4 j h1 h2).1, (hs j h1 h2).2.trans (e4 j h1 h2).2⟩, hP2.trans ((hP3.trans hP5).mono (by omega))⟩
  · rw [← List.append_assoc]
    exact ((hI2.1.past hP3 (by omega)).past hP5 (by omega)).snoc i1.row j1.row ⟨rfl, i1.fine, j1.fine⟩ (by show es'.length ≤ 2000000000000; omega) (j2.trans t2) (.inl (i2.trans b2))
  · rw [h40, e1, ← List.append_assoc, List.map_append]
    simp [vI, b3, hcb]
  · rw [h41, e2, ← List.append_assoc, List.map_append]
    simp [vI, b3, hc3]

set_option maxRecDepth 100000 in
set_option maxHeartbeats 8000000 in
theorem growInts_any (T : Nat → Nat) (w : World) (K : Nat) (f : Nat → Value) (L : Nat → List Value) (o : List (Item × Item)) (fr : List Item) (Fm : List Int) (hC : Core T w K f L) (hO : Outs fr 0 T w o) (hfr : Fr 0 T w fr)
    (h40 : L 13 = o.map fun p => vI p.1) (h41 : L 14 = o.map fun p => vI p.2) (h44 : L 17 = fr.map vI) (h47 : L 20 = Fm.map (Value.int .i64)) (hF : Fm.length = fr.length)
    (hlen : o.length + fr.length ≤ 100000) :
    Calls Tryz.prog 111 #[.pointer (some ⟨K, 0, none⟩)] w fun e w' => e = .returned (.tuple #[]) ∧ GrowDone T w K f L o fr.length w' := by
  have HC : Hid (Core T w K f L) := hC
  have HST : Hid (GrowSt T w K f L o fr 0 w) := ⟨T, f, L, [], hC, ⟨by simpa using hO, hfr⟩, by simpa using h40, by simpa using h41, rfl, fun _ _ _ => ⟨rfl, rfl⟩, Past.refl _ _ _⟩
  have H44 : Hid (L 17 = fr.map vI) := h44
  have H47 : Hid (L 20 = Fm.map (Value.int .i64)) := h47
  have HF : Hid (Fm.length = fr.length) := hF
  obtain ⟨i66, hi66, hy0, hy1, hy2⟩ := info_parts info66
  obtain ⟨i54, hi54, hz0, hz1, hz2⟩ := info_parts infoIn
  clear hC hO h40 h41 h44 h47 hF hfr
  go_enter Tryz.func111, Tryz.ntmps111
  go_wp2
  go_loopw [2, 3, 4, 5] (fun k _ _ _ wr => ∃ n : Nat, n ≤ fr.length ∧ k = .int .i64 n ∧ GrowSt T w K f L o fr n wr) (fun k _ _ _ _ => fr.length - (intOf k).toNat)
  case atStart => exact ⟨0, Nat.zero_le _, rfl, HST.out⟩
  case round =>
    rename World => wo
    obtain ⟨k, hk, rfl, hst⟩ := hrel
    obtain ⟨T1, f1, L1, r, hC1, hI1, e40, e41, hr, hsame, hP1⟩ := hst
    obtain ⟨a44, c44, e44, d44⟩ := hC1.len 17 (by omega) (by omega)
    have hL44 : (L1 17).length = fr.length := by rw [(hsame 17 (by omega) (by omega)).2, H44.out, List.length_map]
    rw [hL44] at e44 d44
    by_cases hlt : k < fr.length
    · obtain ⟨a, ha⟩ : ∃ a, fr[k]? = some a := ⟨_, List.getElem?_eq_getElem hlt⟩
      obtain ⟨fm, hfm⟩ : ∃ x, Fm[k]? = some x := ⟨_, List.getElem?_eq_getElem (by rw [HF.out]; exact hlt)⟩
      obtain ⟨g44, c44', q1, q2, z44, _, r44⟩ := hC1.at 17 (by omega) (by omega) (by intro e; rw [e] at hL44; simp at hL44; omega)
      have hne47 : L1 20 ≠ [] := by
        rw [(hsame 20 (by omega) (by omega)).2, H47.out]
        intro e
        have e' : Fm.length = 0 := by simpa using congrArg List.length e
        have e'' := HF.out
        omega
      obtain ⟨g47, c47, _, d47, z47, _, r47⟩ := hC1.at 20 (by omega) (by omega) hne47
      rw [hL44] at q1 q2
      rw [(hsame 20 (by omega) (by omega)).2, H47.out, List.length_map, HF.out] at d47
      have r1 := r44 k (vI a) (by rw [(hsame 17 (by omega) (by omega)).2, H44.out, List.getElem?_map, ha]; rfl)
      have r2 := r47 k (.int .i64 fm) (by rw [(hsame 20 (by omega) (by omega)).2, H47.out, List.getElem?_map, hfm]; rfl)
      obtain ⟨hown, htag, hal⟩ := hI1.2 k a (Nat.le_refl _) ha
      have hawo := hown.lt
      have HAK : Hid (fr[k]? = some a) := ha
      have HOWN : Hid (OwnI wo a) := hown
      rw [q1] at e44
      cases e44
      have HST1 : Hid (GrowSt T w K f L o fr k wo) := ⟨T1, f1, L1, r, hC1, hI1, e40, e41, hr, hsame, hP1⟩
      obtain ⟨ad, ca, ev, _, _⟩ := vI_form hown
      rw [ev] at r1
      have HV : Hid (vI a = .slice ad a.2.2.length ca) := ev
      clear ev
      have x1 : (k : Int) < (fr.length : Int) := by omega
      have x0 : (0 : Int) ≤ (k : Int) := by omega
      clear hC1 hI1 e40 e41 hr hsame hP1 hL44 d44 ha hfm r44 r47 hne47 htag q1
      go_wp2
      go_loopw [4, 5] (fun v i wi => ∃ m : Nat, m ≤ 30 ∧ i = .int .i64 m ∧ Grown wo wi a v m) (fun _ i _ => 30 - (intOf i).toNat)
      case atStart => exact ⟨0, by omega, rfl, Grown.start HOWN.out HV.out.symm⟩
      case round =>
        obtain ⟨m, hm, rfl, hKe, hOa, hcase⟩ := hrel
        rcases hcase with ⟨hn, rfl, rfl⟩ | ⟨gb, cb, es', hgb, hl', hpre, rfl, hown'⟩
        · have HKE : Hid (Keep [a.1] wo wr) := hKe
          have HOA : Hid (OwnI wr a) := hOa
          have HNN : Hid (a.2.1 = nilC) := hn
          clear hKe hOa hn hown
          go_wp2_with (at_builtin; go_loud (refine wpList_append_grows _ (by rfl) (.tmp 33) (.tmp 39) 33 (by rfl) 3 i54 _ 1 8 Tryz.underlying33 hi54 hz0 hz1 hz2 rfl (by omega) none 0 0 (cellsI []) (by rfl) (fun _ => ⟨rfl, rfl⟩) (by simp [cellsI]) (by intro b hb; cases hb) ⟨wr.heap.size, 0, none⟩ 1 1 [.int .i64 _] (by rfl) (by rfl) (World.news_of_block (heap_alloc_new wr _)) (by intro u hu; simp at hu; subst hu; rfl) (by omega) (by unfold maxLen; omega) (by omega) ?_; intro v2 w2 hown2 hgr2; have HG2 : Hid (Grown wo w2 a v2 (0 + 1)) := Grown.first HNN.out HKE.out HOA.out hgr2 hown2; clear hown2 hgr2))
          go_roundw
          case rel => exact ⟨0 + 1, by omega, by go_num, HG2.out⟩
          case measure => simp [intOf]
        have HKE : Hid (Keep [a.1] wo wr) := hKe
        have HOA : Hid (OwnI wr a) := hOa
        have HGB : Hid ((gb = a.1 ∧ cb = a.2.1) ∨ wo.heap.size ≤ gb) := hgb
        have HLL : Hid (es'.length = a.2.2.length + m) := hl'
        have HPRE : Hid (es'.take a.2.2.length = a.2.2) := hpre
        have HOW : Hid (wr.ownsRow 0 3 1 (.slice (some ⟨gb, 0, none⟩) (a.2.2.length + m) cb) (a.2.2.length + m) (cellsI es')) := hown'
        have HCL : Hid ((cellsI es').length = (a.2.2.length + m) * 1) := (cells1 es').trans (by rw [hl'])
        by_cases hm30 : m < 30
        · clear hKe hOa hgb hl' hpre hown' hown
          by_cases hfit : a.2.2.length + m + 1 ≤ cb
          · go_wp2_with (at_builtin; refine wpList_append_fits _ (by rfl) (.tmp 33) (.tmp 39) 33 (by rfl) 0 3 i54 1 Tryz.underlying33 hi54 hz1 gb (a.2.2.length + m) cb (cellsI es') (by rfl) (HOW.out.alloc _) ⟨wr.heap.size, 0, none⟩ 1 1 [.int .i64 _] (by rfl) (by rfl) (World.news_of_block (heap_alloc_new wr _)) (by intro u hu; simp at hu; subst hu; rfl) hfit ?_; intro w2 hown2 hgr2; have HG2 : Hid (Grown wo w2 a (.slice (some ⟨gb, 0, none⟩) (a.2.2.length + m + 1) cb) (m + 1)) := Grown.fits hawo HKE.out HOA.out HGB.out HLL.out HPRE.out hgr2 hown2; clear hown2 hgr2)
            go_roundw
            case rel => exact ⟨m + 1, by omega, by go_num, HG2.out⟩
            case measure => simp [intOf]; omega
          · go_wp2_with (at_builtin; refine wpList_append_grows _ (by rfl) (.tmp 33) (.tmp 39) 33 (by rfl) 3 i54 _ 1 8 Tryz.underlying33 hi54 hz0 hz1 hz2 rfl (by omega) (some ⟨gb, 0, none⟩) (a.2.2.length + m) cb (cellsI es') (by rfl) (by intro e; cases e) HCL.out (by intro b hb j u hu; cases hb; exact own_news (World.ownsRow.alloc HOW.out _) j u hu) ⟨wr.heap.size, 0, none⟩ 1 1 [.int .i64 _] (by rfl) (by rfl) (World.news_of_block (heap_alloc_new wr _)) (by intro u hu; simp at hu; subst hu; rfl) (by omega) (by unfold maxLen; omega) (by omega) ?_; intro v2 w2 hown2 hgr2; have HG2 : Hid (Grown wo w2 a v2 (m + 1)) := Grown.grows HKE.out HOA.out HLL.out HPRE.out hgr2 hown2; clear hown2 hgr2)
            go_roundw
            case rel => exact ⟨m + 1, by omega, by go_num, HG2.out⟩
            case measure => simp [intOf]; omega
        · have hm' : m = 30 := by omega
          subst hm'
          obtain ⟨T1, f1, L1, r, hC1, ⟨hI1, hF1⟩, e40, e41, hr, hsame, hP1⟩ := HST1.out
          obtain ⟨hC2, hI2, hF2, hP2⟩ := grownTags hC1 hI1 hF1 HAK.out (by omega) hKe hOa hgb
          have hgt : tagG T1 a.1 gb gb = 100 := upd_same _ _ _
          have HC2 : Hid (Core (tagG T1 a.1 gb) wr K f1 L1) := hC2
          have HP2 : Hid (Past 1000000 T w (tagG T1 a.1 gb) wr) := hP1.trans hP2
          have HI2 : Hid (Outs fr (k + 1) (tagG T1 a.1 gb) wr (o ++ r) ∧ Fr (k + 1) (tagG T1 a.1 gb) wr fr) := ⟨hI2, hF2⟩
          have HB2 : Hid (OwnI wr (gb, cb, es') ∧ (tagG T1 a.1 gb) gb = 100 ∧ es'.length = a.2.2.length + 30) := ⟨OwnI.of (by rw [hl']; exact hown'), hgt, hl'⟩
          have HE : Hid (L1 13 = (o ++ r).map (fun p => vI p.1) ∧ L1 14 = (o ++ r).map (fun p => vI p.2) ∧ r.length = k ∧ ∀ j, j ≠ 13 → j ≠ 14 → f1 j = f j ∧ L1 j = L j) := ⟨e40, e41, hr, hsame⟩
          have n40 : (L1 13).length ≤ 100000 := by rw [e40]; simp; omega
          have n41 : (L1 14).length ≤ 100000 := by rw [e41]; simp; omega
          obtain ⟨a40, c40, ef40, d40⟩ := hC2.len 13 (by omega) (by omega)
          have HF40 : Hid (f1 13 = .slice a40 (L1 13).length c40) := ef40
          have HO40 : Hid (wr.ownsRow 0 33 1 (.slice a40 (L1 13).length c40) (L1 13).length (L1 13)) := by have := (hC2.spine 13 (by omega) (by omega)).1; rw [ef40] at this; exact this
          generalize tagG T1 a.1 gb = T2 at *
          clear hC1 hI1 hF1 e40 e41 hr hsame hP1 hC2 hI2 hF2 hP2 hown' hown hl' hKe hOa hgb hpre ef40 hm hm30 hgt HOW HCL HKE HOA HGB HPRE HLL
          go_wp2_with (at_builtin; refine wpList_app _ (by rfl) (.tmp 45) (.tmp 47) 34 (by rfl) 0 33 i66 _ 1 24 Tryz.underlying34 hi66 hy0 hy1 hy2 rfl (by omega) _ (L1 13).length (L1 13) (by rfl) (HO40.out.alloc _) ⟨wr.heap.size, 0, none⟩ 1 1 [.slice (some ⟨gb, 0, none⟩) (a.2.2.length + 30) cb] (by rfl) (by rfl) (World.news_of_block (heap_alloc_new wr _)) (by intro u hu; simp at hu; subst hu; rfl) (by intro _; omega) (by unfold maxLen; omega) (by omega) (Nat.zero_le _) (wr.heap.size + 1) (by simp) ?_; intro g2 c2 w2 hown2 hgr2 hat2 hlt2; have HR2 : Hid (Fld w2 K f1 ∧ Core (upd T2 g2 13) (w2.setCell ⟨K, 13, none⟩ (.slice (some ⟨g2, 0, none⟩) ((L1 13).length + 1) c2)) K (upd f1 13 (.slice (some ⟨g2, 0, none⟩) ((L1 13).length + 1) c2)) (upd L1 13 (L1 13 ++ [.slice (some ⟨gb, 0, none⟩) (a.2.2.length + 30) cb])) ∧ Past 21 T2 wr (upd T2 g2 13) (w2.setCell ⟨K, 13, none⟩ (.slice (some ⟨g2, 0, none⟩) ((L1 13).length + 1) c2))) := app40 HC2.out HF40.out hgr2 hat2 hown2; have s40 := (HR2.out.1.2 13 (by omega)).1; have z40 := (HR2.out.1.2 13 (by omega)).2; clear hown2 hgr2 hat2)
          generalize w2.setCell ⟨K, 13, none⟩ (.slice (some ⟨g2, 0, none⟩) ((L1 13).length + 1) c2) = W3 at *
          obtain ⟨_, hC3, hP3⟩ := HR2.out
          have hb3 := hP3.item HB2.out.1 (.inr (by rw [HB2.out.2.1]; omega))
          have HB3 : Hid (OwnI W3 (gb, cb, es') ∧ (upd T2 g2 13) gb = 100 ∧ es'.length = a.2.2.length + 30) := ⟨hb3.1, hb3.2.trans HB2.out.2.1, HB2.out.2.2⟩
          obtain ⟨a41, c41, ef41, d41⟩ := hC3.len 14 (by omega) (by omega)
          have eL : upd L1 13 (L1 13 ++ [.slice (some ⟨gb, 0, none⟩) (a.2.2.length + 30) cb]) 14 = L1 14 := upd_other _ _ (by omega)
          rw [eL] at ef41 d41
          have z41 := (hC3.fld.2 14 (by omega)).2
          have hK3 := hC3.fld.1
          have HF41 : Hid (upd f1 13 (.slice (some ⟨g2, 0, none⟩) ((L1 13).length + 1) c2) 14 = .slice a41 (L1 14).length c41) := ef41
          have HO41 : Hid (W3.ownsRow 0 33 1 (.slice a41 (L1 14).length c41) (L1 14).length (L1 14)) := by have := (hC3.spine 14 (by omega) (by omega)).1; rw [ef41, eL] at this; exact this
          have HON : Hid (W3.ownsRow 0 3 1 (.slice (some ⟨gb, 0, none⟩) (a.2.2.length + 30) cb) (a.2.2.length + 30) (cellsI es')) := by
            have h1 := HB3.out.1.own (fun hh => by
              have h0 : es' = [] := HB3.out.1.empty hh
              have h2 := HB3.out.2.2
              rw [h0] at h2
              simp at h2)
            rw [HB3.out.2.2] at h1
            exact h1
          have HLN : Hid ((cellsI es').length = (a.2.2.length + 30) * 1) := (cells1 es').trans (by rw [HB3.out.2.2])
          clear hC3 hP3 hb3 ef41 eL s40 z40 d40 hlt2
          go_region_law (first
            | (refine step_app _ (by rfl) (.tmp 56) (.tmp 57) 33 (by rfl) 0 3 i54 _ 1 8 Tryz.underlying33 hi54 hz0 hz1 hz2 rfl (by omega) (.slice (some ⟨W3.heap.size, 0, none⟩) 0 0) 0 [] (by rfl) (World.ownsRow_lit W3 #[] 0 (Nat.zero_le _) (by simp [maxLen]) (by simp)) ⟨gb, 0, none⟩ (a.2.2.length + 30) cb (cellsI es') (by rfl) HLN.out (own_news (World.ownsRow.alloc HON.out _)) (cellsI_one _) (by intro e; cases e) (by unfold maxLen; omega) (by omega) (Nat.zero_le _) (W3.heap.size + 1) (by simp) ?_; intro g3 c3 w3 hown3 hgr3 hat3 hlt3; have HW3 : Hid (Below W3.heap.size W3 w3 ∧ W3.heap.size ≤ g3 ∧ w3.ownsRow 0 3 1 (.slice (some ⟨g3, 0, none⟩) (a.2.2.length + 30) c3) (a.2.2.length + 30) (cellsI es')) := copied hgr3 hat3 hown3; have y41 := (HW3.out.1.cell (p := ⟨K, 14, none⟩) hK3).trans d41; have q41 := (HW3.out.1.frozen (p := ⟨K, 14, none⟩) hK3).trans z41; have hK4 : K < w3.heap.size := Nat.lt_of_lt_of_le hK3 HW3.out.1.size; clear hown3 hgr3 hat3)
            | (refine step_app _ (by rfl) (.tmp 55) (.tmp 59) 34 (by rfl) 0 33 i66 _ 1 24 Tryz.underlying34 hi66 hy0 hy1 hy2 rfl (by omega) (.slice a41 (L1 14).length c41) (L1 14).length (L1 14) (by rfl) ((own_below HO41.out HW3.out.1).alloc _) ⟨w3.heap.size, 0, none⟩ 1 1 [.slice (some ⟨g3, 0, none⟩) (a.2.2.length + 30) c3] (by rfl) (by rfl) (World.news_of_block (heap_alloc_new w3 _)) (by intro u hu; simp at hu; subst hu; rfl) (by intro _; omega) (by unfold maxLen; omega) (by omega) (Nat.zero_le _) (w3.heap.size + 1) (by simp) ?_; intro g4 c4 w4 hown4 hgr4 hat4 hlt4; have HR4 : Hid (_ ∧ _ ∧ _ ∧ _) := appC (j := 14) 100 (by omega) (by omega) HR2.out.2.1 (upd_other _ _ (by omega)) HF41.out HW3.out.1 HW3.out.2.1 hgr4 hat4 hown4; have p41 := (HR4.out.1.2 14 (by omega)).1; have v41 := (HR4.out.1.2 14 (by omega)).2; clear hown4 hgr4 hat4))
          all_goals
            go_wp2
            go_roundw
            case rel =>
              refine ⟨k + 1, by omega, by go_num, growStep HP2.out HI2.out HE.out HR2.out.2.2 HB3.out hal HW3.out HR4.out.2.1 HR4.out.2.2.1 HR4.out.2.2.2 ?_ ?_ ?_⟩
              · rw [upd_other _ _ (by omega), upd_same]
              · rw [upd_same]
              · intro j h1 h2
                rw [upd_other _ _ h2, upd_other _ _ h1, upd_other _ _ h2, upd_other _ _ h1]
                exact ⟨rfl, rfl⟩
            case measure => simp [intOf]; omega
    · have hkk : k = fr.length := by omega
      subst hkk
      obtain ⟨_, _, _, d47⟩ := hC1.len 20 (by omega) (by omega)
      have z44 := (hC1.fld.2 17 (by omega)).2
      have z47 := (hC1.fld.2 20 (by omega)).2
      have HST1 : Hid (GrowSt T w K f L o fr fr.length wo) := ⟨T1, f1, L1, r, hC1, hI1, e40, e41, hr, hsame, hP1⟩
      clear hC1 hI1 e40 e41 hr hsame hP1 hL44 e44
      go_wp2
      go_end0
      exact ⟨rfl, growEnd HST1.out⟩

end BookI
end Go.Proofs.YtebfokjgeknciabGreatDoor
